import PyProof.Rows.All
import Wide.All
import OpenK.AllK
import Wide.FinOn
import Lean
import PyProof.EqAt
import PyProof.EqKinds
import PyProof.TupleCall
import PyProof.CompUse
import PyProof.NeData
import PyProof.WalksEnum
import PyProof.EnumMake
import PyProof.ZipIter
import PyProof.Rows.EnumRows
import PyProof.Rows.FactsT2
import KE.KDictList
import PyProof.Rows.SortRuns
import PyProof.Rows.SortWalk
import KE.KSortTup
import PyProof.Rows.SortStr
import PyProof.ListRange
import PyProof.StrOps2
import PyProof.StrBlock2
import PyProof.AutoIntG3
import PyProof.ListMulRight
import PyProof.Rows.ListMulArg
import PyProof.Rows.CallKwBuiltin
import PyProof.Rows.StrMul
import KE.KMinBuiltin
import PyProof.TupleKey
import PyProof.SetKind
import PyProof.Rows.SetFrom
import PyProof.DictWalks
import KE.KRevIter
import PyProof.NsDelKeeps
import PyProof.AutoSeq1
import PyProof.SliceList
import PyProof.StrCalls2
import PyProof.StrLawsTight
import PyProof.Rows.StrNews2
import PyProof.Rows.StrLawsPart
import PyProof.Rows.StrFirst
import PyProof.CallStr
import KE.KIntText
import PySem.Challenge.RW_kinlook_k25_scrolls_as_text
open List renaming mem_cons_of_mem->dz,length_map->da,mem_append_right->eT,mem_cons_self->fo,mem_append->eW,mem_cons->eK,sublist_append_right->kF,size_toArray->hR,nodup_append->hU,getElem?_eq_some_iff->kU,mem_append_left->js,getElem?_append_right->n4,length_append->kg,map_cons->hV,all_eq_true->ki,mem_singleton->mw,mem_map->iL,append_nil->kX,nodup_cons->mx,length_take->n5,nodup_nil->mz,replicate_succ->qA,length_cons->ox,map_append->n9,filterMap_cons->sd,getElem?_append_left->x3,map_map->mB,length_drop->qB,flatten_cons->se,drop_eq_getElem_cons->zh,not_mem_nil->sf,length_replicate->x4,take_of_length_le->zi,getElem?_map->vj,length_singleton->zk,sublist_append_left->A5,cons_append->vk,nil_sublist->vn,mem_range->vt,all_cons->vv,any_cons->vw,append_eq_nil_iff->CD,append_assoc->A6,set_eq_take_append_cons_drop->MS,mem_of_getElem?->CF,mem_of_mem_drop->CH,mem_of_mem_take->CL,eq_of_mem_replicate->GA,getElem?_replicate->GB,all_map->x5,getElem?_set_self->GH,find?_cons->A7,length_range->CM,getElem?_eq_none->GL,mem_iff_getElem?->GN,cons_ne_nil->CY,map_singleton->GO,drop_length->GP,map_take->Dp,take_append_drop->MV,eq_nil_iff_forall_not_mem->Ts,getElem?_set_ne->MX,nil_append->GU,map_congr_left->MY,map_eq_nil_iff->MZ,drop_zero->GV,contains_cons->M0,map_replicate->Nc,pairwise_map->Nn,lookup_cons->Nw,nodup_range->NC
open PySem renaming wpAny_bind->bS,wpAny_pure->dv,wpAny_mono->oa
open Nat renaming le_refl->cK,le_trans->fE,lt_of_lt_of_le->kl,ne_of_lt->i3,zero_le->i5,le_of_lt->A8,lt_irrefl->x6,le_of_not_lt->ND,toDigits->A9,mul_le_mul->Dx,lt_of_le_of_lt->Yg,one_mul->DB,lt_trans->NF
open PySem.Heap renaming lt_size->eR,get?_push_of_some->jv,get?_push_size->pd,get?_update_other->NH
open Bool renaming false_ne_true->ko,and_eq_true->i6,eq_iff_iff->vx,true_and->tq,false_eq_true->GW,or_eq_true->GY,not_eq_true'->NJ
open Int renaming emod_lt_of_pos->mE,emod_nonneg->mG,toNat_of_nonneg->x8
open Array renaming length_toList->tv,getElem?_eq_some_iff->DC,getD_eq_getD_getElem?->G0,getElem?_toList->DE,getElem?_eq_none->He,getElem?_extract->NM,append_assoc->NR
open Option renaming ne_none_iff_exists'->DF,map_eq_some_iff->NS
local macro_rules | `(command| def $i:declId $s:optDeclSig $v:declVal)=>`(command| noncomputable def $i:declId $s:optDeclSig $v:declVal)
local macro_rules | `(command| abbrev $i:declId $s:optDeclSig $v:declVal)=>`(command| noncomputable abbrev $i:declId $s:optDeclSig $v:declVal)
set_option compiler.extract_closed false
local macro_rules | `(tactic| walk_at "l") => `(tactic| first | lia | omega)
local macro_rules | `(tactic| walk_at "s1") => `(tactic| solve_by_elim (maxDepth := 4) [Nat.lt_of_lt_of_le, Nat.lt_of_le_of_lt, Nat.le_trans, Nat.lt_trans, Nat.le_of_lt, Nat.le_of_not_lt])
local macro_rules | `(tactic| walk_at "s2") => `(tactic| solve_by_elim (maxDepth := 5) [Nat.lt_of_lt_of_le, Nat.lt_of_le_of_lt, Nat.le_trans, Nat.le_of_lt, Nat.le_of_not_lt, Nat.lt_of_not_le, Nat.lt_of_succ_lt, Nat.le_of_succ_le])
local macro_rules | `(tactic| walk_at "s3") => `(tactic| solve_by_elim (maxDepth := 5) [Int.lt_of_lt_of_le, Int.lt_of_le_of_lt, Int.le_trans, Int.le_of_lt, Int.not_lt.mp, Int.not_le.mp])
local macro_rules | `(tactic| walk_at "s4") => `(tactic| solve_by_elim (maxDepth := 5) [Nat.le_trans, Nat.lt_of_lt_of_le, Nat.le_of_lt, Nat.le_add_right, Nat.le_add_left, Nat.add_le_add_left, Nat.add_lt_add_left, Nat.succ_le_succ, Nat.sub_le])
theorem L2.fq{α β:Type _}{A B C:α->β->Prop}{G:Prop}(x:∃ a b,A a b/\B a b/\C a b)(k:∀ a b,A a b->B a b->C a b->G):G :=
 let ⟨a,b,p,q,r⟩:=x
 k a b p q r
set_option Elab.async false
set_option linter.all false
set_option maxRecDepth 100000
namespace L2
open PySem PySem.Spec PyProof.Rows
abbrev Key:=Sum Int Str
def Bi:Key->Value->Bool
 |.inl k,v=>Value.isInt k v
 |.inr x,v=>Value.isStrOf x v
def Yh(w:World):Key->Int
 |.inl k=>hashInt k
 |.inr x=>hashStr w x
theorem vE:∀ {k:Key} {v:Value},Bi k v=true->(∃ i t,k=Sum.inl i/\v=Value.int i t)\/(∃ x t,k=Sum.inr x/\v=Value.str x t)
 |.inl i,v,h=>by obtain⟨t,e⟩:=Value.isInt_shape (k:=i) (v:=v) h;exact .inl ⟨i,t,rfl,e⟩
 |.inr x,v,h=>by obtain⟨t,e⟩:=Value.isStrOf_shape (x:=x) (v:=v) h;exact .inr ⟨x,t,rfl,e⟩
theorem Yi(i:Int)(t:Tok):Bi (.inl i) (.int i t)=true:=by simp[Bi,Value.isInt]
theorem Yj(x:Str)(t:Tok):Bi (.inr x) (.str x t)=true:=by simp[Bi,Value.isStrOf]
theorem Yk(a b:Int):decide ((Sum.inl a:Key)=Sum.inl b)=(a == b):=by
 by_cases e:a=b
 ·subst e;simp
 ·have h:¬ (Sum.inl a:Key)=Sum.inl b:=fun q=>e (Sum.inl.inj q);rw[decide_eq_false h];exact(beq_eq_false_iff_ne.mpr e).symm
theorem Yl(a b:Str):decide ((Sum.inr a:Key)=Sum.inr b)=decide (a=b):=by
 by_cases e:a=b
 ·subst e;simp
 ·have h:¬ (Sum.inr a:Key)=Sum.inr b:=fun q=>e (Sum.inr.inj q);rw[decide_eq_false h,decide_eq_false e]
theorem Ym(a:Int)(b:Str):decide ((Sum.inl a:Key)=Sum.inr b)=false:=decide_eq_false (fun q=>nomatch q)
theorem Yn(a:Str)(b:Int):decide ((Sum.inr a:Key)=Sum.inl b)=false:=decide_eq_false (fun q=>nomatch q)
def qE(prog:Program)(w:World):PySem.KeyKind prog w Key where
 is:=Bi
 hash:=Yh w
 inj:=fun v a b ha hb=>by
  rcases vE ha with⟨i,t,rfl,rfl⟩|⟨x,t,rfl,rfl⟩
  ·rcases vE hb with⟨j,u,rfl,e⟩|⟨y,u,rfl,e⟩
   ·injection e with e1 _;rw[e1]
   ·exact nomatch e
  ·rcases vE hb with⟨j,u,rfl,e⟩|⟨y,u,rfl,e⟩
   ·exact nomatch e
   ·injection e with e1 _;rw[e1]
 byValue:=fun k v h=>by rcases vE h with⟨i,t,rfl,rfl⟩|⟨x,t,rfl,rfl⟩<;>rfl
 pyHash:=fun hv h=>by
  rcases vE hv with⟨i,t,rfl,rfl⟩|⟨x,t,rfl,rfl⟩
  ·exact wpAny_pyHash_int h
  ·exact wpAny_pyHash_str h
 eqBool:=fun hu hv h=>by
  rcases vE hu with⟨i,t,rfl,rfl⟩|⟨x,t,rfl,rfl⟩
  ·rcases vE hv with⟨j,u,rfl,rfl⟩|⟨y,u,rfl,rfl⟩
   ·rw[Yk] at h;exact wpAny_eqBool_int h
   ·rw[Ym] at h;exact SeqAt.EqAt.int_str i t y u _ _ _ _ h
  ·rcases vE hv with⟨j,u,rfl,rfl⟩|⟨y,u,rfl,rfl⟩
   ·rw[Yn] at h;exact SeqAt.EqAt.str_int x t j u _ _ _ _ h
   ·rw[Yl] at h;exact wpAny_eqBool_str h
 «strs» := fun k x t v h=>by
  rcases vE h with⟨i,u,rfl,e⟩|⟨y,u,rfl,e⟩
  ·exact nomatch e
  ·injection e with e1 _;subst e1;cases v<;>rfl
theorem Yo(prog:Program)(w:World)(i:Int)(t:Tok):(qE prog w).is (.inl i) (.int i t)=true:=Yi i t
theorem Yp(prog:Program)(w:World)(x:Str)(t:Tok):(qE prog w).is (.inr x) (.str x t)=true:=Yj x t
inductive V where
 |non|bl (b:Bool)|int (i:Int)|str (x:Str)|pf (b:Array UInt8)|vF (b:UInt64)|ref (a:Addr)|ty (n:String)
 deriving DecidableEq
def RelV:V->Value->Prop
 |.non,u=>u=Value.none
 |.bl b,u=>u=Value.bool b
 |.int i,u=>∃ t,u=Value.int i t
 |.str x,u=>∃ t,u=Value.str x t
 |.pf b,u=>∃ t,u=Value.bytes b t
 |.vF b,u=>∃ t,u=Value.float b t
 |.ref a,u=>u=Value.ref a
 |.ty n,u=>u=Value.type n
abbrev Vals:List V->List Value->Prop:=Paired RelV
theorem Vals.length(r:Vals xs us):xs.length=us.length:=Paired.length r
theorem Vals.get:∀ {xs:List V} {us:List Value} {i:Nat} {x:V},Vals xs us->xs[i]? = some x->∃ u,us[i]? = some u/\RelV x u
 |_,_,_,_,.nil,e=>by simp at e
 |_,_,0,_,.cons r _,e=>by simp at e;subst e;exact⟨_,rfl,r⟩
 |_,_,i+1,x,.cons _ t,e=>by obtain⟨u,h1,h2⟩:=Vals.get (i:=i) (x:=x) t (by simpa using e);exact⟨u,by simpa using h1,h2⟩
theorem Vals.set(r:RelV x u):∀ {xs:List V} {us:List Value} (i:Nat),Vals xs us->Vals (xs.set i x) (us.set i u)
 |_,_,_,.nil=>.nil
 |_,_,0,.cons _ t=>.cons r t
 |_,_,i+1,.cons q t=>.cons q (Vals.set r i t)
theorem Vals.append:∀ {xs ys:List V} {us ws:List Value},Vals xs us->Vals ys ws->Vals (xs++ys) (us++ws)
 |_,_,_,_,.nil,s=>s
 |_,_,_,_,.cons r t,s=>.cons r (Vals.append t s)
theorem Vals.take:∀ {xs:List V} {us:List Value} (n:Nat),Vals xs us->Vals (xs.take n) (us.take n)
 |_,_,0,_=>.nil
 |_,_,_+1,.nil=>.nil
 |_,_,n+1,.cons r t=>.cons r (Vals.take n t)
theorem Vals.drop:∀ {xs:List V} {us:List Value} (n:Nat),Vals xs us->Vals (xs.drop n) (us.drop n)
 |_,_,0,r=>r
 |_,_,_+1,.nil=>.nil
 |_,_,n+1,.cons _ t=>Vals.drop n t
def pj:Option V->Option Value->Prop
 |some v,some u=>RelV v u
 |none,none=>True
 |_,_=>False
def KV{κ:Type}:List (κ × V)->List (κ × Value)->Prop:=Paired fun(p:κ × V) (q:κ × Value)=>p.1=q.1/\RelV p.2 q.2
def kV:Key->V
 |.inl i=>.int i
 |.inr x=>.str x
inductive HO where
 /-- a list -/
 |lst (xs:List V)
 /-- a tuple (never changes) -/
 |tup (xs:List V)
 /-- a dict whose keys are ints and texts;one whose keys are tuples of ints and texts (the empty one is both) -/
 |dK (ah:List (Key × V))|dT (ah:List (List Key × V))
 /-- a set of ints: its members,its size -/
 |set (S:Int->Bool) (n:Nat)
 /-- an instance of the class at C,its dict at dx,its attributes -/
 |ins (C dx:Addr) (fs:List (Str × V))
 /-- the dict of the instance at x -/
 |own (x:Addr)
 /-- the dict of an exception -/
 |xd (fs:List (Str × V))
 /-- a bound method,f of x -/
 |met (f x:Addr)
 /-- a range object lo,lo+1,.. below hi -/
 |HC (lo hi:Int)
 /-- a thing that is known to the object (the script;a dict while a loop walks it): read,never written while it is so -/
 |kG (o:Obj) (u:HO)
 /-- a code object's table -/
 |ya (ps:Array Value)
 /-- any other thing,by what is true of its one object (a def of eX' own: eY' a S n:=HO.ext fun h=>..) -/
 |ext (φ:Heap->Prop)
abbrev Hp:=Addr->Option HO
def upd(H:Hp)(a:Addr)(o:HO):Hp:=fun b=>if b=a then some o else H b
theorem gg:upd H a o a=some o:=by unfold upd;rw[if_pos rfl]
theorem eS(h:b≠a):upd H a o b=H b:=by unfold upd;rw[if_neg h]
theorem si{H:Hp}{a b:Addr}{o:HO}(h:H a=some o)(h':H b=none):a≠b:=by intro e;subst e;rw[h] at h';cases h'
section
variable (P:Program)(w:World)
def fw(H:Hp)(h:Heap)(a:Addr):HO->Prop
 |.lst xs=>xs.length<=sizeLine/\∃ (its:List Value) (n:Nat),Vals xs its/\h.get? a=some { cls:=.type "list",data:=.seq its.toArray n }
 |.tup xs=>xs.length<=sizeLine/\∃ its:List Value,Vals xs its/\IsTup h a its.toArray
 |.dK ah=>ah.length<=sizeLine/\(a == sysModules)=false/\∃ vs,KV ah vs/\h.DictOf (qE P w) a vs
 |.dT ah=>ah.length<=sizeLine/\(a == sysModules)=false/\∃ xs:List (List Key × Addr × Value),
   Paired (fun(p:List Key × V) (q:List Key × Addr × Value)=>p.1=q.1/\H q.2.1=some (.tup (p.1.map kV))/\RelV p.2 q.2.2) ah xs /\
   ∃ o es ep,h.get? a=some o/\o.ExactDict/\o.data=.dict es ep/\es.toList=xs.map (entryOfKey (tupleKind (qE P w)))/\(xs.map (·.1)).Nodup
 |.set S n=>h.SetOf (intKind P w) a S n
 |.ins C dx fs=>H dx=some (.own a)/\fs.length<=1000/\dx≠a/\h.get? a=some (PySem.W.instObj C dx) /\
   ∃ mA,h.Ns1 dx mA/\(∀ f,pj (fs.lookup f) (mA f))/\PySem.Within mA (fs.map (·.1))
 |.own _=>∃ o,h.get? a=some o
 |.xd fs=>∃ mA,h.Ns1 a mA/\∀ f,pj (fs.lookup f) (mA f)
 |.HC lo hi=>∃ t u v,h.get? a=some { cls:=.type "range",data:=.fields #[.int lo t,.int hi u,.int 1 v] }
 |.kG o u=>h.get? a=some o/\fw H h a u
 |.ya ps=>h.get? a=some { cls:=.none,data:=.fields ps }
 |.met f x=>h.get? a=some (PySem.W.methodObj (.ref f) (.ref x))
 |.ext φ=>φ h/\(∃ o,h.get? a=some o)/\∀ h1 h2:Heap,φ h1->(∀ o,h1.get? a=some o->h2.get? a=some o)->φ h2
def fR(H:Hp)(h:Heap):Prop:=∀ a o,H a=some o->fw P w H h a o
end
section
variable {P:Program}{w:World}{H H':Hp}{h h':Heap}{a:Addr}{o:HO}
theorem fw.lt(x:fw P w H h a o):a<h.objs.size:=by
 cases o with
 |lst xs=>obtain⟨_,_,_,_,e⟩:=x;exact eR e
 |tup xs=>obtain⟨_,_,_,p⟩:=x;exact p.lt
 |dK ah=>obtain⟨_,_,_,_,o,_,_,e,_⟩:=x;exact eR e
 |dT ah=>obtain⟨_,_,_,_,o,_,_,e,_⟩:=x;exact eR e
 |set S n=>obtain⟨o,_,_,_,e,_⟩:=x;exact eR e
 |ins C dx fs=>obtain⟨_,_,_,e,_⟩:=x;exact eR e
 |own y=>obtain⟨_,e⟩:=x;exact eR e
 |xd fs=>obtain⟨_,⟨_,_,_,e,_⟩,_⟩:=x;exact eR e
 |HC lo hi=>obtain⟨_,_,_,e⟩:=x;exact eR e
 |kG ob u=>obtain⟨e,_⟩:=x;exact eR e
 |ya ps=>exact eR (show h.get? a=some _ from x)
 |met f y=>exact eR (show h.get? a=some _ from x)
 |ext φ=>obtain⟨_,⟨_,e⟩,_⟩:=x;exact eR e
theorem Paired.NV{α β:Type}{F G:α->β->Prop}:∀ {Tt:List α} {Tv:List β},Paired F Tt Tv->(∀ a b,F a b->G a b)->Paired G Tt Tv
 |_,_,.nil,_=>.nil
 |_,_,.cons r t,f=>.cons (f _ _ r) (Paired.NV t f)
theorem fw.fF(x:fw P w H h a o)(k:∀ b u,(b=a\/H b=some (.own a))->h.get? b=some u->h'.get? b=some u)(ho:∀ b,H b=some (.own a)->H' b=some (.own a)) (ht:∀ b xs,H b=some (.tup xs)->H' b=some (.tup xs)):fw P w H' h' a o:=by
 induction o with
 |lst xs=>obtain⟨z,its,n,r,e⟩:=x;exact⟨z,its,n,r,k _ _ (.inl rfl) e⟩
 |tup xs=>obtain⟨z,its,r,ob,e,c⟩:=x;exact⟨z,its,r,ob,k _ _ (.inl rfl) e,c⟩
 |dK ah=>obtain⟨z,y,vs,r,ob,es,ep,e,c⟩:=x;exact⟨z,y,vs,r,ob,es,ep,k _ _ (.inl rfl) e,c⟩
 |dT ah =>obtain⟨z,y,xs,r,ob,es,ep,e,c⟩:=x;exact⟨z,y,xs,Paired.NV r fun p q z=>⟨z.1,ht _ _ z.2.1,z.2.2⟩,ob,es,ep,k _ _ (.inl rfl) e,c⟩
 |set S n=>obtain⟨ob,es,ep,t,e,c⟩:=x;exact⟨ob,es,ep,t,k _ _ (.inl rfl) e,c⟩
 |ins C dx fs =>obtain⟨d,z,ne,e,mA,⟨od,es,ep,e2,c⟩,r⟩:=x;exact⟨ho _ d,z,ne,k _ _ (.inl rfl) e,mA,⟨od,es,ep,k _ _ (.inr d) e2,c⟩,r⟩
 |own y=>obtain⟨ob,e⟩:=x;exact⟨ob,k _ _ (.inl rfl) e⟩
 |xd fs=>obtain⟨mA,⟨od,es,ep,e,c⟩,r⟩:=x;exact⟨mA,⟨od,es,ep,k _ _ (.inl rfl) e,c⟩,r⟩
 |HC lo hi=>obtain⟨t,u,v,e⟩:=x;exact⟨t,u,v,k _ _ (.inl rfl) e⟩
 |kG ob u ih=>obtain⟨e,q⟩:=x;exact⟨k _ _ (.inl rfl) e,ih q⟩
 |ya ps =>have e:h.get? a=some { cls:=.none,data:=.fields ps }:=x;show h'.get? a=some { cls:=.none,data:=.fields ps };exact k a _ (.inl rfl) e
 |met f y =>have e:h.get? a=some (PySem.W.methodObj (.ref f) (.ref y)):=x;show h'.get? a=some (PySem.W.methodObj (.ref f) (.ref y));exact k a _ (.inl rfl) e
 |ext φ=>obtain⟨p,⟨o,e⟩,st⟩:=x;exact⟨st _ _ p fun o q=>k _ _ (.inl rfl) q,⟨o,k _ _ (.inl rfl) e⟩,st⟩
theorem fR.lt(x:fR P w H h)(e:H a=some o):a<h.objs.size:=(x a o e).lt
theorem fR.fresh(x:fR P w H h)(e:h.objs.size<=a):H a=none:=by
 cases q:H a with
 |none=>rfl
 |some u=>exact absurd (kl (x.lt q) e) (x6 _)
theorem fR.kept(x:fR P w H h)(k:∀ b u,h.get? b=some u->h'.get? b=some u):fR P w H h':=fun a o e =>
 (x a o e).fF (fun b u _ q=>k b u q) (fun _ q=>q) fun _ _ q=>q
theorem fR.laid(x:fR P w H h)(k:∀ b u,h.get? b=some u->h'.get? b=some u)(hp:h.objs.size<=a)(new:fw P w (upd H a o) h' a o):fR P w (upd H a o) h':=fun b u e=>by
 have hn:=x.fresh hp;by_cases hb:b=a
 ·subst hb;rw[gg] at e;cases e;exact new
 ·rw[eS hb] at e;exact(x b u e).fF (fun c v _ q=>k c v q) (fun c q=>by rw[eS (si q hn)];exact q) fun c xs q=>by rw[eS (si q hn)];exact q
end
def Rd(H:Hp)(a:Addr)(u:HO):Prop:=H a=some u\/∃ o,H a=some (.kG o u)
theorem Rd.of(h:H a=some u):Rd H a u:=.inl h
theorem Rd.ok{P:Program}(r:Rd H a u)(x:fR P w H h):fw P w H h a u:=by
 rcases r with r|⟨o,r⟩
 ·exact x a u r
 ·obtain⟨_,q⟩:=x a _ r;exact q
def HG:Option HO->Prop
 |some (.lst _)=>True
 |some (.dK _)=>True
 |some (.dT _)=>True
 |some (.set _ _)=>True
 |some (.ins _ _ _)=>True
 |some (.ext _)=>True
 |_=>False
section
variable {P:Program}{w:World}{H:Hp}{h h':Heap}{x e:Addr}{o':HO}
theorem fR.write(ok:fR P w H h)(mu:HG (H x))(he:e=x\/H e=some (.own x))(k:∀ b u,b≠e->h.get? b=some u->h'.get? b=some u)(Bn:∃ u,h'.get? e=some u)(new:fw P w (upd H x o') h' x o'):fR P w (upd H x o') h':=fun b u q=>by
 have Tw:∀ c y,H c=some (.own y)->c≠x:=fun c y r z=>by subst z;rw[r] at mu;exact mu
 have Yq:∀ c xs,H c=some (.tup xs)->c≠x:=fun c xs r z=>by subst z;rw[r] at mu;exact mu
 by_cases hb:b=x
 ·subst hb;rw[gg] at q;cases q;exact new
 ·rw[eS hb] at q;by_cases zl:b=e
  ·have q':H b=some (.own x):=by
    rcases he with z|z
    ·exact absurd (zl.trans z) hb
    ·rw[zl];exact z
   rw[q] at q';cases q';obtain⟨v,hv⟩:=Bn;exact⟨v,by rw[zl];exact hv⟩
  ·refine(ok b u q).fF (fun c v hc r=>k c v ?_ r) (fun c r=>by rw[eS (Tw c b r)];exact r) fun c xs r=>by rw[eS (Yq c xs r)];exact r
   rcases hc with rfl|hc
   ·exact zl
   ·rintro rfl;rcases he with z|z
    ·exact Tw c b hc z
    ·rw[hc] at z;cases z;exact hb rfl
end
structure Un(fs ex:List Addr)(H H':Hp)(h h':Heap):Prop where
 keep:∀ b o,h.get? b=some o->H b=none->b∉fs->b∉ex->h'.get? b=some o
 slot:∀ b o,h.get? b=some o->H b=none->b∈fs->b∉ex->∃ sl,h'.get? b=some { o with slots:=sl }
 free:∀ b o,h.get? b=some o->H b=none->b∉ex->H' b=none
 there:∀ b o,h.get? b=some o->b∉ex->∃ o',h'.get? b=some o'
 gE:∀ b xs,H b=some (.tup xs)->H' b=some (.tup xs)
 lh:∀ b o u,H b=some (.kG o u)->H' b=some (.kG o u)
 mI:∀ b ps,H b=some (.ya ps)->∃ more,H' b=some (.ya (ps++more))
section
variable {fs Tx ex Tz:List Addr}{H H1 H2:Hp}{h h1 h2 h':Heap}{a x e:Addr}{o:HO}
theorem Un.any(u:Un fs ex H H1 h h1)(q:h.get? b=some ob)(n:H b=none)(hx:b∉ex):∃ sl,h1.get? b=some { ob with slots:=sl }:=by
 by_cases hb:b∈fs
 ·exact u.slot b ob q n hb hx
 ·exact⟨ob.slots,u.keep b ob q n hb hx⟩
theorem Un.trans(a:Un fs ex H H1 h h1)(b:Un fs ex H1 H2 h1 h2):Un fs ex H H2 h h2 where
 keep:=fun c ob q n hc hx=>b.keep c ob (a.keep c ob q n hc hx) (a.free c ob q n hx) hc hx
 slot:=fun c ob q n hc hx=>by obtain⟨sl,e1⟩:=a.slot c ob q n hc hx;obtain⟨DH,e2⟩:=b.slot c _ e1 (a.free c ob q n hx) hc hx;exact⟨DH,e2⟩
 free:=fun c ob q n hx=>by obtain⟨o',e1⟩:=a.there c ob q hx;exact b.free c o' e1 (a.free c ob q n hx) hx
 there:=fun c ob q hx=>by obtain⟨o',e1⟩:=a.there c ob q hx;exact b.there c o' e1 hx
 gE:=fun c xs q=>b.gE c xs (a.gE c xs q)
 lh:=fun c ob xs q=>b.lh c ob xs (a.lh c ob xs q)
 mI:=fun c ps q=>by obtain⟨m1,e1⟩:=a.mI c ps q;obtain⟨m2,e2⟩:=b.mI c _ e1;exact⟨m1++m2,by rw[e2,NR]⟩
theorem Un.kept(k:∀ b u,h.get? b=some u->h'.get? b=some u):Un fs ex H H h h' :=
 ⟨fun b ob q _ _ _=>k b ob q,fun b ob q _ _ _=>⟨ob.slots,k b ob q⟩,fun _ _ _ n _=>n,fun b ob q _=>⟨ob,k b ob q⟩,fun _ _ q=>q,fun _ _ _ q=>q,fun _ ps q=>⟨#[],by rw[q];simp⟩⟩
theorem Un.refl:Un fs ex H H h h:=Un.kept fun _ _ q=>q
theorem Un.laid(k:∀ b u,h.get? b=some u->h'.get? b=some u)(hp:h.objs.size<=a)(hn:H a=none):Un fs ex H (upd H a o) h h' where
 keep:=fun b u q _ _ _=>k b u q
 slot:=fun b u q _ _ _=>⟨u.slots,k b u q⟩
 free:=fun b u q n _=>by rw[eS (i3 (kl (eR q) hp))];exact n
 there:=fun b u q _=>⟨u,k b u q⟩
 gE:=fun b xs q=>by rw[eS (si q hn)];exact q
 lh:=fun b u xs q=>by rw[eS (si q hn)];exact q
 mI:=fun b ps q=>⟨#[],by rw[eS (si q hn),q];simp⟩
theorem Un.write(mu:HG (H x))(he:e=x\/H e=some (.own x))(k:∀ b u,b≠e->h.get? b=some u->h'.get? b=some u)(Bn:∃ u,h'.get? e=some u):Un fs ex H (upd H x o) h h':=by
 have hx:∀ b,H b=none->b≠x:=fun b n z=>by subst z;rw[n] at mu;exact mu
 have hb:∀ b,H b=none->b≠e:=fun b n z=>by
  subst z;rcases he with r|r
  ·exact hx b n r
  ·rw[n] at r;cases r
 have hm:∀ b u,H b=some u->¬ HG (some u)->b≠x:=fun b u q nm z=>by subst z;rw[q] at mu;exact nm mu
 refine⟨fun b u q n _ _=>k b u (hb b n) q,fun b u q n _ _=>⟨u.slots,k b u (hb b n) q⟩,fun b u q n _=>by rw[eS (hx b n)];exact n,fun b u q _=>?_,
  fun b xs q=>by rw[eS (hm b _ q fun z=>z)];exact q,fun b u xs q=>by rw[eS (hm b _ q fun z=>z)];exact q,fun b ps q=>⟨#[],by rw[eS (hm b _ q fun z=>z),q];simp⟩⟩
 by_cases zl:b=e
 ·subst zl;exact Bn
 ·exact⟨u,k b u zl q⟩
theorem Un.mono(u:Un fs ex H H1 h h1)(hs:∀ b∈fs,b∈Tx)(hx:∀ b∈ex,b∈Tz):Un Tx Tz H H1 h h1 :=
 ⟨fun b ob q n hb he=>u.keep b ob q n (fun z=>hb (hs b z)) fun z=>he (hx b z),fun _ _ q n _ he=>u.any q n fun z=>he (hx _ z),fun b ob q n he=>u.free b ob q n fun z=>he (hx b z),fun b ob q he=>u.there b ob q fun z=>he (hx b z),u.gE,u.lh,u.mI⟩
end
def HK(h:Heap)(H:Hp):List Addr:=(List.range h.objs.size).filter fun a=>(H a).isSome
def vS(h:Heap)(H:Hp):Heap:=PySem.W.hideAll h (HK h H)
theorem Yr(h:Heap)(H:Hp):(vS h H).objs.size=h.objs.size:=PySem.W.hideAll_size _ _
theorem Ys(e:h.get? b=some o)(n:H b=none):(vS h H).get? b=some o :=
 PySem.W.hideAll_get _ e fun hm=>by have q:(H b).isSome=true:=(List.mem_filter.mp hm).2;rw[n] at q;simp at q
theorem Yt(e:(vS h H).get? b=some o):h.get? b=some o/\H b=none:=by
 have e':h.get? b=some o:=PySem.W.of_hideAll (HK h H) e;refine⟨e',?_⟩
 cases q:H b with
 |none=>rfl
 |some x =>have hm:b∈HK h H:=List.mem_filter.mpr ⟨vt.mpr (eR e'),by simp[q]⟩;have z:(vS h H).get? b=none:=PySem.W.hideAll_none (HK h H) hm;rw[z] at e;cases e
def Yu(g h:Heap)(L:Addr):List (Addr × Obj):=(List.range h.objs.size).filterMap fun a=>if a=L\/(g.get? a).isSome=true then none else (h.get? a).map fun o=>(a,o)
def rest(g h:Heap)(L d:Addr):List (Addr × Obj):=(Yu g h L).filter fun p=>decide (p.1≠d)
structure Mod(K:PySem.W.Frag)(mg:Str->Option Value)(base:Heap):Prop where
 DI:K.In base
 glob:base.Ns mainGlobals mg
 blt:∃ mb,base.Ns builtinsNs mb/\∀ x:Str,x ≠ "__name__"->mb x=bootBuiltins x
 nolimit:base.NoLimit
structure Cx where
 prog:Program
 w:World
 K:PySem.W.Frag
 mg:Str->Option Value
 base:Heap
 A:Around
 N:List Str
 df:Shared
 nv:Hp
 env:Env
 outer:List Env
 stack:List Env
 ex:List Addr
 fn:Str->Bool
 calm:Bool
 pn:List (Addr × Obj)
 xe:Value->Shared->Prop
def dE(l:List Env):List Addr:=l.filterMap (·.frame)
abbrev Cx.fs(X:Cx):List Addr:=dE X.outer
def DJ(sc:Scope)(x:Str):Prop:=sc.names.lookup x=some .local\/sc.names.lookup x=some .cell\/sc.names.lookup x=some .free
def Loc(sc:Scope)(x:Str):Prop:=sc.names.lookup x=some .local\/sc.names.lookup x=some .cell
def Look(env:Env)(h:Heap)(m:Str->Option Value)(x:Str)(u:Value):Prop :=
 (env.kindOf x=some .local/\m x=some u)\/((env.kindOf x=some .cell\/env.kindOf x=some .free)/\∃ c,env.cells.lookup x=some c/\h.IsCell c (some u))
structure Cx.Ok(X:Cx):Prop where
 mod:Mod X.K X.mg X.base
 kind:X.env.scope.kind=.function
 glob:X.env.globals=mainGlobals
 blt:X.env.builtins=builtinsNs
 above:X.df.heap.objs.size<=X.env.locals
 inj:∀ x y c,X.env.cells.lookup x=some c->X.env.cells.lookup y=some c->x=y
 has:∀ x,(X.env.kindOf x=some .cell\/X.env.kindOf x=some .free)->∃ c,X.env.cells.lookup x=some c
 tF:∀ x c,X.fn x=true->X.env.cells.lookup x=some c->X.df.heap.objs.size<=c
 hd:X.calm=true->X.A.handled=none
 frames:X.A.frames=some X.stack
 vT:X.stack=X.outer\/(X.stack=X.env :: X.outer/\X.env.frame=some X.env.locals)
 sj:∀ b∈X.ex,b≠X.env.locals/\∀ x c,X.env.cells.lookup x=some c->c≠b
 bs:∀ b o,X.base.get? b=some o->X.df.heap.get? b=some o/\X.nv b=none
 ny:X.base.objs.size<=X.df.heap.objs.size
 tI:∀ b o,X.base.get? b=some o->b∉X.ex
 sq:∀ b∈X.ex,b∉X.fs
 lj:X.df.heap.FunFrames X.base X.outer
 px:∀ b∈X.fs,X.nv b=none
structure Inv(X:Cx)(pins:List (Addr × Obj))(σ:List (Option V))(H:Hp)(s:Shared):Prop where
 ok:X.Ok
 os:s.os=X.df.os
 bare:AllBare s.gens
 base:Un X.fs X.ex X.nv H X.df.heap s.heap
 loc:∃ m,s.heap.Ns X.env.locals m/\∀ (i:Nat) (x:Str) (v:V),X.N[i]? = some x->σ[i]? = some (some v)->DJ X.env.scope x->∃ u,RelV v u/\Look X.env s.heap m x u
 cell:∀ x c,X.env.cells.lookup x=some c->∃ v,s.heap.IsCell c v
 free:H X.env.locals=none
 kN:∀ x c,X.env.cells.lookup x=some c->H c=none
 pin:∀ p∈X.pn++pins,s.heap.get? p.1=some p.2/\H p.1=none/\p.1≠X.env.locals/\p.1∉X.fs/\∀ v,p.2.data≠.cell v
 aE:fR X.prog X.w H s.heap
 len:σ.length=X.N.length
section
variable {X:Cx}{pins:List (Addr × Obj)}{σ:List (Option V)}{H H':Hp}{s:Shared}{h':Heap}
theorem Cx.Ok.Yv(ok:X.Ok)(e:X.base.get? b=some o):b∉X.fs:=fun hb=>by have:=(ok.lj.mem hb).1;rw[e] at this;cases this
theorem Inv.bs(I:Inv X pins σ H s):∀ b o,X.base.get? b=some o->s.heap.get? b=some o/\H b=none:=fun b o e =>
 ⟨I.base.keep b o (I.ok.bs b o e).1 (I.ok.bs b o e).2 (I.ok.Yv e) (I.ok.tI b o e),I.base.free b o (I.ok.bs b o e).1 (I.ok.bs b o e).2 (I.ok.tI b o e)⟩
theorem Inv.bk(I:Inv X pins σ H s):∀ b o,X.base.get? b=some o->s.heap.get? b=some o:=fun b o e=>(I.bs b o e).1
theorem Inv.mod(I:Inv X pins σ H s):Mod X.K X.mg X.base:=I.ok.mod
theorem Inv.gS(I:Inv X pins σ H s):X.K.In s.heap:=I.ok.mod.DI.keeps I.bk
theorem Inv.nolimit(I:Inv X pins σ H s):s.heap.NoLimit:=I.ok.mod.nolimit.keeps I.bk
theorem Inv.fr(I:Inv X pins σ H s):∃ m,Fr X.base X.env.locals s.heap m :=
 let ⟨m,hn,_⟩:=I.loc
 ⟨m,hn,I.bk,fE I.ok.ny I.ok.above⟩
theorem Inv.lt(I:Inv X pins σ H s):X.env.locals<s.heap.objs.size:=let ⟨_,hn,_⟩:=I.loc;hn.lt
theorem Inv.sz(I:Inv X pins σ H s):X.df.heap.objs.size<=s.heap.objs.size:=fE I.ok.above (A8 I.lt)
theorem Inv.Yw(I:Inv X pins σ H s)(h:s.heap.objs.size<=a):a∉X.fs:=fun hb=>by obtain⟨_,o,ho,_⟩:=I.ok.lj.mem hb;exact absurd (kl (eR ho) (fE I.sz h)) (x6 _)
theorem Inv.wa(I:Inv X pins σ H s):∀ x c,X.env.cells.lookup x=some c->c≠X.env.locals:=fun x c e z=>by obtain⟨v,o,ho,hd⟩:=I.cell x c e;obtain⟨m,⟨o',es,ep,ly,Yx,_⟩,_⟩:=I.loc;rw[z,ly] at ho;cases ho;rw[Yx] at hd;cases hd
theorem Inv.lj(I:Inv X pins σ H s):s.heap.FunFrames X.base X.outer:=by
 have all:∀ (l:List Env),(∀ b∈dE l,b∈X.fs)->X.df.heap.FunFrames X.base l->s.heap.FunFrames X.base l:=by
  intro l
  induction l with
  |nil=>intro _ _;trivial
  |cons env r ih =>intro hs hl;obtain⟨hk,⟨L,o,hf,hn,ho,hd⟩,hr⟩:=hl;have hL:L∈X.fs:=hs L (by unfold dE;rw[sd,hf];exact fo);obtain⟨sl,e⟩:=I.base.slot L o ho (I.ok.px L hL) hL fun z=>I.ok.sq L z hL;exact⟨hk,⟨L,_,hf,hn,e,hd⟩,ih (fun b hb=>hs b (by unfold dE;rw[sd,hf];exact dz _ hb)) hr⟩
 exact all X.outer (fun _ hb=>hb) I.ok.lj
theorem Inv.stack(I:Inv X pins σ H s):s.heap.FunFrames X.base X.stack:=by
 rcases I.ok.vT with e|⟨e,hf⟩
 ·rw[e];exact I.lj
 ·rw[e];obtain⟨m,hn,_⟩:=I.loc;refine .cons (by rw[I.ok.kind];decide) hf hn ?_ I.lj;exact Heap.get?_none_of_le (fE I.ok.ny I.ok.above)
theorem Inv.NW(I:Inv X pins σ H s):∀ b∈dE X.stack,b∈X.env.locals :: X.fs:=fun b hb=>by
 rcases I.ok.vT with e|⟨e,hf⟩
 ·rw[e] at hb;exact dz _ hb
 ·rw[e] at hb;unfold dE at hb;rw[sd,hf] at hb;exact hb
theorem Inv.NX(I:Inv X pins σ H s):∀ b∈dE X.stack,H b=none:=fun b hb=>by
 rcases eK.mp (I.NW b hb) with e|hb
 ·rw[e];exact I.free
 ·obtain⟨_,o,ho,_⟩:=I.ok.lj.mem hb;exact I.base.free b o ho (I.ok.px b hb) fun z=>I.ok.sq b z hb
theorem Inv.step{g':Array GenState}{t':Nat}{d':Drawn}{ch:List Addr}(I:Inv X pins σ H s)(qS:∀ b∈ch,(b∈X.ex\/X.df.heap.objs.size<=b)/\b≠X.env.locals/\(∀ x c,X.env.cells.lookup x=some c->c≠b)/\∀ p∈X.pn++pins,p.1≠b)(keep:∀ b o,b≠X.env.locals->b∉X.fs->b∉ch->s.heap.get? b=some o->H b=none->h'.get? b=some o)(slot:∀ b o,b≠X.env.locals->b∈X.fs->b∉ch->s.heap.get? b=some o->H b=none->∃ sl,h'.get? b=some { o with slots:=sl }) (free:∀ b o,b∉ch->s.heap.get? b=some o->H b=none->H' b=none) (there:∀ b o,b∉ch->s.heap.get? b=some o->∃ o',h'.get? b=some o') (gE:∀ b xs,H b=some (.tup xs)->H' b=some (.tup xs)) (lh:∀ b o u,H b=some (.kG o u)->H' b=some (.kG o u)) (mI:∀ b ps,H b=some (.ya ps)->∃ more,H' b=some (.ya (ps++more))) (ns:∀ m,s.heap.Ns X.env.locals m->h'.Ns X.env.locals m) (aE:fR X.prog X.w H' h') (hg:AllBare g') :
  Inv X pins σ H' { s with heap:=h',gens:=g',drawn:=d',toks:=t' }:=by
 have DL:∀ b o,X.df.heap.get? b=some o->b≠X.env.locals:=fun b o e=>i3 (kl (eR e) I.ok.above);have HL:∀ b o,X.df.heap.get? b=some o->b∉X.ex->b∉ch:=fun b o e hx hb=>by
  rcases (qS b hb).1 with z|z
  ·exact hx z
  ·exact absurd (kl (eR e) z) (x6 _)
 have cellK:∀ x c,X.env.cells.lookup x=some c->∀ v,s.heap.IsCell c v->h'.IsCell c v:=fun x c e v dc=>by
  obtain⟨o,ho,hd⟩:=dc;have DM:c∉ch:=fun z=>(qS c z).2.2.1 x c e rfl;by_cases hc:c∈X.fs
  ·obtain⟨sl,q⟩:=slot c o (I.wa x c e) hc DM ho (I.kN x c e);exact⟨_,q,hd⟩
  ·exact⟨o,keep c o (I.wa x c e) hc DM ho (I.kN x c e),hd⟩
 refine⟨I.ok,I.os,hg,⟨fun b o e n hb hx=>?_,fun b o e n hb hx=>?_,fun b o e n hx=>?_,fun b o e hx=>?_,fun b xs e=>gE b xs (I.base.gE b xs e),fun b o xs e=>lh b o xs (I.base.lh b o xs e),fun b ps e=>?_⟩,?_,fun x c e=>?_,?_,fun x c e=>?_,fun p hp=>?_,aE,I.len⟩
 ·exact keep b o (DL b o e) hb (HL b o e hx) (I.base.keep b o e n hb hx) (I.base.free b o e n hx)
 ·obtain⟨sl,e1⟩:=I.base.slot b o e n hb hx;obtain⟨DH,e2⟩:=slot b _ (DL b o e) hb (HL b o e hx) e1 (I.base.free b o e n hx);exact⟨DH,e2⟩
 ·obtain⟨o',e1⟩:=I.base.there b o e hx;exact free b o' (HL b o e hx) e1 (I.base.free b o e n hx)
 ·obtain⟨o',e1⟩:=I.base.there b o e hx;exact there b o' (HL b o e hx) e1
 ·obtain⟨m1,e1⟩:=I.base.mI b ps e;obtain⟨m2,e2⟩:=mI b _ e1;exact⟨m1++m2,by rw[e2,NR]⟩
 ·obtain⟨m,hn,hl⟩:=I.loc;refine⟨m,ns m hn,fun i x v e1 e2 e3=>?_⟩;obtain⟨u,r,l⟩:=hl i x v e1 e2 e3;refine⟨u,r,?_⟩;rcases l with l|⟨k,c,e,z⟩
  ·exact .inl l
  ·exact .inr ⟨k,c,e,cellK x c e _ z⟩
 ·obtain⟨v,z⟩:=I.cell x c e;exact⟨v,cellK x c e v z⟩
 ·obtain⟨m,⟨o,_,_,ho,_⟩,_⟩:=I.loc;exact free _ o (fun z=>(qS _ z).2.1 rfl) ho I.free
 ·obtain⟨v,o,ho,hd⟩:=I.cell x c e;exact free c o (fun z=>(qS c z).2.2.1 x c e rfl) ho (I.kN x c e)
 ·obtain⟨e,n,ne,nf,d⟩:=I.pin p hp;have DM:p.1∉ch:=fun z=>(qS p.1 z).2.2.2 p hp rfl;exact⟨keep p.1 p.2 ne nf DM e n,free p.1 p.2 DM e n,ne,nf,d⟩
theorem Inv.un{t':Nat}(I:Inv X pins σ H s)(u:Un X.fs [] H H' s.heap h')(aE:fR X.prog X.w H' h'):Inv X pins σ H' { s with heap:=h',toks:=t' }:=by
 obtain⟨m,⟨o,es,ep,ho,r⟩,_⟩:=id I.loc;obtain⟨sl,hL⟩:=u.any ho I.free (by simp);exact I.step (g':=s.gens) (d':=s.drawn) (ch:=[]) (fun _ z=>nomatch z) (fun b o _ hb _ e n=>u.keep b o e n hb (by simp)) (fun b o _ hb _ e n=>u.slot b o e n hb (by simp)) (fun b o _ e n=>u.free b o e n (by simp)) (fun b o _ e=>u.there b o e (by simp)) u.gE u.lh u.mI (fun m' hm=>by
  obtain⟨o',N0,N3,ly,r'⟩:=hm;rw[ho] at ly;cases ly;exact⟨_,N0,N3,hL,r'⟩) aE I.bare
theorem Inv.call{g':Array GenState}{t':Nat}{d':Drawn}{ch:List Addr}(I:Inv X pins σ H s)(u:Un (dE X.stack) ch H H' s.heap h')(aE:fR X.prog X.w H' h')(hg:AllBare g')(qS:∀ b∈ch,(b∈X.ex\/X.df.heap.objs.size<=b)/\b≠X.env.locals/\(∀ x c,X.env.cells.lookup x=some c->c≠b)/\∀ p∈X.pn++pins,p.1≠b) :
  Inv X pins σ H' { s with heap:=h',gens:=g',drawn:=d',toks:=t' }:=by
 obtain⟨m,⟨o,es,ep,ho,r⟩,_⟩:=id I.loc;obtain⟨sl,hL⟩:=u.any ho I.free fun z=>(qS _ z).2.1 rfl;exact I.step (ch:=ch) qS (fun b o hL hb hc e n=>u.keep b o e n (fun z=>(eK.mp (I.NW b z)).elim hL hb) hc) (fun b o _ _ hc e n=>u.any e n hc) (fun b o hc e n=>u.free b o e n hc) (fun b o hc e=>u.there b o e hc) u.gE u.lh u.mI (fun m' hm=>by
  obtain⟨o',N0,N3,ly,r'⟩:=hm;rw[ho] at ly;cases ly;exact⟨_,N0,N3,hL,r'⟩) aE hg
theorem Inv.turned{t':Nat}{it:Addr}(I:Inv X pins σ H s)(k:∀ b o,b≠it->s.heap.get? b=some o->h'.get? b=some o)(hn:H it=none)(hL:it≠X.env.locals)(h1:it∈X.ex\/X.df.heap.objs.size<=it) (h2:∀ x c,X.env.cells.lookup x=some c->c≠it) (h3:∀ p∈X.pn++pins,p.1≠it):Inv X pins σ H { s with heap:=h',toks:=t' }:=by
 have yb:∀ b u,H b=some u->b≠it:=fun b u e z=>by rw[z,hn] at e;cases e
 refine I.step (g':=s.gens) (d':=s.drawn) (ch:=[it]) (fun b hb=>?_) (fun b o _ _ hc e _=>k b o (fun z=>hc (by simp[z])) e) (fun b o _ _ hc e _=>⟨o.slots,k b o (fun z=>hc (by simp[z])) e⟩) (fun _ _ _ _ n=>n) (fun b o hc e=>⟨o,k b o (fun z=>hc (by simp[z])) e⟩) (fun _ _ e=>e) (fun _ _ _ e=>e) (fun b ps e=>⟨#[],by rw[e];simp⟩) (fun m hm=>?_) (fun b u e=>?_) I.bare
 ·have e:b=it:=by simpa using hb
  subst e;exact⟨h1,hL,h2,h3⟩
 ·obtain⟨o,es,ep,ho,r⟩:=hm;exact⟨o,es,ep,k _ o (Ne.symm hL) ho,r⟩
 ·refine(I.aE b u e).fF (fun c v hc q=>k c v ?_ q) (fun _ q=>q) fun _ _ q=>q;rcases hc with z|z
  ·rw[z];exact yb b u e
  ·exact yb c _ z
theorem Inv.tok(I:Inv X pins σ H s)(t:Nat):Inv X pins σ H { s with toks:=t }:=I.un (h':=s.heap) (t':=t) Un.refl I.aE
theorem Inv.kept(I:Inv X pins σ H s)(k:∀ b u,s.heap.get? b=some u->h'.get? b=some u):Inv X pins σ H { s with heap:=h',toks:=t' }:=I.un (Un.kept k) (I.aE.kept k)
theorem Inv.laid(I:Inv X pins σ H s)(k:∀ b u,s.heap.get? b=some u->h'.get? b=some u)(hp:s.heap.objs.size<=a)(new:fw X.prog X.w (upd H a o) h' a o) :
  Inv X pins σ (upd H a o) { s with heap:=h',toks:=t' }:=I.un (Un.laid k hp (I.aE.fresh hp)) (I.aE.laid k hp new)
theorem Inv.write(I:Inv X pins σ H s)(mu:HG (H x))(he:e=x\/H e=some (.own x))(k:∀ b u,b≠e->s.heap.get? b=some u->h'.get? b=some u)(Bn:∃ u,h'.get? e=some u)(new:fw X.prog X.w (upd H x o) h' x o):Inv X pins σ (upd H x o) { s with heap:=h',toks:=t' }:=I.un (Un.write mu he k Bn) (I.aE.write mu he k Bn new)
theorem Inv.TB(I:Inv X pins σ H s)(h:∀ p∈kH,s.heap.get? p.1=some p.2/\H p.1=none/\p.1≠X.env.locals/\p.1∉X.fs/\∀ v,p.2.data≠.cell v):Inv X kH σ H s :=
 ⟨I.ok,I.os,I.bare,I.base,I.loc,I.cell,I.free,I.kN,fun p hp=>(eW.mp hp).elim (fun z=>I.pin p (js _ z)) (h p),I.aE,I.len⟩
theorem TC{N:List Str}(hN:N.Nodup){i j:Nat}{x:Str}(a:N[i]? = some x)(b:N[j]? = some x):i=j:=by obtain⟨h1,e1⟩:=kU.mp a;obtain⟨h2,e2⟩:=kU.mp b;exact(List.getElem_inj hN).mp (e1.trans e2.symm)
theorem N4{M:Model}{A:Around}{E:Value->Shared->Prop}{i:Nat}{x:Str}{v:V}{u:Value}{Q:Unit->Shared->Prop}(I:Inv X pins σ H s)(hN:X.N.Nodup)(hi:X.N[i]? = some x)(hx:Loc X.env.scope x)(r:RelV v u)(h:∀ s',Inv X pins (σ.set i (some v)) H s'->(∃ a,Heap.SameBut a s.heap s'.heap/\(a=X.env.locals\/X.env.cells.lookup x=some a))->Q () s') (hf:X.fn x=true\/X.env.scope.names.lookup x=some .local:=by first|exact .inl rfl|exact .inr rfl|assumption):wpAny M A (storeName X.env x u) Q E s:=by
 obtain⟨m,hn,hl⟩:=id I.loc;have N9:(X.env.scope.kind == .class || (X.env.scope.kind == .module && X.env.locals != X.env.globals))=false:=by rw[I.ok.kind];rfl
 have TF:i<σ.length:=by rw[I.len];exact(kU.mp hi).1
 have wa:=I.wa;have tracked:∀ {a:Addr} {h':Heap},(∃ o,s.heap.get? a=some o/\H a=none)->Heap.SameBut a s.heap h'->fR X.prog X.w H h':=fun {a h'} ha hs b ob e=>by
  obtain⟨_,_,TH⟩:=ha;refine(I.aE b ob e).fF (fun c w' hc q=>(hs.2 c ?_).trans q) (fun _ q=>q) fun _ _ q=>q;rintro rfl;rcases hc with rfl|hc
  ·rw[TH] at e;cases e
  ·rw[TH] at hc;cases hc
 rcases hx with hk|hk
 ·refine wpAny_storeName_local hk hn (fun h' HM hs=>?_) N9;obtain⟨oL,_,_,Yy,_⟩:=id hn;refine h _ ⟨I.ok,I.os,I.bare,⟨fun b o e n hb hx=>?_,fun b o e n hb hx=>?_,I.base.free,fun b o e hx=>?_,I.base.gE,I.base.lh,I.base.mI⟩,⟨_,HM,fun j y v' e1 e2 e3=>?_⟩,fun y c e=>?_,I.free,I.kN,fun p hp=>?_,tracked ⟨oL,Yy,I.free⟩ hs,by simpa using I.len⟩ ⟨_,hs,.inl rfl⟩
  ·exact(hs.2 b (i3 (kl (eR e) I.ok.above))).trans (I.base.keep b o e n hb hx)
  ·obtain⟨sl,e1⟩:=I.base.slot b o e n hb hx;exact⟨sl,(hs.2 b (i3 (kl (eR e) I.ok.above))).trans e1⟩
  ·obtain⟨o',e1⟩:=I.base.there b o e hx;exact⟨o',(hs.2 b (i3 (kl (eR e) I.ok.above))).trans e1⟩
  ·by_cases hj:j=i
   ·subst hj;rw[hi] at e1;cases e1;rw[GH TF] at e2;cases e2;exact⟨u,r,.inl ⟨hk,by simp⟩⟩
   ·rw[MX (Ne.symm hj)] at e2;obtain⟨u',r',q⟩:=hl j y v' e1 e2 e3;refine⟨u',r',?_⟩;rcases q with⟨k,e⟩|⟨k,c,e,z⟩
    ·refine .inl ⟨k,?_⟩;have:y≠x:=fun e=>hj (TC hN e1 (e ▸ hi));simp[this,e]
    ·exact .inr ⟨k,c,e,z.sameBut hs (wa y c e)⟩
  ·obtain⟨w',z⟩:=I.cell y c e;exact⟨w',z.sameBut hs (wa y c e)⟩
  ·obtain⟨e,n,ne,nf,d⟩:=I.pin p hp;exact⟨(hs.2 p.1 ne).trans e,n,ne,nf,d⟩
 ·have Oh:X.fn x=true:=by
   rcases hf with z|z
   ·exact z
   ·rw[z] at hk;cases hk
  obtain⟨c,hc⟩:=I.ok.has x (.inl hk);obtain⟨w',z⟩:=I.cell x c hc;refine wpAny_storeName_cell I.ok.kind hk hc z (fun h' yi hs=>?_);obtain⟨oc,HP,Yz⟩:=id z;refine h { s with heap:=h' } ⟨I.ok,I.os,I.bare,⟨fun b o e n hb hx=>?_,fun b o e n hb hx=>?_,I.base.free,fun b o e hx=>?_,I.base.gE,I.base.lh,I.base.mI⟩,⟨m,hn.sameBut hs (Ne.symm (wa x c hc)),fun j y v' e1 e2 e3=>?_⟩,fun y c' e=>?_,I.free,I.kN,fun p hp=>?_,tracked ⟨oc,HP,I.kN x c hc⟩ hs,by simpa using I.len⟩ ⟨c,hs,.inr hc⟩
  ·exact(hs.2 b (i3 (kl (eR e) (I.ok.tF x c Oh hc)))).trans (I.base.keep b o e n hb hx)
  ·obtain⟨sl,e1⟩:=I.base.slot b o e n hb hx;exact⟨sl,(hs.2 b (i3 (kl (eR e) (I.ok.tF x c Oh hc)))).trans e1⟩
  ·obtain⟨o',e1⟩:=I.base.there b o e hx;exact⟨o',(hs.2 b (i3 (kl (eR e) (I.ok.tF x c Oh hc)))).trans e1⟩
  ·by_cases hj:j=i
   ·subst hj;rw[hi] at e1;cases e1;rw[GH TF] at e2;cases e2;exact⟨u,r,.inr ⟨.inl hk,c,hc,yi⟩⟩
   ·rw[MX (Ne.symm hj)] at e2;obtain⟨u',r',q⟩:=hl j y v' e1 e2 e3;refine⟨u',r',?_⟩;rcases q with q|⟨k,c',e,z'⟩
    ·exact .inl q
    ·refine .inr ⟨k,c',e,z'.sameBut hs ?_⟩;rintro rfl;exact hj (TC hN e1 (I.ok.inj _ _ _ e hc ▸ hi))
  ·by_cases Bz:c'=c
   ·subst Bz;exact⟨_,yi⟩
   ·obtain⟨w2,z2⟩:=I.cell y c' e;exact⟨w2,z2.sameBut hs Bz⟩
  ·obtain⟨e,n,ne,nf,d⟩:=I.pin p hp;refine⟨(hs.2 p.1 ?_).trans e,n,ne,nf,d⟩;intro q;rw[q,HP] at e;have q':oc=p.2:=Option.some.inj e;exact d w' (by rw[<- q'];exact Yz)
theorem TJ(I:Inv X pins σ H s)(hN:X.N.Nodup)(hi:X.N[i]? = some x)(hx:Loc X.env.scope x)(r:RelV v u)(h:∀ s',Inv X pins (σ.set i (some v)) H s'->Q () s') (hf:X.fn x=true\/X.env.scope.names.lookup x=some .local:=by first|exact .inl rfl|exact .inr rfl|assumption):wpAny M A (storeName X.env x u) Q E s :=
 N4 I hN hi hx r (fun s' I' _=>h s' I') hf
theorem Inv.Oi(I:Inv X pins σ H s)(ho:s'.os=s.os)(u:Un (dE X.stack) ch H H' s.heap s'.heap)(aE:fR X.prog X.w H' s'.heap)(hg:AllBare s'.gens)(qS:∀ b∈ch,(b∈X.ex\/X.df.heap.objs.size<=b)/\b≠X.env.locals/\(∀ x c,X.env.cells.lookup x=some c->c≠b)/\∀ p∈X.pn++pins,p.1≠b):Inv X pins σ H' s':=by
 obtain⟨h',g',d',t',o'⟩:=s';have e:o'=s.os:=ho;subst e;exact I.call (g':=g') (t':=t') (d':=d') u aE hg qS
end
abbrev XK:=Value->Option Addr->Hp->Prop
abbrev St:=List (Option V)
abbrev VK:=V->Hp->Prop
abbrev TE:=St->Hp->VK->Prop
abbrev TT:=St->Hp->(Bool->Hp->Prop)->Prop
abbrev TA:=St->Hp->(List V->Hp->Prop)->Prop
structure Ends where
 nx:St->Hp->Prop
 rt:VK
 bk:St->Hp->Prop:=fun _ _=>False
 ct:St->Hp->Prop:=fun _ _=>False
abbrev TS:=Ends->St->Hp->Prop
def EP(X:Cx)(pins:List (Addr × Obj))(σ:St)(Q:VK)(u:Value)(s':Shared):Prop:=∃ v H',Inv X pins σ H' s'/\RelV v u/\Q v H'
def TP(X:Cx)(pins:List (Addr × Obj))(σ:St)(Q:Bool->Hp->Prop)(b:Bool)(s':Shared):Prop:=∃ H',Inv X pins σ H' s'/\Q b H'
def AP(X:Cx)(pins:List (Addr × Obj))(σ:St)(Q:List V->Hp->Prop)(us:List Value)(s':Shared):Prop:=∃ vs H',Inv X pins σ H' s'/\Vals vs us/\Q vs H'
def SP(X:Cx)(pins:List (Addr × Obj))(D:Ends)(f:Flow)(s':Shared):Prop :=
 match f with
 |.next=>∃ bE H',Inv X pins bE H' s'/\D.nx bE H'
 |.brk=>∃ bE H',Inv X pins bE H' s'/\D.bk bE H'
 |.cont=>∃ bE H',Inv X pins bE H' s'/\D.ct bE H'
 |.ret u=>∃ v bE H',Inv X pins bE H' s'/\RelV v u/\D.rt v H'
def PE(X:Cx)(e:Expr)(t:TE):Prop :=
 ∀ (pins:List (Addr × Obj)) (s:Shared) (σ:St) (H:Hp) (Q:VK),Inv X pins σ H s->t σ H Q->wpAny (model X.prog X.w) X.A (eval e X.env) (EP X pins σ Q) X.xe s
def PT(X:Cx)(e:Expr)(t:TT):Prop :=
 ∀ (pins:List (Addr × Obj)) (s:Shared) (σ:St) (H:Hp) (Q:Bool->Hp->Prop),Inv X pins σ H s->t σ H Q->wpAny (model X.prog X.w) X.A (isTrue e X.env (eval e X.env)) (TP X pins σ Q) X.xe s
def PW(X:Cx)(e:Expr)(t:TT):Prop :=
 ∀ (whole:Sem Value) (pins:List (Addr × Obj)) (s:Shared) (σ:St) (H:Hp) (Q:Bool->Hp->Prop),Inv X pins σ H s->t σ H Q->wpAny (model X.prog X.w) X.A (isTrue e X.env whole) (TP X pins σ Q) X.xe s
def PA(X:Cx)(es:List Expr)(t:TA):Prop :=
 ∀ (pos:Pos) (pins:List (Addr × Obj)) (s:Shared) (σ:St) (H:Hp) (Q:List V->Hp->Prop),Inv X pins σ H s->t σ H Q->wpAny (model X.prog X.w) X.A (spliced (backTo pos (starEach es X.env))) (AP X pins σ Q) X.xe s
def PS(X:Cx)(st:Stmt)(t:TS):Prop :=
 ∀ (pins:List (Addr × Obj)) (s:Shared) (σ:St) (H:Hp) (D:Ends),Inv X pins σ H s->t D σ H->wpAny (model X.prog X.w) X.A (exec st X.env) (SP X pins D) X.xe s
def kK(X:Cx)(st:List Stmt)(t:TS):Prop :=
 ∀ (pins:List (Addr × Obj)) (s:Shared) (σ:St) (H:Hp) (D:Ends),Inv X pins σ H s->t D σ H->wpAny (model X.prog X.w) X.A (execs st X.env) (SP X pins D) X.xe s
theorem cf{α:Type}{t:Sem α}{Q Q':α->Shared->Prop}{M:Model}{A:Around}{E:Value->Shared->Prop}{s:Shared}(h:wpAny M A t Q E s)(hQ:∀ a s,Q a s->Q' a s):wpAny M A t Q' E s:=oa h hQ fun _ _ x=>x
section
variable {X:Cx}
def sv(i:Nat):TE:=fun σ H Q=>∃ v,σ[i]? = some (some v)/\Q v H
def tC(v:V):TE:=fun _ H Q=>Q v H
theorem TK (hN:X.N[i]? = some x) (hv:DJ X.env.scope x) (hd:(x == ("__debug__" : Str))=false:=by decide) (jI:(x == ("__classdict__" : Str))=false:=by decide):PE X (.Name x pos) (sv i):=by
 intro pins s σ H Q I h;obtain⟨v,e,h⟩:=h;obtain⟨m,hn,hl⟩:=I.loc;obtain⟨u,r,l⟩:=hl i x v hN e hv;have fin:EP X pins σ Q u s:=⟨v,H,I,r,h⟩
 rcases l with⟨hk,hm⟩|⟨hk,c,hc,TL⟩
 ·exact wpAny_Name (wpAny_loadName_local I.ok.kind hk hn hm fin) hd
 ·rcases hk with hk|hk
  ·exact wpAny_Name (wpAny_loadName_cell I.ok.kind hk hc TL fin) hd
  ·exact wpAny_Name (wpAny_loadName_free I.ok.kind hk hc TL fin jI) hd
theorem YB{i j pos}:PE X (.Constant (.int i) j pos) (tC (.int i)):=fun _ _ _ H _ I h=>wpAny_Constant_int ⟨.int i,H,I.tok _,⟨_,rfl⟩,h⟩
theorem YC{b j pos}:PE X (.Constant (.bool b) j pos) (tC (.bl b)):=fun _ _ _ H _ I h=>Constant_bool ⟨.bl b,H,I,rfl,h⟩
theorem YD{j pos}:PE X (.Constant .none j pos) (tC .non):=fun _ _ _ H _ I h=>Constant_none ⟨.non,H,I,rfl,h⟩
theorem YF{x j pos}:PE X (.Constant (.str x) j pos) (tC (.str x)):=fun _ _ _ H _ I h=>Calls.Constant_str ⟨.str x,H,I.tok _,⟨_,rfl⟩,h⟩
def Gl(X:Cx)(x:Str):Prop:=X.env.kindOf x=some .globalImplicit
theorem DS(I:Inv X pins σ H s)(hg:Gl X x)(hm:X.mg x=some u)(h:Q u s)(hd:(x == ("__debug__" : Str))=false:=by decide):wpAny (model X.prog X.w) X.A (eval (.Name x pos) X.env) Q E s :=
 Calls.Name_function_global I.ok.kind hg (Calls.loadGlobal_global (by rw[I.ok.glob];exact I.mod.glob.keeps I.bk) hm h) hd
theorem BD(I:Inv X pins σ H s)(hg:Gl X x)(hm:X.mg x=none)(hv:bootBuiltins x=some u)(h:Q u s)(hn:x ≠ "__name__" := by decide) (hd:(x == ("__debug__" : Str))=false:=by decide):wpAny (model X.prog X.w) X.A (eval (.Name x pos) X.env) Q E s:=by
 obtain⟨mb,h1,h2⟩:=I.mod.blt;exact Calls.Name_function_global I.ok.kind hg (Calls.loadGlobal_builtin (by rw[I.ok.glob];exact I.mod.glob.keeps I.bk) hm (by rw[I.ok.blt];exact h1.keeps I.bk) ((h2 x hn).trans hv) h) hd
theorem BE (hg:Gl X x) (hm:X.mg x=some u) (r:RelV v u) (hd:(x == ("__debug__" : Str))=false:=by decide):PE X (.Name x pos) (tC v) :=
 fun _ _ _ H _ I h=>DS I hg hm ⟨v,H,I,r,h⟩ hd
theorem YG (hg:Gl X x) (hm:X.mg x=none) (hv:bootBuiltins x=some u) (r:RelV v u) (hn:x ≠ "__name__" := by decide) (hd:(x == ("__debug__" : Str))=false:=by decide):PE X (.Name x pos) (tC v) :=
 fun _ _ _ H _ I h=>BD I hg hm hv ⟨v,H,I,r,h⟩ hn hd
variable {a b:Expr}{ta tb:TE}{pos:Pos}
def tB(t:TE):TT:=fun σ H Q=>t σ H fun x H1=>∃ c,x=.bl c/\Q c H1
theorem YH(h:PE X e t)(he:∀ whole,isTrue e X.env whole=(do let v <- whole;standAt e.pos;holding [v] (truthy v)):=by intro _;rfl):PT X e (tB t):=by intro pins s σ H Q I hw;refine isTrue_plain (cf (h pins s σ H _ I hw) fun v s1 cq=>L2.fq cq fun x H1 I1 r1 q1=>?_) (he _);obtain⟨d,rfl,q⟩:=q1;cases r1;exact wpAny_truthy_bool ⟨H1,I1,q⟩
variable {tA HV:TT}{rest:List Expr}
def YJ(t u:TT):TT:=fun σ H Q=>t σ H fun c H1=>if c=true then u σ H1 Q else Q false H1
def YK(t u:TT):TT:=fun σ H Q=>t σ H fun c H1=>if c=true then Q true H1 else u σ H1 Q
def YL(t:TT):TT:=fun σ H Q=>t σ H fun c H1=>Q (!c) H1
theorem pw_and1(ha:PT X a tA):PW X (.BoolOp .And [a] pos) tA:=by
 intro wh pins s σ H Q I h;refine isTrue_and (cf (ha pins s σ H Q I h) fun c s1 e=>?_)
 cases c with
 |true=>exact isTrue_and_nil e
 |false=>exact e
theorem pw_or1(ha:PT X a tA):PW X (.BoolOp .Or [a] pos) tA:=by
 intro wh pins s σ H Q I h;refine isTrue_or (cf (ha pins s σ H Q I h) fun c s1 e=>?_)
 cases c with
 |false=>exact isTrue_or_nil e
 |true=>exact e
theorem pw_and(ha:PT X a tA)(hb:PW X (.BoolOp .And (b :: rest) pos) HV):PW X (.BoolOp .And (a :: b :: rest) pos) (YJ tA HV):=by
 intro wh pins s σ H Q I h;refine isTrue_and (cf (ha pins s σ H _ I h) fun c s1 dc=>?_);obtain⟨H1,I1,q1⟩:=dc
 cases c with
 |true=>exact hb wh pins s1 σ H1 Q I1 q1
 |false=>exact⟨H1,I1,q1⟩
theorem pw_or(ha:PT X a tA)(hb:PW X (.BoolOp .Or (b :: rest) pos) HV):PW X (.BoolOp .Or (a :: b :: rest) pos) (YK tA HV):=by
 intro wh pins s σ H Q I h;refine isTrue_or (cf (ha pins s σ H _ I h) fun c s1 dc=>?_);obtain⟨H1,I1,q1⟩:=dc
 cases c with
 |true=>exact⟨H1,I1,q1⟩
 |false=>exact hb wh pins s1 σ H1 Q I1 q1
theorem YM(ha:PT X a tA):PT X (.UnaryOp .Not a pos) (YL tA):=by intro pins s σ H Q I h;exact isTrue_not (ha pins s σ H (fun c H1=>Q (!c) H1) I h)
def YN(ta tb:TE):TE:=fun σ H Q=>ta σ H fun x H1=>∃ c,x=.bl c/\if c=true then tb σ H1 Q else Q (.bl false) H1
def YQ(ta tb:TE):TE:=fun σ H Q=>ta σ H fun x H1=>∃ c,x=.bl c/\if c=true then Q (.bl true) H1 else tb σ H1 Q
def YR(ta:TE):TE:=fun σ H Q=>ta σ H fun x H1=>∃ c,x=.bl c/\Q (.bl (!c)) H1
theorem YS{op}(h:PE X a t):PE X (.BoolOp op [a] pos) t:=fun pins s σ H Q I hw=>BoolOp_one (h pins s σ H Q I hw)
theorem YT(ha:PE X a ta)(hb:PE X (.BoolOp .And (b :: rest) pos) tb):PE X (.BoolOp .And (a :: b :: rest) pos) (YN ta tb):=by
 intro pins s σ H Q I h;refine BoolOp_and (cf (ha pins s σ H _ I h) fun v s1 cq=>L2.fq cq fun x H1 I1 r1 q1=>?_);obtain⟨c,rfl,q1⟩:=q1;cases r1;refine wpAny_truthy_bool ?_
 cases c with
 |true=>exact hb pins s1 σ H1 Q I1 q1
 |false=>exact⟨.bl false,H1,I1,rfl,q1⟩
theorem YV(ha:PE X a ta)(hb:PE X (.BoolOp .Or (b :: rest) pos) tb):PE X (.BoolOp .Or (a :: b :: rest) pos) (YQ ta tb):=by
 intro pins s σ H Q I h;refine BoolOp_or (cf (ha pins s σ H _ I h) fun v s1 cq=>L2.fq cq fun x H1 I1 r1 q1=>?_);obtain⟨c,rfl,q1⟩:=q1;cases r1;refine wpAny_truthy_bool ?_
 cases c with
 |false=>exact hb pins s1 σ H1 Q I1 q1
 |true=>exact⟨.bl true,H1,I1,rfl,q1⟩
theorem YW(ha:PE X a ta):PE X (.UnaryOp .Not a pos) (YR ta):=by intro pins s σ H Q I h;refine UnaryOp_ (cf (ha pins s σ H _ I h) fun v s1 cq=>L2.fq cq fun x H1 I1 r1 q1=>?_);obtain⟨c,rfl,q1⟩:=q1;cases r1;exact not_of (wpAny_truthy_bool ⟨.bl (!c),H1,I1,rfl,q1⟩)
end
def dk(K:PySem.W.Frag)(H:Hp)(a:Addr)(xs:List V):Prop :=
 Rd H a (.lst xs) \/
  ∃ (o:Obj) (its:Array Value) (n:Nat),K.lookup a=some o/\o.cls=.type "list"/\o.dict=none/\o.data=.seq its n/\its.size<=sizeLine/\Vals xs its.toList
def gI(K:PySem.W.Frag)(H:Hp)(a:Addr)(xs:List V):Prop :=
 Rd H a (.tup xs) \/
  ∃ (o:Obj) (its:Array Value) (n:Nat),K.lookup a=some o/\o.cls=.type "tuple"/\o.data=.seq its n/\its.size<=sizeLine/\Vals xs its.toList
def YX:Value->Option V
 |.none=>some .non
 |.bool b=>some (.bl b)
 |.int i _=>some (.int i)
 |.str x _=>some (.str x)
 |.bytes b _=>some (.pf b)
 |.float b _=>some (.vF b)
 |.ref a=>some (.ref a)
 |.type n=>some (.ty n)
 |_=>none
theorem RelV.abs(r:RelV x u):YX u=some x:=by
 cases x with
 |non=>cases r;rfl
 |bl _=>cases r;rfl
 |int _=>obtain⟨t,rfl⟩:=r;rfl
 |str _=>obtain⟨t,rfl⟩:=r;rfl
 |pf _=>obtain⟨t,rfl⟩:=r;rfl
 |vF _=>obtain⟨t,rfl⟩:=r;rfl
 |ref _=>cases r;rfl
 |ty _=>cases r;rfl
theorem RelV.inj(r:RelV x u)(q:RelV y u):x=y:=Option.some.inj (r.abs.symm.trans q.abs)
theorem Vals.inj:∀ {xs ys:List V} {us:List Value},Vals xs us->Vals ys us->xs=ys
 |_,_,_,.nil,.nil=>rfl
 |_,_,_,.cons r t,.cons r' t'=>by rw[r.inj r',Vals.inj t t']
section
variable {X:Cx}{pins:List (Addr × Obj)}{σ:St}{H:Hp}{s:Shared}{a:Addr}{xs ys:List V}
theorem dk.of{K:PySem.W.Frag}(h:H a=some (.lst xs)):dk K H a xs:=.inl (.inl h)
theorem gI.of{K:PySem.W.Frag}(h:H a=some (.tup xs)):gI K H a xs:=.inl (.inl h)
theorem Inv.list(I:Inv X pins σ H s)(h:dk X.K H a xs):∃ its:List Value,Vals xs its/\PlainL s.heap a its.toArray/\xs.length<=sizeLine:=by
 rcases h with h|⟨o,its,n,hk,hc,hd,hs,hz,r⟩
 ·obtain⟨z,its,n,r,e⟩:=h.ok I.aE;exact⟨its,r,⟨_,n,e,rfl,rfl,rfl⟩,z⟩
 ·refine⟨its.toList,r,⟨o,n,I.gS a o hk,hc,hd,by simpa using hs⟩,?_⟩;have e:=r.length;simp only[tv] at e;lia
theorem Inv.tuple(I:Inv X pins σ H s)(h:gI X.K H a xs):∃ its:List Value,Vals xs its/\IsTup s.heap a its.toArray/\xs.length<=sizeLine:=by
 rcases h with h|⟨o,its,n,hk,hc,hs,hz,r⟩
 ·obtain⟨z,its,r,p⟩:=h.ok I.aE;exact⟨its,r,p,z⟩
 ·refine⟨its.toList,r,⟨o,I.gS a o hk,hc,n,by simpa using hs⟩,?_⟩;have e:=r.length;simp only[tv] at e;lia
theorem Inv.TN(I:Inv X pins σ H s)(h:dk X.K H a xs)(h':dk X.K H a ys):xs=ys:=by
 obtain⟨its,r,⟨o,n,e,_,_,d⟩,_⟩:=I.list h;obtain⟨its',r',⟨o',n',e',_,_,d'⟩,_⟩:=I.list h';rw[e] at e';cases e';rw[d] at d';injection d' with d1 _;have:its=its':=by simpa using congrArg Array.toList d1
 subst this;exact r.inj r'
theorem Inv.YY(I:Inv X pins σ H s)(h:gI X.K H a xs)(h':gI X.K H a ys):xs=ys:=by
 obtain⟨its,r,⟨o,e,_,n,d⟩,_⟩:=I.tuple h;obtain⟨its',r',⟨o',e',_,n',d'⟩,_⟩:=I.tuple h';rw[e] at e';cases e';rw[d] at d';injection d' with d1 _;have:its=its':=by simpa using congrArg Array.toList d1
 subst this;exact r.inj r'
end
abbrev Cx.wish(X:Cx)(E:Value->Shared->Prop):Cx:={ X with xe:=E }
abbrev Cx.wc(X:Cx):Cx:=X.wish fun _ _=>False
theorem Cx.Ok.wish{X:Cx}(ok:X.Ok)(E:Value->Shared->Prop):(X.wish E).Ok :=
 ⟨ok.mod,ok.kind,ok.glob,ok.blt,ok.above,ok.inj,ok.has,ok.tF,ok.hd,ok.frames,ok.vT,ok.sj,ok.bs,ok.ny,ok.tI,ok.sq,ok.lj,ok.px⟩
theorem Cx.Ok.tJ{X:Cx}(ok:(X.wish E).Ok):X.Ok :=
 ⟨ok.mod,ok.kind,ok.glob,ok.blt,ok.above,ok.inj,ok.has,ok.tF,ok.hd,ok.frames,ok.vT,ok.sj,ok.bs,ok.ny,ok.tI,ok.sq,ok.lj,ok.px⟩
section
variable {X:Cx}{pins:List (Addr × Obj)}{σ:St}{H:Hp}{s:Shared}{E:Value->Shared->Prop}
theorem Inv.wish(I:Inv X pins σ H s)(E:Value->Shared->Prop):Inv (X.wish E) pins σ H s:=⟨I.ok.wish E,I.os,I.bare,I.base,I.loc,I.cell,I.free,I.kN,I.pin,I.aE,I.len⟩
theorem Inv.tJ(I:Inv (X.wish E) pins σ H s):Inv X pins σ H s:=⟨I.ok.tJ,I.os,I.bare,I.base,I.loc,I.cell,I.free,I.kN,I.pin,I.aE,I.len⟩
theorem SP.tJ{D:Ends}(h:SP (X.wish E) pins D f s'):SP X pins D f s':=by
 cases f with
 |next=>obtain⟨bE,H',I,q⟩:=h;exact⟨bE,H',I.tJ,q⟩
 |brk=>obtain⟨bE,H',I,q⟩:=h;exact⟨bE,H',I.tJ,q⟩
 |cont=>obtain⟨bE,H',I,q⟩:=h;exact⟨bE,H',I.tJ,q⟩
 |ret u=>obtain⟨v,bE,H',I,r,q⟩:=h;exact⟨v,bE,H',I.tJ,r,q⟩
theorem PE.wc(h:PE X.wc e t):PE X e t:=fun pins s σ H Q I hw =>
 oa (h pins s σ H Q (I.wish _) hw) (fun _ _ cq=>L2.fq cq fun v H' I' r q=>⟨v,H',I'.tJ,r,q⟩) fun _ _ z=>False.elim z
theorem PT.wc(h:PT X.wc e t):PT X e t:=fun pins s σ H Q I hw =>
 oa (h pins s σ H Q (I.wish _) hw) (fun _ _ ⟨H',I',q⟩=>⟨H',I'.tJ,q⟩) fun _ _ z=>False.elim z
theorem kK.wc{st:List Stmt}(h:kK X.wc st t):kK X st t:=fun pins s σ H D I hw =>
 oa (h pins s σ H D (I.wish _) hw) (fun _ _ q=>q.tJ) fun _ _ z=>False.elim z
end
section
variable {X:Cx}{st:Stmt}{rest:List Stmt}{t u:TS}{e:Expr}{te:TE}{pos:Pos}
def YZ:TS:=fun D σ H=>D.nx σ H
def TQ(t u:TS):TS:=fun D σ H=>t { D with nx:=u D } σ H
theorem TR:kK X [] YZ:=fun _ _ σ H _ I h=>wpAny_execs_nil ⟨σ,H,I,h⟩
theorem Y0(h1:PS X st t)(h2:kK X rest u):kK X (st :: rest) (TQ t u):=by
 intro pins s σ H D I h;refine wpAny_execs_cons (cf (h1 pins s σ H { D with nx:=u D } I h) fun f s1 q=>?_)
 cases f with
 |next =>obtain⟨bE,H',I',q⟩:=q;exact h2 pins s1 bE H' D I' q
 |ret v=>exact q
 |brk=>exact q
 |cont=>exact q
theorem TV(h1:PS X st t):kK X [st] t:=by
 intro pins s σ H D I h;refine wpAny_execs_cons (cf (h1 pins s σ H D I h) fun f s1 q=>?_)
 cases f with
 |next=>exact wpAny_execs_nil q
 |ret v=>exact q
 |brk=>exact q
 |cont=>exact q
theorem Inv.quiet(I:Inv X pins σ H s):interactive X.env=false:=by simp[interactive,I.ok.kind]
def Y1(te:TE):TS:=fun D σ H=>te σ H fun _ H1=>D.nx σ H1
theorem HZ(he:PE X e te)(hs:swapsWith e none pos.line X.env=pure false:=by rfl):PS X (.Expr e pos) (Y1 te):=by intro pins s σ H D I h;exact wpAny_Expr_any (cf (he pins s σ H _ I h) fun v s1 cq=>L2.fq cq fun x H1 I1 r1 q1=>⟨σ,H1,I1,q1⟩) I.quiet hs
def Y2(te:TE):TS:=fun D σ H=>te σ H D.rt
theorem zo(he:PE X e te):PS X (.Return (some e) pos) (Y2 te):=by intro pins s σ H D I h;exact wpAny_Return_some (cf (he pins s σ H _ I h) fun v s1 cq=>L2.fq cq fun x H1 I1 r1 q1=>⟨x,σ,H1,I1,r1,q1⟩)
def Y3(c:TT)(t u:TS):TS:=fun D σ H=>c σ H fun b H1=>if b=true then t D σ H1 else u D σ H1
theorem Y4(hc:PT X c tc)(ha:kK X a t)(hb:kK X b u):PS X (.If c a b pos) (Y3 tc t u):=by
 intro pins s σ H D I h;refine wpAny_If (cf (hc pins s σ H _ I h) fun d s1 dc=>?_);obtain⟨H1,I1,q1⟩:=dc
 cases d with
 |true=>exact ha pins s1 σ H1 D I1 q1
 |false=>exact hb pins s1 σ H1 D I1 q1
end
abbrev TG:=V->St->Hp->(St->Hp->Prop)->Prop
abbrev BF:=List V->St->Hp->(St->Hp->Prop)->Prop
def PG(X:Cx)(target:Expr)(t:TG):Prop :=
 ∀ (pins:List (Addr × Obj)) (s:Shared) (σ:St) (H:Hp) (v:V) (u:Value) (Q:St->Hp->Prop),Inv X pins σ H s->RelV v u->t v σ H Q ->
  wpAny (model X.prog X.w) X.A (assign target X.env u) (fun _ s'=>∃ bE H',Inv X pins bE H' s'/\Q bE H') X.xe s
def tN(X:Cx)(ts:List Expr)(t:BF):Prop :=
 ∀ (pins:List (Addr × Obj)) (s:Shared) (σ:St) (H:Hp) (vs:List V) (us:List Value) (Q:St->Hp->Prop),Inv X pins σ H s->Vals vs us->t vs σ H Q ->
  wpAny (model X.prog X.w) X.A (assignInOrder ((assignEach ts X.env).map (·.2)) us) (fun _ s'=>∃ bE H',Inv X pins bE H' s'/\Q bE H') X.xe s
section
variable {X:Cx}{pos:Pos}
def Oj(i:Nat):TG:=fun v σ H Q=>Q (σ.set i (some v)) H
theorem Y5(hN:X.N.Nodup)(hi:X.N[i]? = some x)(hx:Loc X.env.scope x)(hf:X.fn x=true\/X.env.scope.names.lookup x=some .local:=by first|exact .inl rfl|exact .inr rfl|assumption):PG X (.Name x pos) (Oj i):=by intro pins s σ H v u Q I r h;exact wpAny_assign_Name (TJ I hN hi hx r (fun s' I'=>⟨_,H,I',h⟩) hf)
def Y6:BF:=fun vs σ H Q=>vs=[]/\Q σ H
def Y7(t:TG)(u:BF):BF:=fun vs σ H Q=>∃ v r,vs=v :: r/\t v σ H fun bE H'=>u r bE H' Q
theorem Y8:tN X [] Y6:=by intro pins s σ H vs us Q I r h;obtain⟨e,h⟩:=h;subst e;cases r;exact assignInOrder_nil ⟨σ,H,I,h⟩
theorem Y9(h1:PG X e t)(h2:tN X es u)(hs:(assignEach (e :: es) X.env).map (·.2)=assign e X.env :: (assignEach es X.env).map (·.2):=by rfl):tN X (e :: es) (Y7 t u):=by
 intro pins s σ H vs us Q I r h;obtain⟨v,vr,e1,h⟩:=h;subst e1
 cases r with
 |cons r rr =>rw[hs];refine assignInOrder_cons (cf (h1 pins s σ H _ _ _ I r h) fun _ s1 dc=>?_);obtain⟨Y_,H1,I1,q1⟩:=dc;exact h2 pins s1 Y_ H1 _ _ Q I1 rr q1
def Za(K:PySem.W.Frag)(n:Nat)(t:BF):TG:=fun v σ H Q=>∃ a xs,v=.ref a/\gI K H a xs/\xs.length=n/\t xs σ H Q
theorem Zb(hc:X.calm=true)(h:tN X es t)(hn:(assignEach es X.env).length=n:=by rfl) (kr:(assignEach es X.env).findIdx? (·.1)=none:=by rfl):PG X (.Tuple es k pos) (Za X.K n t):=by
 intro pins s σ H v u Q I r hw;obtain⟨a,xs,e1,hq,hl,hw⟩:=hw;subst e1;cases r;obtain⟨its,rv,ht,hz⟩:=I.tuple hq;refine assign_Tuple_tuple (I.ok.hd hc) ht (by simp[hn,<- hl,rv.length]) kr fun h' hx=>?_;have I1:Inv X pins σ H { s with heap:=h' }:=I.kept (t':=s.toks) fun b o e=>hx b o (i3 (eR e)) e;exact h pins _ σ H xs _ Q I1 (by simpa using rv) hw
def TX(te:TE)(g:TG):TS:=fun D σ H=>te σ H fun x H1=>g x σ H1 D.nx
theorem TY(hN:X.N.Nodup)(hi:X.N[i]? = some x)(hx:Loc X.env.scope x)(he:PE X e te)(hs:swapsWith e (some (.Name x pos')) pos.line X.env=pure false:=by rfl)(hf:X.fn x=true\/X.env.scope.names.lookup x=some .local:=by first|exact .inl rfl|exact .inr rfl|assumption) :
  PS X (.Assign [.Name x pos'] e pos) (TX te (Oj i)):=by
 intro pins s σ H D I h;refine wpAny_Assign_Name (cf (he pins s σ H _ I h) fun v s1 cq=>L2.fq cq fun y H1 I1 r1 q1=>?_) hs;exact TJ I1 hN hi hx r1 (fun s2 I2=>⟨_,H1,I2,q1⟩) hf
end
structure It where
 go:Nat->Hp->Prop
 i7:Nat->Hp->V->Hp->Prop
 stop:Nat->Hp->Prop
def mM(X:Cx)(pins:List (Addr × Obj))(H:Hp)(b:Addr):Prop :=
 H b=none/\b≠X.env.locals/\b∉X.fs/\(b∈X.ex\/X.df.heap.objs.size<=b)/\(∀ x c,X.env.cells.lookup x=some c->c≠b)/\∀ p∈X.pn++pins,p.1≠b
theorem Inv.yk{X:Cx}(I:Inv X pins σ H s)(hb:s.heap.objs.size<=b)(hn:H' b=none):mM X pins H' b:=by
 refine⟨hn,Nat.ne_of_gt (kl I.lt hb),I.Yw hb,.inr (fE I.sz hb),fun x c e z=>?_,fun p hp z=>?_⟩
 ·obtain⟨v,q⟩:=I.cell x c e;exact absurd (kl q.lt (by rw[z];exact hb)) (x6 _)
 ·exact absurd (kl (eR (I.pin p hp).1) (by rw[z];exact hb)) (x6 _)
structure Turn(P:Program)(w:World)(K:PySem.W.Frag)(tg:Expr)(J:It)(fp:List Addr)(it:Addr)(tn:Nat->Heap->Prop):Prop where
 mem:it∈fp
 obj:∀ i h,tn i h->∀ b∈fp,∃ o,h.get? b=some o/\∀ v,o.data≠.cell v
 keep:∀ i h h',tn i h->(∀ b∈fp,∀ o,h.get? b=some o->h'.get? b=some o)->tn i h'
 item:∀ (X:Cx),X.prog=P->X.w=w->X.K=K->X.calm=true->∀ (i:Nat) (pins:List (Addr × Obj)) (s:Shared) (σ:St) (H:Hp) (E:Value->Shared->Prop),Inv X pins σ H s->(∀ b∈fp,mM X pins H b)->tn i s.heap->J.go i H ->
  wpAny (model P w) X.A (pyNext (.ref it)) (fun r s1=>∃ u,r=some u /\
   wpAny (model P w) X.A (letOwnedTupleGo tg (.ref it) u) (fun _ s2=>∃ x H',Inv X pins σ H' s2/\RelV x u/\J.i7 i H x H'/\tn (i+1) s2.heap/\∀ b∈fp,H' b=none) E s1) E s
 done:∀ (X:Cx),X.prog=P->X.w=w->X.K=K->X.calm=true->∀ (i:Nat) (pins:List (Addr × Obj)) (s:Shared) (σ:St) (H:Hp) (E:Value->Shared->Prop),Inv X pins σ H s->(∀ b∈fp,mM X pins H b)->tn i s.heap->J.stop i H ->
  wpAny (model P w) X.A (pyNext (.ref it)) (fun r s1=>r=none/\Inv X pins σ H s1) E s
 self:∀ (A:Around) (i:Nat) (s:Shared) (Q:Value->Shared->Prop) (E:Value->Shared->Prop),tn i s.heap->Q (.ref it) s->wpAny (model P w) A (pyIter (.ref it)) Q E s
abbrev TI:=St->Hp->(It->Hp->Prop)->Prop
def T1(X:Cx)(pins:List (Addr × Obj))(σ:St)(tg:Expr)(R:It->Hp->Prop)(H0:Value)(s2:Shared):Prop :=
 ∃ (it:Addr) (fp:List Addr) (tn:Nat->Heap->Prop) (J:It) (H':Hp),H0=.ref it/\Inv X pins σ H' s2/\Turn X.prog X.w X.K tg J fp it tn/\tn 0 s2.heap/\(∀ b∈fp,mM X pins H' b)/\R J H'
def PI(X:Cx)(tg iter:Expr)(wi:TI):Prop :=
 ∀ (pins:List (Addr × Obj)) (s:Shared) (σ:St) (H:Hp) (R:It->Hp->Prop),Inv X pins σ H s->wi σ H R ->
  wpAny (model X.prog X.w) X.A (eval iter X.env) (fun v s1=>wpAny (model X.prog X.w) X.A (pyIter v) (T1 X pins σ tg R) X.xe s1) X.xe s
theorem Ic(ho:s.heap.get? it=some o)(hc:o.cls=.type n)(hd:o.data=.fields vs)(hn:["enumerate", "zip", "dict_itemiterator", "dict_reverseitemiterator", "odict_iterator", "itertools.zip_longest", "itertools.pairwise"].contains n=false) (hQ:Q () s):wpAny M A (letOwnedTupleGo tg (.ref it) u) Q E s:=by
 unfold letOwnedTupleGo;cases tg<;>first
  |exact dv hQ
  | (cases u<;>first
     |exact dv hQ
     | (refine bS (wpAny_load ho ?_)
        rw[hc,hd];show wpAny M A (if (["enumerate", "zip", "dict_itemiterator", "dict_reverseitemiterator", "odict_iterator", "itertools.zip_longest", "itertools.pairwise"].contains n && vs[0]? == some (rawInt _))=true then _ else _) Q E s;rw[if_neg (by intro h;rw[hn,Bool.false_and] at h;cases h)];exact dv hQ))
def Iq(K:PySem.W.Frag)(a:Addr):It :=
 ⟨fun i H=>∃ xs x,dk K H a xs/\xs[i]? = some x,fun i H x H'=>H'=H/\∀ xs,dk K H a xs->xs[i]? = some x,fun i H=>∃ xs,dk K H a xs/\xs.length<=i⟩
def Ol(K:PySem.W.Frag)(a:Addr):It :=
 ⟨fun i H=>∃ xs x,gI K H a xs/\xs[i]? = some x,fun i H x H'=>H'=H/\∀ xs,gI K H a xs->xs[i]? = some x,fun i H=>∃ xs,gI K H a xs/\xs.length<=i⟩
def zt(lo:Int)(n:Nat):It:=⟨fun i _=>i<n,fun i H x H'=>H'=H/\x=.int (lo+i),fun i _=>n<=i⟩
theorem Zc{P:Program}{K:PySem.W.Frag}(a it:Addr):Turn P w K tg (Iq K a) [it] it (fun i h=>h.IsListIter it a i) where
 mem:=by simp
 obj:=fun i h st b hb=>by
  have e:b=it:=by simpa using hb
  subst e;obtain⟨o,e,c,d⟩:=st;exact⟨o,e,fun v z=>by rw[d] at z;cases z⟩
 keep:=fun i h h' st k=>st.at fun o e=>k it (by simp) o e
 item:=by intro X hP hw hK hc i pins s σ H E I hf st hg;subst hP hw hK;obtain⟨xs,x,hq,hx⟩:=hg;obtain⟨its,rv,p,hz⟩:=I.list hq;obtain⟨u,hu,ru⟩:=rv.get hx;obtain⟨f0,f1,f2,f3,f4,f5⟩:=hf it (by simp);refine wpAny_pyNext_list_item st p.isList (x:=u) (by simpa using hu) fun h' hW sb=>?_;have I1:Inv X pins σ H { s with heap:=h' }:=I.turned (t':=s.toks) (fun b o hb e=>(sb.2 b hb).trans e) f0 f1 f3 f4 f5;obtain⟨o,e,c,d⟩:=id hW;exact⟨u,rfl,Ic (s:={ s with heap:=h' }) e c d (by decide) ⟨x,H,I1,ru,⟨rfl,fun ys hy=>by rw[I.TN hy hq];exact hx⟩,hW,fun b hb=>(hf b hb).1⟩⟩
 done:=by intro X hP hw hK hc i pins s σ H E I hf st hg;subst hP hw hK;obtain⟨xs,hq,hx⟩:=hg;obtain⟨its,rv,p,hz⟩:=I.list hq;obtain⟨f0,f1,f2,f3,f4,f5⟩:=hf it (by simp);have hl:=rv.length;exact wpAny_pyNext_list_end (I.ok.hd hc) st p.isList (by simp;lia) fun h' eb=>⟨rfl,I.turned (t':=s.toks) (fun b o hb e=>eb b o hb e) f0 f1 f3 f4 f5⟩
 self:=fun _ _ _ _ _ st h=>wpAny_pyIter_listiter st h
theorem Zd{P:Program}{K:PySem.W.Frag}(a it:Addr):Turn P w K tg (Ol K a) [it] it (fun i h=>h.IsTupleIter it a i) where
 mem:=by simp
 obj:=fun i h st b hb=>by
  have e:b=it:=by simpa using hb
  subst e;obtain⟨o,e,c,d⟩:=st;exact⟨o,e,fun v z=>by rw[d] at z;cases z⟩
 keep:=fun i h h' st k=>st.at fun o e=>k it (by simp) o e
 item:=by intro X hP hw hK hc i pins s σ H E I hf st hg;subst hP hw hK;obtain⟨xs,x,hq,hx⟩:=hg;obtain⟨its,rv,p,hz⟩:=I.tuple hq;obtain⟨u,hu,ru⟩:=rv.get hx;obtain⟨f0,f1,f2,f3,f4,f5⟩:=hf it (by simp);refine wpAny_pyNext_tuple_item st (show s.heap.IsTuple a its.toArray from p) (x:=u) (by simpa using hu) fun h' hW sb=>?_;have I1:Inv X pins σ H { s with heap:=h' }:=I.turned (t':=s.toks) (fun b o hb e=>(sb.2 b hb).trans e) f0 f1 f3 f4 f5;obtain⟨o,e,c,d⟩:=id hW;exact⟨u,rfl,Ic (s:={ s with heap:=h' }) e c d (by decide) ⟨x,H,I1,ru,⟨rfl,fun ys hy=>by rw[I.YY hy hq];exact hx⟩,hW,fun b hb=>(hf b hb).1⟩⟩
 done:=by intro X hP hw hK hc i pins s σ H E I hf st hg;subst hP hw hK;obtain⟨xs,hq,hx⟩:=hg;obtain⟨its,rv,p,hz⟩:=I.tuple hq;obtain⟨f0,f1,f2,f3,f4,f5⟩:=hf it (by simp);have hl:=rv.length;exact wpAny_pyNext_tuple_end (I.ok.hd hc) st (show s.heap.IsTuple a its.toArray from p) (by simp;lia) fun h' eb=>⟨rfl,I.turned (t':=s.toks) (fun b o hb e=>eb b o hb e) f0 f1 f3 f4 f5⟩
 self:=fun _ _ _ _ _ st h=>wpAny_pyIter_tupleiter st h
theorem Ze{P:Program}{K:PySem.W.Frag}(it:Addr)(lo:Int)(n:Nat):Turn P w K tg (zt lo n) [it] it (fun i h=>IsRangeIter h it (lo+(i:Nat)*1) ((n:Int)-(i:Nat)) 1) where
 mem:=by simp
 obj:=fun i h st b hb=>by
  have e:b=it:=by simpa using hb
  subst e;exact⟨_,st,fun v z=>by
   have z':Data.fields _=Data.cell v:=z;cases z'⟩
 keep:=fun i h h' st k=>k it (by simp) _ st
 item:=by intro X hP hw hK hc i pins s σ H E I hf st hg;subst hP hw hK;obtain⟨f0,f1,f2,f3,f4,f5⟩:=hf it (by simp);have W:=Walks.range (prog:=X.prog) (w:=X.w) (I.ok.hd hc) it lo 1 n;refine W.item i s _ _ hg st fun v h' tk hv hW kk=>?_;obtain⟨t,rfl⟩:=hv;have I1:Inv X pins σ H { s with heap:=h',toks:=tk }:=I.turned (fun b o hb e=>kk b o (by simpa using hb) e) f0 f1 f3 f4 f5;refine⟨_,rfl,Ic (s:={ s with heap:=h',toks:=tk }) (n := "range_iterator") hW rfl rfl (by decide) ⟨.int (lo+i),H,I1,⟨t,?_⟩,⟨rfl,rfl⟩,hW,fun b hb=>(hf b hb).1⟩⟩;rw[Int.mul_one]
 done:=by intro X hP hw hK hc i pins s σ H E I hf st hg;subst hP hw hK;obtain⟨f0,f1,f2,f3,f4,f5⟩:=hf it (by simp);exact wpAny_pyNext_range_end (I.ok.hd hc) st (by have:n<=i:=hg;lia) fun h' eb=>⟨rfl,I.turned (t':=s.toks) (fun b o hb e=>eb b o hb e) f0 f1 f3 f4 f5⟩
 self:=fun _ _ _ _ _ st h=>wpAny_pyIter_rangeiter st h
section
variable {X:Cx}{tg:Expr}
def Zf(K:PySem.W.Frag)(tl:TE):TI:=fun σ H R=>tl σ H fun x H1=>∃ a,x=.ref a/\(∃ xs,dk K H1 a xs)/\R (Iq K a) H1
def Zg(K:PySem.W.Frag)(tl:TE):TI:=fun σ H R=>tl σ H fun x H1=>∃ a,x=.ref a/\(∃ xs,gI K H1 a xs)/\R (Ol K a) H1
theorem T2(hl:PE X l tl):PI X tg l (Zf X.K tl):=by
 intro pins s σ H R I h;refine cf (hl pins s σ H _ I h) fun v s1 cq=>L2.fq cq fun x H1 I1 r1 q1=>?_;obtain⟨a,e,⟨xs,hq⟩,q⟩:=q1;subst e;cases r1;obtain⟨its,rv,p,hz⟩:=I1.list hq;refine wpAny_pyIter_list p.isList ?_;refine⟨s1.heap.objs.size,[s1.heap.objs.size],_,_,H1,rfl,I1.kept (t':=s1.toks) fun b o e=>jv _ e,Zc a _,⟨_,pd _ rfl,rfl,rfl⟩,fun b hb=>?_,q⟩;have e:b=s1.heap.objs.size:=by simpa using hb
 subst e;exact I1.yk (cK _) (I1.aE.fresh (cK _))
theorem T3(hl:PE X l tl):PI X tg l (Zg X.K tl):=by
 intro pins s σ H R I h;refine cf (hl pins s σ H _ I h) fun v s1 cq=>L2.fq cq fun x H1 I1 r1 q1=>?_;obtain⟨a,e,⟨xs,hq⟩,q⟩:=q1;subst e;cases r1;obtain⟨its,rv,p,hz⟩:=I1.tuple hq;refine wpAny_pyIter_tuple (show s1.heap.IsTuple a its.toArray from p) ?_;refine⟨s1.heap.objs.size,[s1.heap.objs.size],_,_,H1,rfl,I1.kept (t':=s1.toks) fun b o e=>jv _ e,Zd a _,⟨_,pd _ rfl,rfl,rfl⟩,fun b hb=>?_,q⟩;have e:b=s1.heap.objs.size:=by simpa using hb
 subst e;exact I1.yk (cK _) (I1.aE.fresh (cK _))
theorem T4{R:It->Hp->Prop}{lo hi:Int}(I:Inv X pins σ H s)(h1:-(2 ^ 62)<=lo)(h2:lo<2 ^ 62)(h3:-(2 ^ 62)<=hi)(h4:hi<2 ^ 62)(q:R (zt lo (hi-lo).toNat) H):wpAny (model X.prog X.w) X.A (pyIter (.ref s.heap.objs.size)) (T1 X pins σ tg R) E { s with heap:=s.heap.push { cls:=.type "range",data:=.fields #[.int lo t,.int hi u,.int 1 v] },toks:=tk }:=by
 refine wpAny_pyIter_range (IsRange.new ..) (small_one h1 h2 h3 h4) ?_;have I1:Inv X pins σ H { s with heap:=s.heap.push { cls:=.type "range",data:=.fields #[.int lo t,.int hi u,.int 1 v] },toks:=tk }:=I.kept fun b o e=>jv _ e;refine⟨(s.heap.push { cls:=.type "range",data:=.fields #[.int lo t,.int hi u,.int 1 v] }).objs.size,[(s.heap.push { cls:=.type "range",data:=.fields #[.int lo t,.int hi u,.int 1 v] }).objs.size],_,_,H,rfl,
  I1.kept (t':=tk) fun b o e=>jv _ e,Ze _ lo (hi-lo).toNat,?_,fun b hb=>?_,q⟩
 ·have e1:lo+((0:Nat):Int)*1=lo:=by simp
  have e2:(((hi-lo).toNat:Nat):Int)-((0:Nat):Int)=Builtin.Range.rangeSize lo hi 1:=by rw[rangeSize_one];split<;>lia
  show IsRangeIter _ _ (lo+((0:Nat):Int)*1) ((((hi-lo).toNat:Nat):Int)-((0:Nat):Int)) 1;rw[e1,e2];exact pd _ rfl
 ·have e:b=(s.heap.push { cls:=.type "range",data:=.fields #[.int lo t,.int hi u,.int 1 v] }).objs.size:=by simpa using hb
  subst e;exact I1.yk (cK _) (I1.aE.fresh (cK _))
def Zh(ta:TA):TI:=fun σ H R=>ta σ H fun vs H1=>∃ j:Int,vs=[.int j]/\-(2 ^ 62)<=j/\j<2 ^ 62/\R (zt 0 j.toNat) H1
def Zi(ta:TA):TI:=fun σ H R=>ta σ H fun vs H1=>∃ i j:Int,vs=[.int i,.int j]/\(-(2 ^ 62)<=i/\i<2 ^ 62/\-(2 ^ 62)<=j/\j<2 ^ 62)/\R (zt i (j-i).toNat) H1
theorem Zj (hg:Gl X "range") (hm:X.mg "range" = none) (ha:PA X [a] ta) (hs:starEach [a] X.env=[(false,eval a X.env)]:=by rfl):PI X tg (.Call (.Name "range" p) [a] [] pos) (Zh ta):=by
 intro pins s σ H R I h;refine Call_ (BD I hg hm boot_range (PyProof.Rows.callWith_type1 (cf (ha pos pins s σ H _ I h) fun us s1 cq=>L2.fq cq fun vs H1 I1 r1 q1=>?_) hs rfl));obtain⟨j,e,q1,q2,q⟩:=q1;subst e
 cases r1 with
 |cons r rr =>cases rr;obtain⟨t,rfl⟩:=r;exact call_range_1 (T4 I1 (by lia) (by lia) q1 q2 (by simpa using q))
theorem Zk (hg:Gl X "range") (hm:X.mg "range" = none) (ha:PA X [a,b] ta) (hs:starEach [a,b] X.env=[(false,eval a X.env),(false,eval b X.env)]:=by rfl) (nE:starEach [b] X.env=[(false,eval b X.env)]:=by rfl) :
  PI X tg (.Call (.Name "range" p) [a,b] [] pos) (Zi ta):=by
 intro pins s σ H R I h;refine Call_ (BD I hg hm boot_range (PyProof.Rows.callWith_type1 (cf (ha pos pins s σ H _ I h) fun us s1 cq=>L2.fq cq fun vs H1 I1 r1 q1=>?_) (by rw[hs,nE]) (by rw[nE];rfl)));obtain⟨i,j,e,⟨q1,q2,q3,q4⟩,q⟩:=q1;subst e
 cases r1 with
 |cons r rr =>
  cases rr with
  |cons r' rr =>cases rr;obtain⟨t,rfl⟩:=r;obtain⟨t',rfl⟩:=r';exact call_range_2 (T4 I1 q1 q2 q3 q4 q)
def T5(wi:TI)(g:TG)(tb:TS):TS:=fun D σ H=>wi σ H fun J H1=>∃ W:Nat->Nat->St->Hp->Prop,(∃ m,W 0 m σ H1)/\∀ i m σ H,W i m σ H -> (J.stop i H/\D.nx σ H)\/(J.go i H/\∃ N:St->Hp->Prop,(∀ bE H',N bE H'->∃ m',m'<m/\W (i+1) m' bE H')/\∀ x H',J.i7 i H x H'->g x σ H' fun iS H2=>tb { D with nx:=N,ct:=N,bk:=D.nx } iS H2)
def BG(fp:List Addr)(h:Heap):List (Addr × Obj):=fp.filterMap fun b=>(h.get? b).map fun o=>(b,o)
theorem BH(hb:b∈fp)(e:h.get? b=some o):(b,o)∈BG fp h:=List.mem_filterMap.mpr ⟨b,hb,by rw[e];rfl⟩
theorem Zm(hp:p∈BG fp h):p.1∈fp/\h.get? p.1=some p.2:=by
 obtain⟨b,hb,e⟩:=List.mem_filterMap.mp hp
 cases q:h.get? b with
 |none=>rw[q] at e;cases e
 |some o =>rw[q] at e;have e':(b,o)=p:=Option.some.inj e;subst e';exact⟨hb,q⟩
theorem Inv.pinned(I:Inv X pins σ H s)(hf:∀ b∈fp,mM X pins H b)(ho:∀ b∈fp,∃ o,s.heap.get? b=some o/\∀ v,o.data≠.cell v):Inv X (pins++BG fp s.heap) σ H s :=
 I.TB fun p hp=>(eW.mp hp).elim (fun z=>I.pin p (eT _ z)) fun z=>by obtain⟨hb,e⟩:=Zm z;obtain⟨f0,f1,f2,_⟩:=hf p.1 hb;obtain⟨o,e',d⟩:=ho p.1 hb;rw[e] at e';cases e';exact⟨e,f0,f1,f2,d⟩
theorem Inv.DT(I:Inv X (pins++pl) σ H s):Inv X pins σ H s:=I.TB fun p hp=>I.pin p (eT _ (js _ hp))
theorem Zn(hp:PassesOwn (model X.prog X.w) X.A X.env X.xe)(hc:X.calm=true)(hi:PI X tg iter wi)(hg:PG X tg g)(hb:kK X body tb)(hs:∀ x,foldedSetIterable iter X.env x=pure x:=by intro _;rfl):PS X (.For tg iter body [] pos) (T5 wi g tb):=by
 intro pins s σ H D I h;refine wpAny_For (cf (hi pins s σ H _ I h) fun v s1 h1=>cf h1 fun H0 s2 h2=>?_) hs;obtain⟨it,fp,tn,J,H2,e,I2,T,zv,f2,W,⟨m0,w0⟩,turn⟩:=h2;subst e
 -- what stays true of the iterator's objects through the loop
 have stat:∀ {H':Hp},(∀ b∈fp,H' b=none)->∀ b∈fp,mM X pins H' b:=fun hn b hb=>⟨hn b hb,(f2 b hb).2⟩
 refine codeAny_forLoop_any (fun n s'=>∃ i bE H',Inv X pins bE H' s'/\tn i s'.heap/\(∀ b∈fp,H' b=none)/\W i n bE H') ?_ m0 ⟨0,σ,H2,I2,zv,fun b hb=>(f2 b hb).1,w0⟩;rintro n s3 ⟨i,tP,H3,I3,qV,T6,w3⟩;rcases turn i n tP H3 w3 with⟨stop,qn⟩|⟨go,N,hN,step⟩
 ·refine wpAny_passesOwn hp (cf (T.done X rfl rfl rfl hc i pins s3 tP H3 X.xe I3 (stat T6) qV stop) fun r s4 dc=>?_);obtain⟨hr,I4⟩:=dc;subst hr;exact wpAny_execs_nil ⟨tP,H3,I4,qn⟩
 ·refine wpAny_passesOwn hp (cf (T.item X rfl rfl rfl hc i pins s3 tP H3 X.xe I3 (stat T6) qV go) fun r s4 dc=>?_);obtain⟨u,hr,h4⟩:=dc;subst hr;refine wpAny_passesOwn hp (cf h4 fun _ s5 dc=>?_);obtain⟨x,H5,I5,r5,y5,wd,zC⟩:=dc;have Zo:=I5.pinned (stat zC) (T.obj _ _ wd);refine wpAny_passesOwn hp (cf (hg _ s5 tP H5 x u _ Zo r5 (step x H5 y5)) fun _ s6 dc=>?_);obtain⟨Zq,H6,I6,q6⟩:=dc;refine wpAny_passesOwn hp (cf (hb _ s6 Zq H6 _ I6 q6) fun f s7 q7=>?_);have again:∀ {sx:St} {H7:Hp},Inv X (pins++BG fp s5.heap) sx H7 s7->N sx H7->∃ m,m<n/\∃ i bE H',Inv X pins bE H' s7/\tn i s7.heap/\(∀ b∈fp,H' b=none)/\W i m bE H':=fun {sx H7} I7 n7=>by obtain⟨m',hm,w7⟩:=hN sx H7 n7;refine⟨m',hm,i+1,sx,H7,I7.DT,T.keep _ _ _ wd fun b hb o e=>(I7.pin (b,o) (eT _ (eT _ (BH hb e)))).1,fun b hb=>?_,w7⟩;obtain⟨o,e,d⟩:=T.obj _ _ wd b hb;exact(I7.pin (b,o) (eT _ (eT _ (BH hb e)))).2.1
  cases f with
  |next=>obtain⟨sx,H7,I7,n7⟩:=q7;exact again I7 n7
  |cont=>obtain⟨sx,H7,I7,n7⟩:=q7;exact again I7 n7
  |brk=>obtain⟨sx,H7,I7,q7⟩:=q7;exact⟨sx,H7,I7.DT,q7⟩
  |ret v=>obtain⟨x7,sx,H7,I7,r7,q7⟩:=q7;exact⟨x7,sx,H7,I7.DT,r7,q7⟩
end
abbrev R2:=V->V->Hp->VK->Prop
def cy(X:Cx)(f:Value->Value->Sem Value)(r:R2):Prop :=
 ∀ (pins:List (Addr × Obj)) (s:Shared) (σ:St) (H:Hp) (x y:V) (v u:Value) (Q:VK),Inv X pins σ H s->RelV x v->RelV y u->r x y H Q ->
  wpAny (model X.prog X.w) X.A (f v u) (EP X pins σ Q) X.xe s
def Iy(X:Cx)(f:Value->Sem Value)(r:V->Hp->VK->Prop):Prop :=
 ∀ (pins:List (Addr × Obj)) (s:Shared) (σ:St) (H:Hp) (x:V) (v:Value) (Q:VK),Inv X pins σ H s->RelV x v->r x H Q ->
  wpAny (model X.prog X.w) X.A (f v) (EP X pins σ Q) X.xe s
def h8(X:Cx)(f:Value)(r:List V->Hp->VK->Prop):Prop :=
 ∀ (pins:List (Addr × Obj)) (s:Shared) (σ:St) (H:Hp) (xs:List V) (us:List Value) (Q:VK),Inv X pins σ H s->Vals xs us->r xs H Q ->
  wpAny (model X.prog X.w) X.A (call f us) (EP X pins σ Q) X.xe s
def DU(r:R2)(ta tb:TE):TE:=fun σ H Q=>ta σ H fun x H1=>tb σ H1 fun y H2=>r x y H2 Q
def Zr(r:V->Hp->VK->Prop)(ta:TE):TE:=fun σ H Q=>ta σ H fun x H1=>r x H1 Q
def rI(C:Int->Int->Prop)(g:Int->Int->V):R2:=fun x y H Q=>∃ i j,x=.int i/\y=.int j/\C i j/\Q (g i j) H
def zD(g:Int->Int->V):R2:=fun x y H Q=>∃ i j,x=.int i/\y=.int j/\Q (g i j) H
def rU(g:Int->V):V->Hp->VK->Prop:=fun x H Q=>∃ i,x=.int i/\Q (g i) H
section
variable {X:Cx}{a b:Expr}{ta tb:TE}{pos:Pos}
theorem Om(ha:PE X a ta)(hb:PE X b tb){pins:List (Addr × Obj)}{s:Shared}{σ:St}{H:Hp}{R:V->V->Hp->Prop}(I:Inv X pins σ H s)(h:ta σ H fun x H1=>tb σ H1 fun y H2=>R x y H2) {Q:Value->Shared->Prop} {f:Value->Value->Sem Value}(hf:∀ v u s2 x y H2,Inv X pins σ H2 s2->RelV x v->RelV y u->R x y H2->wpAny (model X.prog X.w) X.A (f v u) Q X.xe s2) :
  wpAny (model X.prog X.w) X.A (eval a X.env) (fun v eM=>wpAny (model X.prog X.w) X.A (eval b X.env) (fun u IA=>wpAny (model X.prog X.w) X.A (f v u) Q X.xe IA) X.xe eM) X.xe s:=by
 refine cf (ha pins s σ H _ I h) fun v s1 cq=>L2.fq cq fun x H1 I1 r1 q1=>?_;refine cf (hb pins s1 σ H1 _ I1 q1) fun u s2 cq=>L2.fq cq fun y H2 I2 r2 q2=>?_;exact hf v u s2 x y H2 I2 r1 r2 q2
theorem Oo{op:Operator}{r:R2}(ho:cy X (binaryOp op) r)(ha:PE X a ta)(hb:PE X b tb):PE X (.BinOp a op b pos) (DU r ta tb):=by intro pins s σ H Q I h;exact wpAny_BinOp (Om ha hb I h fun v u s2 x y H2 I2 rx ry q=>ho pins s2 σ H2 x y v u Q I2 rx ry q)
theorem Zt(ho:Iy X (unaryOp op) r)(ha:PE X a ta):PE X (.UnaryOp op a pos) (Zr r ta):=by intro pins s σ H Q I h;exact UnaryOp_ (cf (ha pins s σ H _ I h) fun v s1 cq=>L2.fq cq fun x H1 I1 r1 q1=>ho pins s1 σ H1 x v Q I1 r1 q1)
theorem Oq{f:Value->Value->Sem Value}{C:Int->Int->Prop}{g:Int->Int->Int}(rule:∀ (i j:Int) (t u:Tok) (s:Shared) (Q:Value->Shared->Prop) (E:Value->Shared->Prop),C i j->Q (.int (g i j) s.toks) { s with toks:=s.toks+1 }->wpAny (model X.prog X.w) X.A (f (.int i t) (.int j u)) Q E s) :
  cy X f (rI C fun i j=>.int (g i j)):=by
 intro pins s σ H x y v u Q I rx ry h;obtain⟨i,j,rfl,rfl,hc,q⟩:=h;obtain⟨t,rfl⟩:=rx;obtain⟨t',rfl⟩:=ry;exact rule i j t t' s _ _ hc ⟨.int (g i j),H,I.tok _,⟨_,rfl⟩,q⟩
theorem T7{f:Value->Value->Sem Value}{g:Int->Int->Int}(rule:∀ (i j:Int) (t u:Tok) (s:Shared) (Q:Value->Shared->Prop) (E:Value->Shared->Prop),Q (.int (g i j) s.toks) { s with toks:=s.toks+1 }->wpAny (model X.prog X.w) X.A (f (.int i t) (.int j u)) Q E s) :
  cy X f (zD fun i j=>.int (g i j)):=by
 intro pins s σ H x y v u Q I rx ry h;obtain⟨i,j,rfl,rfl,q⟩:=h;obtain⟨t,rfl⟩:=rx;obtain⟨t',rfl⟩:=ry;exact rule i j t t' s _ _ ⟨.int (g i j),H,I.tok _,⟨_,rfl⟩,q⟩
theorem Ot{f:Value->Value->Sem Value}{g:Int->Int->Bool}(rule:∀ (i j:Int) (t u:Tok) (s:Shared) (Q:Value->Shared->Prop) (E:Value->Shared->Prop),Q (.bool (g i j)) s->wpAny (model X.prog X.w) X.A (f (.int i t) (.int j u)) Q E s) :
  cy X f (zD fun i j=>.bl (g i j)):=by
 intro pins s σ H x y v u Q I rx ry h;obtain⟨i,j,rfl,rfl,q⟩:=h;obtain⟨t,rfl⟩:=rx;obtain⟨t',rfl⟩:=ry;exact rule i j t t' s _ _ ⟨.bl (g i j),H,I,rfl,q⟩
def Zu(i j:Int):Prop:=0<j/\j<1073741824
def BI(i j:Int):Prop:=(-(2 ^ 64)<i/\i<2 ^ 64)\/(-(2 ^ 64)<j/\j<2 ^ 64)
theorem BI.ok(h:BI i j):IntMulOk i j:=by
 rcases h with⟨h1,h2⟩|⟨h1,h2⟩
 ·exact .of_left (intBits_le_64 h1 h2)
 ·exact .of_right (intBits_le_64 h1 h2)
theorem Zv:cy X (binaryOp .Add) (zD fun i j=>.int (i+j)):=T7 fun _ _ _ _ _ _ _ q=>add_int q
theorem Zw:cy X (binaryOp .Sub) (zD fun i j=>.int (i-j)):=T7 fun _ _ _ _ _ _ _ q=>sub_int q
theorem Zx:cy X (binaryOp .Mult) (rI BI fun i j=>.int (i*j)):=Oq fun _ _ _ _ _ _ _ hc q=>mul_int q hc.ok
theorem Zy:cy X (binaryOp .FloorDiv) (rI Zu fun i j=>.int (i / j)):=Oq fun i j _ _ _ _ _ hc q=>by have h1:(0:Int)<j:=hc.1;have h2:j<1073741824:=hc.2;exact floordiv_int (by lia) (by rw[Int.fdiv_eq_ediv_of_nonneg i (by exact Int.le_of_lt ‹_›)];exact q) (.inl (PyProof.noPylong_small (by lia)))
theorem Zz:cy X (binaryOp .Mod) (rI (fun _ j=>0<j) fun i j=>.int (i % j)):=Oq fun i j _ _ _ _ _ hc q=>by have h1:(0:Int)<j:=hc;exact mod_int' (by lia) (by rw[Int.fmod_eq_emod_of_nonneg i (by exact Int.le_of_lt ‹_›)];exact q)
theorem ZC{f:Value->Sem Value}{g:Int->Int}(rule:∀ (i:Int) (t:Tok) (s:Shared) (Q:Value->Shared->Prop) (E:Value->Shared->Prop),Q (.int (g i) s.toks) { s with toks:=s.toks+1 }->wpAny (model X.prog X.w) X.A (f (.int i t)) Q E s) :
  Iy X f (rU fun i=>.int (g i)):=by
 intro pins s σ H x v Q I rx h;obtain⟨i,rfl,q⟩:=h;obtain⟨t,rfl⟩:=rx;exact rule i t s _ _ ⟨.int (g i),H,I.tok _,⟨_,rfl⟩,q⟩
theorem ZD:Iy X (unaryOp .USub) (rU fun i=>.int (-i)):=ZC fun _ _ _ _ _ q=>neg_int q
end
def T8:V->V->Bool
 |.non,.non=>true|.non,.int _=>true|.int _,.non=>true|.non,.bl _=>true|.bl _,.non=>true|.non,.str _=>true|.str _,.non=>true
 |.int _,.int _=>true|.bl _,.bl _=>true|.str _,.str _=>true|.pf _,.pf _=>true
 |.int _,.str _=>true|.str _,.int _=>true|.bl _,.str _=>true|.str _,.bl _=>true
 |_,_=>false
def ZE:R2:=fun x y H Q=>T8 x y=true/\Q (.bl (decide (x=y))) H
def ZF:R2:=fun x y H Q=>T8 x y=true/\Q (.bl (!decide (x=y))) H
theorem T9:decide (V.int i=V.int j)=(i == j):=by rw[vx];simp
theorem T_:decide (V.bl i=V.bl j)=(i == j):=by rw[vx];simp
theorem Ua:decide (V.str i=V.str j)=(i == j):=by rw[vx];simp
theorem Ub:decide (V.pf i=V.pf j)=(i.toList == j.toList):=by rw[vx];cases i;cases j;simp
section
variable {X:Cx}{a b c:Expr}{ta tb tc:TE}{pos:Pos}
theorem gv(I:Inv X pins σ H s)(q:Q (.bl k) H)(e:k=k'):EP X pins σ Q (.bool k') s:=by subst e;exact⟨.bl k,H,I,rfl,q⟩
theorem ZG:cy X (compareOp .Eq) ZE:=by
 intro pins s σ H x y v u Q I rx ry h;obtain⟨hs,q⟩:=h
 cases x with
 |non =>
  cases rx
  cases y with
  |non=>cases ry;exact PySem.EqNone.eq_none_none (gv I q (by simp))
  |bl j=>cases ry;exact PySem.EqNone.eq_none_bool (gv I q (by simp))
  |int j=>obtain⟨t',rfl⟩:=ry;exact PySem.EqNone.eq_none_int (gv I q (by simp))
  |str j=>obtain⟨t',rfl⟩:=ry;exact PySem.EqNone.eq_none_str (gv I q (by simp))
  |_=>exact absurd (show false=true from hs) ko
 |bl i =>
  cases rx
  cases y with
  |non=>cases ry;exact PySem.EqNone.eq_bool_none (gv I q (by simp))
  |bl j=>cases ry;exact eq_bool (gv I q T_)
  |str j=>obtain⟨t',rfl⟩:=ry;exact PySem.EqMixed.eq_bool_str (gv I q (by simp))
  |_=>exact absurd (show false=true from hs) ko
 |int i =>
  obtain⟨t,rfl⟩:=rx
  cases y with
  |non=>cases ry;exact PySem.EqNone.eq_int_none (gv I q (by simp))
  |int j=>obtain⟨t',rfl⟩:=ry;exact eq_int (gv I q T9)
  |str j=>obtain⟨t',rfl⟩:=ry;exact PySem.EqMixed.eq_int_str (gv I q (by simp))
  |_=>exact absurd (show false=true from hs) ko
 |str i =>
  obtain⟨t,rfl⟩:=rx
  cases y with
  |non=>cases ry;exact PySem.EqNone.eq_str_none (gv I q (by simp))
  |bl j=>cases ry;exact PySem.EqMixed.eq_str_bool (gv I q (by simp))
  |int j=>obtain⟨t',rfl⟩:=ry;exact PySem.EqMixed.eq_str_int (gv I q (by simp))
  |str j=>obtain⟨t',rfl⟩:=ry;exact eq_str (gv I q Ua)
  |_=>exact absurd (show false=true from hs) ko
 |pf i =>
  obtain⟨t,rfl⟩:=rx
  cases y with
  |pf j=>obtain⟨t',rfl⟩:=ry;exact PySem.W.eq_bytes (gv I q Ub)
  |_=>exact absurd (show false=true from hs) ko
 |_=>cases y<;>exact absurd (show false=true from hs) ko
theorem ZH:cy X (compareOp .NotEq) ZF:=by
 intro pins s σ H x y v u Q I rx ry h;obtain⟨hs,q⟩:=h
 cases x with
 |non =>
  cases rx
  cases y with
  |non=>cases ry;exact PySem.EqNone.ne_none_none (gv I q (by simp))
  |bl j=>cases ry;exact PySem.EqNone.ne_none_bool (gv I q (by simp))
  |int j=>obtain⟨t',rfl⟩:=ry;exact PySem.EqNone.ne_none_int (gv I q (by simp))
  |str j=>obtain⟨t',rfl⟩:=ry;exact PySem.EqNone.ne_none_str (gv I q (by simp))
  |_=>exact absurd (show false=true from hs) ko
 |bl i =>
  cases rx
  cases y with
  |non=>cases ry;exact PySem.EqNone.ne_bool_none (gv I q (by simp))
  |bl j=>cases ry;exact ne_bool (gv I q (congrArg not T_))
  |str j=>obtain⟨t',rfl⟩:=ry;exact PySem.EqMixed.ne_bool_str (gv I q (by simp))
  |_=>exact absurd (show false=true from hs) ko
 |int i =>
  obtain⟨t,rfl⟩:=rx
  cases y with
  |non=>cases ry;exact PySem.EqNone.ne_int_none (gv I q (by simp))
  |int j=>obtain⟨t',rfl⟩:=ry;exact ne_int (gv I q (congrArg not T9))
  |str j=>obtain⟨t',rfl⟩:=ry;exact PySem.EqMixed.ne_int_str (gv I q (by simp))
  |_=>exact absurd (show false=true from hs) ko
 |str i =>
  obtain⟨t,rfl⟩:=rx
  cases y with
  |non=>cases ry;exact PySem.EqNone.ne_str_none (gv I q (by simp))
  |bl j=>cases ry;exact PySem.EqMixed.ne_str_bool (gv I q (by simp))
  |int j=>obtain⟨t',rfl⟩:=ry;exact PySem.EqMixed.ne_str_int (gv I q (by simp))
  |str j=>obtain⟨t',rfl⟩:=ry;exact ne_str (gv I q (congrArg not Ua))
  |_=>exact absurd (show false=true from hs) ko
 |pf i =>
  obtain⟨t,rfl⟩:=rx
  cases y with
  |pf j=>obtain⟨t',rfl⟩:=ry;exact PySem.W.ne_bytes (gv I q (congrArg not Ub))
  |_=>exact absurd (show false=true from hs) ko
 |_=>cases y<;>exact absurd (show false=true from hs) ko
theorem ZI:cy X (compareOp .Lt) (zD fun i j=>.bl (decide (i<j))):=Ot fun _ _ _ _ _ _ _ q=>lt_int q
theorem ZJ:cy X (compareOp .LtE) (zD fun i j=>.bl (decide (i<=j))):=Ot fun _ _ _ _ _ _ _ q=>le_int q
theorem ZK:cy X (compareOp .Gt) (zD fun i j=>.bl (decide (j<i))):=Ot fun _ _ _ _ _ _ _ q=>gt_int q
theorem ZL:cy X (compareOp .Lt) (fun x y H Q=>∃ i j,x=.str i/\y=.str j/\Q (.bl (decide (i.cps.toList<j.cps.toList))) H):=by intro pins s σ H x y v u Q I rx ry h;obtain⟨i,j,rfl,rfl,q⟩:=h;obtain⟨t,rfl⟩:=rx;obtain⟨t',rfl⟩:=ry;exact lt_str (gv I q rfl)
theorem ZM:cy X (compareOp .In) (fun x y H Q=>∃ i j,x=.str i/\y=.str j/\Q (.bl (!(Builtin.Str.occurrences j i 0 j.length 1).isEmpty)) H):=by intro pins s σ H x y v u Q I rx ry h;obtain⟨i,j,rfl,rfl,q⟩:=h;obtain⟨t,rfl⟩:=rx;obtain⟨t',rfl⟩:=ry;exact in_str (gv I q rfl)
theorem cy.or(h:cy X f r)(h':cy X f r'):cy X f (fun x y H Q=>r x y H Q\/r' x y H Q):=by
 intro pins s σ H x y v u Q I rx ry q;rcases q with q|q
 ·exact h pins s σ H x y v u Q I rx ry q
 ·exact h' pins s σ H x y v u Q I rx ry q
theorem dP(b:Expr)(h:op≠.In:=by decide)(h2:op≠.NotIn:=by decide):behindInMarks op b=false:=by
 have e1:(op == CmpOp.In)=false:=by cases op<;>first|rfl|exact absurd rfl h
 have e2:(op == CmpOp.NotIn)=false:=by cases op<;>first|rfl|exact absurd rfl h2
 cases b<;>simp[behindInMarks,e1,e2]
theorem ZN{op:CmpOp}{r:R2}(ho:cy X (compareOp op) r)(ha:PE X a ta)(hb:PE X b tb)(hm:behindInMarks op b=false):PE X (.Compare a [op] [b] pos) (DU r ta tb):=by intro pins s σ H Q I h;exact wpAny_Compare1 (Om ha hb I h fun v u s2 x y H2 I2 rx ry q=>ho pins s2 σ H2 x y v u Q I2 rx ry q) hm
def Ou(t:TE):TT:=fun σ H Q=>t σ H fun x H'=>∃ k,x=.bl k/\Q k H'
theorem ZO(ho:cy X (compareOp op) r)(ha:PE X a ta)(hb:PE X b tb)(hm:behindInMarks op b=false):PT X (.Compare a [op] [b] pos) (Ou (DU r ta tb)):=by
 intro pins s σ H Q I h;refine wpAny_isTrue_Compare1 (cf (ha pins s σ H _ I h) fun v s1 cq=>L2.fq cq fun x H1 I1 r1 q1=>cf (hb pins s1 σ H1 _ I1 q1) fun u s2 cq=>L2.fq cq fun y H2 I2 r2 q2 =>
  cf (ho pins s2 σ H2 x y v u _ I2 r1 r2 q2) fun c s3 ⟨z,H3,I3,r3,k,e,q3⟩=>?_) hm
 subst e;cases r3;exact wpAny_truthy_bool ⟨H3,I3,q3⟩
def Ov(r r':R2)(ta tb tc:TE):TE:=fun σ H Q=>ta σ H fun x H1=>tb σ H1 fun y H2=>r x y H2 fun z H3=>∃ k,z=.bl k /\ (if k=true then tc σ H3 fun w' H4=>r' y w' H4 Q else Q (.bl false) H3)
theorem ZP(ho:cy X (compareOp op) r)(ly:cy X (compareOp op') r')(ha:PE X a ta)(hb:PE X b tb)(hc:PE X c tc)(hm:lastMarks [op,op'] [b,c]=false:=by with_unfolding_all rfl):PE X (.Compare a [op,op'] [b,c] pos) (Ov r r' ta tb tc):=by
 intro pins s σ H Q I h;refine Compare_chain (cf (ha pins s σ H _ I h) fun v s1 cq=>L2.fq cq fun x H1 I1 r1 q1=>chain_link (cf (hb pins s1 σ H1 _ I1 q1) fun u s2 cq=>L2.fq cq fun y H2 I2 r2 q2 =>
  cf (ho pins s2 σ H2 x y v u _ I2 r1 r2 q2) fun d s3 ⟨z,H3,I3,r3,k,e,q3⟩=>?_)) hm
 subst e;cases r3;refine wpAny_truthy_bool ?_
 cases k with
 |false=>exact ite_ff ⟨.bl false,H3,I3,rfl,q3⟩
 |true=>exact ite_tt (chain_last (cf (hc pins s3 σ H3 _ I3 q3) fun w' s4 ⟨z',H4,I4,r4,q4⟩=>ly pins s4 σ H4 y z' u w' Q I4 r2 r4 q4))
theorem ZQ(ho:cy X (compareOp op) r)(ly:cy X (compareOp op') r')(ha:PE X a ta)(hb:PE X b tb)(hc:PE X c tc)(hm:lastMarks [op,op'] [b,c]=false:=by with_unfolding_all rfl):PT X (.Compare a [op,op'] [b,c] pos) (Ou (Ov r r' ta tb tc)):=by
 intro pins s σ H Q I h;refine isTrue_chain (cf (ha pins s σ H _ I h) fun v s1 cq=>L2.fq cq fun x H1 I1 r1 q1=>test_link (cf (hb pins s1 σ H1 _ I1 q1) fun u s2 cq=>L2.fq cq fun y H2 I2 r2 q2 =>
  cf (ho pins s2 σ H2 x y v u _ I2 r1 r2 q2) fun d s3 ⟨z,H3,I3,r3,k,e,q3⟩=>?_)) hm
 subst e;cases r3;refine wpAny_truthy_bool ?_
 cases k with
 |false =>obtain⟨k',e',q'⟩:=q3;cases e';exact ite_ff ⟨H3,I3,q'⟩
 |true =>refine ite_tt (test_last (cf (hc pins s3 σ H3 _ I3 q3) fun w' s4 ⟨z',H4,I4,r4,q4⟩=>cf (ly pins s4 σ H4 y z' u w' _ I4 r2 r4 q4) fun d' s5 dc=>?_));obtain⟨z2,H5,I5,r5,k2,e2,q5⟩:=dc;subst e2;cases r5;exact wpAny_truthy_bool ⟨H5,I5,q5⟩
theorem IB:(sizeLine:Nat)<2 ^ 63:=by rw[sizeLine_eq];decide
theorem ZR:cy X (binaryOp .Add) (fun x y H Q=>∃ i j,x=.str i/\y=.str j/\i.length+j.length<=sizeLine/\Q (.str (i++j)) H):=by intro pins s σ H x y v u Q I rx ry h;obtain⟨i,j,rfl,rfl,hz,q⟩:=h;obtain⟨t,rfl⟩:=rx;obtain⟨t',rfl⟩:=ry;exact add_str (fun t' tk=>⟨.str (i++j),H,I.tok _,⟨_,rfl⟩,q⟩) hz
theorem vals1(r:Vals [x] us):∃ u,us=[u]/\RelV x u:=by
 cases r with
 |cons r1 r2=>cases r2;exact⟨_,rfl,r1⟩
theorem vals2(r:Vals [x,y] us):∃ u w',us=[u,w']/\RelV x u/\RelV y w':=by
 cases r with
 |cons r1 r2 =>
  cases r2 with
  |cons r3 r4=>cases r4;exact⟨_,_,rfl,r1,r3⟩
theorem ZS (hc:X.calm=true):h8 X (.builtin "min") (fun xs H Q=>∃ i j,xs=[.int i,.int j]/\Q (.int (if j<i then j else i)) H):=by
 intro pins s σ H xs us Q I r h;obtain⟨i,j,rfl,q⟩:=h;obtain⟨u,w',rfl,⟨t,rfl⟩,⟨t',rfl⟩⟩:=vals2 r;refine min_two_ints (I.ok.hd hc) fun h' tk k=>⟨_,H,I.kept k,?_,q⟩
 by_cases hj:j<i
 ·rw[if_pos hj,if_pos hj];exact⟨_,rfl⟩
 ·rw[if_neg hj,if_neg hj];exact⟨_,rfl⟩
def ZT(K:PySem.W.Frag)(x:V)(H:Hp)(n:Nat):Prop :=
 match x with
 |.str y=>y.length<=sizeLine/\n=y.length
 |.pf y=>y.size<=sizeLine/\n=y.size
 |.ref p=>(∃ xs,dk K H p xs/\n=xs.length)\/∃ xs,gI K H p xs/\n=xs.length
 |_=>False
theorem Ow:h8 X (.builtin "len") (fun xs H Q=>∃ x n,xs=[x]/\ZT X.K x H n/\Q (.int n) H):=by
 intro pins s σ H xs us Q I r h;obtain⟨x,n,rfl,e,q⟩:=h;obtain⟨u,rfl,rx⟩:=vals1 r;have hl:=IB;have hs:sizeLine=16777216:=sizeLine_eq
 cases x with
 |str y =>obtain⟨t,rfl⟩:=rx;obtain⟨hy,e'⟩:y.length<=sizeLine/\n=y.length:=e;subst e';exact len_str (by lia) ⟨.int _,H,I.tok _,⟨_,rfl⟩,q⟩
 |pf y =>obtain⟨t,rfl⟩:=rx;obtain⟨hy,e'⟩:y.size<=sizeLine/\n=y.size:=e;subst e';exact PySem.W.len_bytes (by walk_at "s4") ⟨.int _,H,I.tok _,⟨_,rfl⟩,q⟩
 |ref p =>
  cases rx;have e':(∃ xs,dk X.K H p xs/\n=xs.length)\/∃ xs,gI X.K H p xs/\n=xs.length:=e;rcases e' with⟨xs,hx,e'⟩|⟨xs,hx,e'⟩
  ·subst e';obtain⟨its,r',pl,hz⟩:=I.list hx;have hlen:=r'.length;exact Calls.call_len_list pl.isList (by simp only[hR];lia) ⟨.int xs.length,H,I.tok _,⟨_,by simp only[hR];rw[hlen]⟩,q⟩
  ·subst e';obtain⟨its,r',pl,hz⟩:=I.tuple hx;have hlen:=r'.length;exact len_tuple pl (by simp only[hR];lia) ⟨.int xs.length,H,I.tok _,⟨_,by simp only[hR];rw[hlen]⟩,q⟩
 |_=>exact(show False from e).elim
end
structure Ox(h:Heap)(x dx C:Addr)(mA:Str->Option Value):Prop where
 obj:h.get? x=some (PySem.W.instObj C dx)
 ns:h.Ns1 dx mA
 ne:dx≠x
theorem lookIn_ns{h:Heap}{dx:Addr}{mA:Str->Option Value}(n:h.Ns1 dx mA):∃ od,h.get? dx=some od/\∀ name,PySem.W.lookIn name od=some (mA name):=by
 obtain⟨o,es,ep,ho,hd,hk,_,hm⟩:=n;refine⟨o,ho,fun name=>?_⟩;have e:=hm name;unfold nsFind findBy at e;rw[<- Array.find?_toList] at e;unfold PySem.W.lookIn;rw[hd];dsimp only;split
 ·rename_i y q;rw[q] at e;exact congrArg some e
 ·rename_i q;rw[q] at e;have a:es.toList.any (·.refKey)=false:=by rw[List.any_eq_false];intro y hy;obtain⟨z,t,ZU⟩:=hk y (Array.mem_toList_iff.mp hy);simp[DictEntry.refKey,ZU]
  have a':¬ es.toList.any (·.refKey)=true:=by rw[a];exact ko
  rw[if_neg a'];exact congrArg some e
theorem Ox.look(I:Ox h x dx C mA):∃ od,PySem.W.InstAt h x (PySem.W.instObj C dx) C (some od)/\∀ name,PySem.W.lookIn name od=some (mA name) :=
 let ⟨od,ho,hl⟩:=lookIn_ns I.ns
 ⟨od,⟨I.obj,rfl,rfl,ho⟩,hl⟩
theorem pj.some_of(r:pj (some v) o):∃ u,o=some u/\RelV v u:=by
 cases o with
 |none=>exact(show False from r).elim
 |some u=>exact⟨u,rfl,r⟩
section
variable {P:Program}{w:World}{H:Hp}{h:Heap}{a C dx:Addr}{fs:List (Str × V)}
theorem IC(aE:fR P w H h)(e:H a=some (.ins C dx fs)):∃ mA,Ox h a dx C mA/\(∀ f,pj (fs.lookup f) (mA f))/\PySem.Within mA (fs.map (·.1))/\fs.length<=1000/\H dx=some (.own a):=by
 obtain⟨d,z,ne,ob,mA,n,r,q⟩:=(show fw P w H h a (.ins C dx fs) from aE a _ e)
 exact⟨mA,⟨ob,n,ne⟩,r,q,z,d⟩
end
structure Oy(K:PySem.W.Frag)(C:Addr):Prop where
 pg:PySem.W.plainGet K C Str.empty=true
 hd:PySem.W.hasDictIn K C=true
 po:PySem.W.plainOver K C=true
 sa:PySem.W.findIn K (.ref C) "__setattr__" = some (some (.builtin "object.__setattr__"))
theorem Oy.get{K:PySem.W.Frag}(c:Oy K C)(f:Str):PySem.W.plainGet K C f=true:=c.pg
structure Con(K:PySem.W.Frag)(C:Addr)(f:Str)(v:V)(u:Value):Prop where
 at_:PySem.W.findIn K (.ref C) f=some (some u)
 rel:RelV v u
 get:PySem.W.specialIn K u "__get__" = some none
 cp:PySem.W.copiedNames.contains f=false
structure Meth(K:PySem.W.Frag)(C:Addr)(m:Str)(f:Addr):Prop where
 at_:PySem.W.findIn K (.ref C) m=some (some (.ref f))
 fn:PySem.W.isFn K (.ref f)=true
 kp:PySem.W.keepIn K (.ref f)=true
section
variable {X:Cx}{pins:List (Addr × Obj)}{σ:St}{H:Hp}{s:Shared}{A:Around}{E:Value->Shared->Prop}{Q:Value->Shared->Prop}{c:Value}{b:Bool}
inductive rg(K:PySem.W.Frag)(H:Hp):V->Value->Prop where
 |non:rg K H .non (.type "NoneType")
 |bl (x:Bool):rg K H (.bl x) (.type "bool")
 |int (i:Int):rg K H (.int i) (.type "int")
 |str (x:Str):rg K H (.str x) (.type "str")
 |vF (x:UInt64):rg K H (.vF x) (.type "float")
 |lst {a:Addr} {xs:List V} (e:H a=some (.lst xs)):rg K H (.ref a) (.type "list")
 |kG {a:Addr} {o:Obj} {xs:List V} (e:H a=some (.kG o (.lst xs))):rg K H (.ref a) (.type "list")
 |tup {a:Addr} {xs:List V} (e:H a=some (.tup xs)):rg K H (.ref a) (.type "tuple")
 |dK {a:Addr} {ah:List (Key × V)} (e:H a=some (.dK ah)):rg K H (.ref a) (.type "dict")
 |dT {a:Addr} {ah:List (List Key × V)} (e:H a=some (.dT ah)):rg K H (.ref a) (.type "dict")
 |ins {a C dx:Addr} {fs:List (Str × V)} (e:H a=some (.ins C dx fs)) (cl:Oy K C) (ha:PySem.W.findIn K (.ref C) "__class__" = some (some (.builtin "object.__class__")))
   (hn:PySem.W.specialIn K (.builtin "object.__class__") "__get__" = some (some (.builtin "getset_descriptor.__get__"))) (Uc:PySem.W.takesIn K (.builtin "object.__class__")=some true)
   (hm:PySem.W.mroIn K C (.type "object")=some true):rg K H (.ref a) (.ref C)
theorem DV(I:Inv X pins σ H s)(rx:RelV x u)(ty:rg X.K H x t)(e:PySem.W.kitOne X.K t c=some b)(h:∀ tk,Q (.bool b) { s with toks:=tk }) :
  wpAny (model X.prog X.w) A (call (.builtin "isinstance") [u,c]) Q E s:=by
 cases ty with
 |non=>cases (show u=Value.none from rx);exact PySem.W.kia_one PySem.W.kitx_none I.gS True.intro e (fun z=>nomatch z) h
 |bl y=>cases (show u=Value.bool y from rx);exact PySem.W.kia_one PySem.W.kitx_bool I.gS True.intro e (fun z=>nomatch z) h
 |int i=>obtain⟨t,q⟩:=(show ∃ t,u=Value.int i t from rx);cases q;exact PySem.W.kia_one PySem.W.kitx_int I.gS True.intro e (fun z=>nomatch z) h
 |str y=>obtain⟨t,q⟩:=(show ∃ t,u=Value.str y t from rx);cases q;exact PySem.W.kia_one PySem.W.kitx_str I.gS True.intro e (fun z=>nomatch z) h
 |vF y=>obtain⟨t,q⟩:=(show ∃ t,u=Value.float y t from rx);cases q;exact PySem.W.kia_one PySem.W.kitx_float I.gS True.intro e (fun z=>nomatch z) h
 |@lst a xs ea =>
  cases (show u=Value.ref a from rx);obtain⟨_,_,n,_,h1⟩:=(show fw X.prog X.w H s.heap a (.lst xs) from I.aE a _ ea)
  exact PySem.W.kia_one PySem.W.kitx_list I.gS ⟨_,h1,rfl⟩ e (fun z=>nomatch z) h
 |@kG a ob xs ea =>
  cases (show u=Value.ref a from rx);obtain⟨_,_,_,n,_,h1⟩:=(show fw X.prog X.w H s.heap a (.kG ob (.lst xs)) from I.aE a _ ea)
  exact PySem.W.kia_one PySem.W.kitx_list I.gS ⟨_,h1,rfl⟩ e (fun z=>nomatch z) h
 |@tup a xs ea =>
  cases (show u=Value.ref a from rx);obtain⟨_,_,_,p⟩:=(show fw X.prog X.w H s.heap a (.tup xs) from I.aE a _ ea)
  obtain⟨o,h1,h2,_⟩:=p;exact PySem.W.kia_one PySem.W.kitx_tuple I.gS ⟨o,h1,h2⟩ e (fun z=>nomatch z) h
 |@dK a ah ea =>
  cases (show u=Value.ref a from rx);obtain⟨_,_,vs,_,p⟩:=(show fw X.prog X.w H s.heap a (.dK ah) from I.aE a _ ea)
  obtain⟨o,es,ep,h1,h2,_⟩:=p;exact PySem.W.kia_one PySem.W.kitx_dict I.gS ⟨o,h1,h2.1⟩ e (fun z=>nomatch z) h
 |@dT a ah ea =>
  cases (show u=Value.ref a from rx);obtain⟨_,_,xs,_,o,es,ep,h1,h2,_⟩:=(show fw X.prog X.w H s.heap a (.dT ah) from I.aE a _ ea)
  exact PySem.W.kia_one PySem.W.kitx_dict I.gS ⟨o,h1,h2.1⟩ e (fun z=>nomatch z) h
 |@ins a C dx fs ea cl ha hn Uc hm =>cases (show u=Value.ref a from rx);obtain⟨mA,O,_⟩:=IC I.aE ea;obtain⟨od,J,_⟩:=O.look;exact PySem.W.kia_one (PySem.W.kitx_own (cl.get _) cl.hd ha hn Uc hm) I.gS J e (fun z=>nomatch z) h
end
structure fe(k:Nat)(A:Around):Prop where
 hd:A.handled=none
 dp:A.depth+3*k+5<recursionLimit
 un:A.units+16*k+200<cLine
theorem fe.mono(r:fe k A)(h:j<=k):fe j A:=⟨r.hd,by have:=r.dp;lia,by have:=r.un;lia⟩
theorem fe.deeper(r:fe (k+1) A)(env:Env):fe k (A.deeper env) :=
 ⟨r.hd,by have:=r.dp;show A.depth+1+3*k+5<_;lia,by have:=r.un;show A.units+3+16*k+200<_;lia⟩
theorem fe.in1(r:fe (k+1) A):fe k A.in1 :=
 ⟨r.hd,by have:=r.dp;show A.depth+3*k+5<_;lia,by have:=r.un;show A.units+1+16*k+200<_;lia⟩
theorem ZV {A:Around} {C:Addr} {us:List Value} {kw:List (Str × Value)}:(A.under (.builtin "type.__call__" ⟨.ref C :: us,kw⟩)).depth=A.depth+1:=by first|rfl|simp[Around.under,Code.weight,Code.isCreation,Code.isGuard,Code.isCaller,Code.frames,Code.isFrame,guardIds]
theorem ZW {A:Around} {C:Addr} {us:List Value} {kw:List (Str × Value)}:(A.under (.builtin "type.__call__" ⟨.ref C :: us,kw⟩)).units=A.units+1:=by first|rfl|simp[Around.under,Code.cUnits,Code.frames,Code.isFrame]
theorem fe.make (r:fe (k+1) A) (C:Addr) (us:List Value) (kw:List (Str × Value)):fe k (A.under (.builtin "type.__call__" ⟨.ref C :: us,kw⟩)) :=
 ⟨r.hd,by have:=r.dp;rw[ZV];lia,by have:=r.un;rw[ZW];lia⟩
theorem fe.depth(r:fe k A):A.depth<recursionLimit:=by have:=r.dp;lia
theorem fe.units(r:fe k A):A.units+64<cLine:=by have:=r.un;lia
def Ud:TA:=fun _ H Q=>Q [] H
def Ue(ta:TE)(tr:TA):TA:=fun σ H Q=>ta σ H fun x H1=>tr σ H1 fun xs H2=>Q (x :: xs) H2
section
variable {X:Cx}{e:Expr}{es:List Expr}{te:TE}{t:TA}{pos:Pos}
theorem lI:PA X [] Ud:=fun _ _ _ _ H Q I h=>Calls.spliced_nil ⟨[],H,I,.nil,h⟩
theorem iA(ha:PE X e te)(hr:PA X es t)(hs:starEach (e :: es) X.env=(false,eval e X.env) :: starEach es X.env:=by rfl):PA X (e :: es) (Ue te t):=by intro pos pins s σ H Q I h;rw[hs];show wpAny _ _ (spliced ((false,eval e X.env) :: backTo pos (starEach es X.env))) _ _ s;refine Calls.spliced_cons (cf (ha pins s σ H _ I h) fun u s1 cq=>L2.fq cq fun x H1 I1 r1 q1=>?_);exact cf (hr pos pins s1 σ H1 _ I1 q1) fun us s2 cq=>L2.fq cq fun xs H2 I2 r2 q2=>⟨x :: xs,H2,I2,.cons r1 r2,q2⟩
def ZX(t:TA):TE:=fun σ H Q=>t σ H fun xs H1=>xs.length<=sizeLine/\∀ p,H1 p=none->Q (.ref p) (upd H1 p (.tup xs))
def ZY(t:TA):TE:=fun σ H Q=>t σ H fun xs H1=>xs.length<=sizeLine/\∀ p,H1 p=none->Q (.ref p) (upd H1 p (.lst xs))
theorem IE{x1}(h:PA X es t):PE X (.Tuple es x1 pos) (ZX t):=by intro pins s σ H Q I hq;refine wpAny_Tuple_spliced (cf (h pos pins s σ H _ I hq) fun us s1 ⟨xs,H1,I1,r,z,q⟩=>⟨by rw[<- r.length];exact z,?_⟩);have hf:H1 s1.heap.objs.size=none:=I1.aE.fresh (cK _);refine⟨.ref s1.heap.objs.size,upd H1 s1.heap.objs.size (.tup xs),I1.laid (t':=s1.toks) (fun b u e=>jv _ e) (cK _) ?_,rfl,q _ hf⟩;exact⟨z,us,r,⟨_,pd _ rfl,rfl,_,rfl⟩⟩
theorem ZZ(h:PA X es t):PE X (.List es pos) (ZY t):=by intro pins s σ H Q I hq;refine wpAny_List_spliced (cf (h pos pins s σ H _ I hq) fun us s1 ⟨xs,H1,I1,r,z,q⟩=>⟨by rw[<- r.length];exact z,?_⟩);have hf:H1 s1.heap.objs.size=none:=I1.aE.fresh (cK _);refine⟨.ref s1.heap.objs.size,upd H1 s1.heap.objs.size (.lst xs),I1.laid (t':=s1.toks) (fun b u e=>jv _ e) (cK _) ?_,rfl,q _ hf⟩;exact⟨z,us,0,r,pd _ rfl⟩
end
abbrev Sp:=List V->Hp->VK->XK->Prop
abbrev wm:=List Env->Hp->Shared->XK->Value->Shared->Prop
structure tS(P:Program)(w:World)(K:PySem.W.Frag)(mg:Str->Option Value)(base:Heap)(A:Around)(outer:List Env)(s:Shared)(H:Hp):Prop where
 frames:A.frames=some outer
 mod:Mod K mg base
 bs:∀ b o,base.get? b=some o->s.heap.get? b=some o/\H b=none
 ny:base.objs.size<=s.heap.objs.size
 lj:s.heap.FunFrames base outer
 px:∀ b∈dE outer,H b=none
 aE:fR P w H s.heap
 bare:AllBare s.gens
def CE(outer:List Env)(P:Program)(w:World)(H:Hp)(s:Shared)(Q:VK)(u:Value)(s':Shared):Prop :=
 ∃ v H',s'.os=s.os/\AllBare s'.gens/\Un (dE outer) [] H H' s.heap s'.heap/\fR P w H' s'.heap/\RelV v u/\Q v H'
def CR(CX:wm)(outer:List Env)(P:Program)(w:World)(H:Hp)(s:Shared)(Q:VK)(E:XK)(r:Result)(s':Shared):Prop :=
 match r with
 |.ok (.ret u)=>CE outer P w H s Q u s'
 |.ok _=>False
 |.error e=>CX outer H s E e s'
structure dA(P:Program)(w:World)(K:PySem.W.Frag)(mg:Str->Option Value)(base:Heap)(CX:wm)(k:Nat)(f:Addr)(fd:FuncData)(ps:List Str)(sp:Sp):Prop where
 len:∀ vs H Q E,sp vs H Q E->vs.length=ps.length
 run:∀ (A:Around) (outer:List Env) (s:Shared) (H:Hp) (args:Args) (us:List Value) (vs:List V) (Q:VK) (E:XK),fe k A->tS P w K mg base A outer s H->BindsTo s fd args (ps.zip us)->Vals vs us->sp vs H Q E ->
  codeAny (model P w) A (.call (.ref f) args) (CR CX outer P w H s Q E) s
theorem dA.mono{P:Program}{K:PySem.W.Frag}{ps:List Str}(F:dA P w K mg base CX j f fd ps sp)(h:j<=k) :
  dA P w K mg base CX k f fd ps sp:=⟨F.len,fun A outer s H args us vs Q E hr=>F.run A outer s H args us vs Q E (hr.mono h)⟩
theorem dA.imp{P:Program}{K:PySem.W.Frag}{ps:List Str}(F:dA P w K mg base CX k f fd ps sp)(h:∀ vs H Q E,Z0 vs H Q E->sp vs H Q E):dA P w K mg base CX k f fd ps Z0 :=
 ⟨fun vs H Q E q=>F.len vs H Q E (h _ _ _ _ q),fun A outer s H args us vs Q E hr he hb hv hs=>F.run A outer s H args us vs Q E hr he hb hv (h _ _ _ _ hs)⟩
theorem tS.make{P:Program}{K:PySem.W.Frag}(e:tS P w K mg base A outer s H)(C:Addr)(us:List Value)(kw:List (Str × Value)) :
  tS P w K mg base (A.under (.builtin "type.__call__" ⟨.ref C :: us,kw⟩)) outer s H:=⟨by first|exact e.frames|(simpa[Around.under,Code.envs,Code.isFrame,pushEnvs] using e.frames),e.mod,e.bs,e.ny,e.lj,e.px,e.aE,e.bare⟩
theorem tS.in1{P:Program}{K:PySem.W.Frag}(e:tS P w K mg base A outer s H) :
  tS P w K mg base A.in1 outer s H:=⟨e.frames,e.mod,e.bs,e.ny,e.lj,e.px,e.aE,e.bare⟩
section
variable {X:Cx}{pins:List (Addr × Obj)}{σ:St}{H:Hp}{s s':Shared}
theorem Inv.Ug(I:Inv X pins σ H s):tS X.prog X.w X.K X.mg X.base X.A X.stack s H :=
 ⟨I.ok.frames,I.ok.mod,I.bs,fE I.ok.ny I.sz,I.stack,I.NX,I.aE,I.bare⟩
theorem Inv.after(I:Inv X pins σ H s)(h:CE X.stack X.prog X.w H s Q u s'):EP X pins σ Q u s':=by obtain⟨v,H',os,bare,un,aE,r,q⟩:=h;obtain⟨hh,g,d,t,Oz⟩:=s';obtain rfl:Oz=s.os:=os;exact⟨v,H',I.call (h':=hh) (g':=g) (d':=d) (t':=t) (ch:=[]) un aE bare (fun b z=>absurd z (by simp)),r,q⟩
end
def zI(sp:Sp)(yn:List V)(E:XK)(t:TA):TE:=fun σ H Q=>t σ H fun vs H1=>sp (vs++yn) H1 Q E
def Binds(K:PySem.W.Frag)(fd:FuncData)(ps:List Str)(ds:List Value):Prop :=
 ∀ (s:Shared) (us:List Value),K.In s.heap->(us++ds).length=ps.length->BindsTo s fd ⟨us,[]⟩ (ps.zip (us++ds))
theorem Binds.all{K:PySem.W.Frag}{ps:List Str}(h:∀ us:List Value,us.length=ps.length->bindArgs fd ⟨us,[]⟩=pure (ps.zip us)):Binds K fd ps []:=fun s us _ hl=>by rw[kX] at hl ⊢;exact .of_eq (h us hl)
def Passes(CX:wm)(X:Cx)(E:XK):Prop:=∀ (pins:List (Addr × Obj)) (σ:St) (H:Hp) (s:Shared) (e:Value) (s':Shared),Inv X pins σ H s->CX X.stack H s E e s'->X.xe e s'
section
variable {X:Cx}{CX:wm}{k:Nat}{f C:Addr}{fd:FuncData}{ps:List Str}{sp:Sp}{yn:List V}{ds:List Value}{E:XK}{x:Str}{p pos:Pos}{e:Expr}{es:List Expr}{t:TA}
theorem Z1(F:dA X.prog X.w X.K X.mg X.base CX k f fd ps sp)(hr:fe k X.A)(hb:Binds X.K fd ps ds)(hd:Vals yn ds)(hx:Passes CX X E)(I:Inv X pins σ H s) (r:Vals vs us) (h:sp (vs++yn) H Q E):wpAny (model X.prog X.w) X.A (call (.ref f) us) (EP X pins σ Q) X.xe s:=by
 have r2:Vals (vs++yn) (us++ds):=r.append hd;have hl:(us++ds).length=ps.length:=by rw[<- r2.length];exact F.len _ _ _ _ h
 refine wpAny_call (codeAny_mono (F.run X.A X.stack s H ⟨us,[]⟩ (us++ds) (vs++yn) Q E hr I.Ug (hb s us I.gS hl) r2 h) fun r s' hq=>?_)
 cases r with
 |error e=>exact hx pins σ H s e s' I hq
 |ok fl =>
  cases fl with
  |ret u=>exact I.after hq
  |next=>exact False.elim hq
  |brk=>exact False.elim hq
  |cont=>exact False.elim hq
theorem Uh(F:dA X.prog X.w X.K X.mg X.base CX k f fd ps sp)(hr:fe k X.A)(hg:Gl X x)(hm:X.mg x=some (.ref f))(hk:PySem.W.keepIn X.K (.ref f)=true)(hb:Binds X.K fd ps ds)(hd:Vals yn ds)(hx:Passes CX X E)(ha:PA X (e :: es) t) (fz:(x == ("__debug__" : Str))=false:=by decide) (he:starEach (e :: es) X.env=(false,eval e X.env) :: starEach es X.env:=by rfl) (gy:(backTo pos (starEach es X.env)).any (·.1)=false:=by rfl) :
  PE X (.Call (.Name x p) (e :: es) [] pos) (zI sp yn E t):=by
 intro pins s σ H Q I h;refine wpAny_Call_Name_kw (DS I hg hm ?_ fz);refine PySem.W.callWith_K (h₀:=X.base) I.ok.mod.DI hk (cf (ha pos pins s σ H _ I h) fun us s1 cq=>L2.fq cq fun vs H1 I1 r q=>⟨I1.gS,?_⟩) he gy;exact Z1 F hr hb hd hx I1 r q
structure Mk(K:PySem.W.Frag)(C f:Addr):Prop where
 makes:PySem.W.makesIn K C=true
 init:PySem.W.findIn K (.ref C) "__init__" = some (some (.ref f))
 fn:PySem.W.isFn K (.ref f)=true
 kp:PySem.W.keepIn K (.ref C)=true
end
section
variable {fd:FuncData}{ps ks:List Str}
structure fa'(K:PySem.W.Frag)(fd:FuncData)(ps ks:List Str)(g:List Value->List Value->List Value)(gV:List V->List V->List V):Prop where
 to:∀ (s:Shared) (us ws:List Value),K.In s.heap->(g us ws).length=ps.length->BindsTo s fd ⟨us,ks.zip ws⟩ (ps.zip (g us ws))
 rel:∀ {vs:List V} {us:List Value} {zs:List V} {ws:List Value},Vals vs us->Vals zs ws->Vals (gV vs zs) (g us ws)
end
structure ft(N P:List Str)(sc:Scope):Prop where
 kind:sc.kind=.function
 co:sc.isCoroutine=false
 gen:sc.isGenerator=false
 nd:N.Nodup
 pre:N.take P.length=P
 par:∀ x∈P,sc.names.lookup x=some .local\/sc.names.lookup x=some .cell
 Z2:∀ y∈sc.names,y.2≠.free
theorem Ui{kindOf:Str->Option NameKind}:∀ {binds:List (Str × Value)} {m:Str->Option Value},(∀ v,(x,v)∉binds)->bindL kindOf binds m x=m x
 |[],_,_=>rfl
 | (n,v) :: r,m,h=>by
  unfold bindL;rw[Ui fun w hw=>h w (dz _ hw)];split
  ·have:x≠n:=by rintro rfl;exact h v fo
   simp[this]
  ·rfl
theorem Uj{kindOf:Str->Option NameKind}:∀ {binds:List (Str × Value)} {m:Str->Option Value},(∀ v,(x,v)∉binds)->bindC kindOf binds m x=m x
 |[],_,_=>rfl
 | (n,v) :: r,m,h=>by
  unfold bindC;rw[Uj fun w hw=>h w (dz _ hw)];split
  ·rfl
  ·have:x≠n:=by rintro rfl;exact h v fo
   simp[this]
theorem Uk{kindOf:Str->Option NameKind}:∀ {P:List Str} {vs:List Value} {i:Nat} {m:Str->Option Value},P.Nodup->P[i]? = some x->vs[i]? = some v->kindOf x=some .local ->
  bindL kindOf (P.zip vs) m x=some v
 |[],_,_,_,_,h,_,_=>by simp at h
 |_ :: _,[],_,_,_,_,h,_=>by simp at h
 |p :: P,w :: vs,0,m,nd,h1,h2,hk=>by simp at h1 h2;subst h1;subst h2;show bindL kindOf ((p,w) :: P.zip vs) m p=_;unfold bindL;rw[Ui fun v hv=>(mx.mp nd).1 (List.of_mem_zip hv).1,if_pos hk];simp
 |p :: P,w :: vs,i+1,m,nd,h1,h2,hk=>by show bindL kindOf ((p,w) :: P.zip vs) m x=_;unfold bindL;exact Uk (i:=i) (mx.mp nd).2 (by simpa using h1) (by simpa using h2) hk
theorem Ul{kindOf:Str->Option NameKind}:∀ {P:List Str} {vs:List Value} {i:Nat} {m:Str->Option Value},P.Nodup->P[i]? = some x->vs[i]? = some v->kindOf x≠some .local ->
  bindC kindOf (P.zip vs) m x=some v
 |[],_,_,_,_,h,_,_=>by simp at h
 |_ :: _,[],_,_,_,_,h,_=>by simp at h
 |p :: P,w :: vs,0,m,nd,h1,h2,hk=>by simp at h1 h2;subst h1;subst h2;show bindC kindOf ((p,w) :: P.zip vs) m p=_;unfold bindC;rw[Uj fun v hv=>(mx.mp nd).1 (List.of_mem_zip hv).1,if_neg hk];simp
 |p :: P,w :: vs,i+1,m,nd,h1,h2,hk=>by show bindC kindOf ((p,w) :: P.zip vs) m x=_;unfold bindC;exact Ul (i:=i) (mx.mp nd).2 (by simpa using h1) (by simpa using h2) hk
def start(N:List Str)(vs:List V):St:=vs.map some++List.replicate (N.length-vs.length) none
def i9(CX:wm)(P:Program)(w:World)(K:PySem.W.Frag)(mg:Str->Option Value)(base:Heap)(N:List Str)(qual:Str)(scope:Scope)(f:Addr)(cd:Value)(A:Around)(outer:List Env)(s:Shared)(H:Hp)(E:XK):Cx where
 prog:=P
 w:=w
 K:=K
 mg:=mg
 base:=base
 A:=A.deeper (envOfC qual scope s.heap.objs.size f cd)
 N:=N
 df:=s
 nv:=H
 env:=envOfC qual scope s.heap.objs.size f cd
 outer:=outer
 stack:=envOfC qual scope s.heap.objs.size f cd :: outer
 ex:=[]
 calm:=true
 fn:=fun _=>true
 pn:=[]
 xe:=fun e s'=>wpAny (model P w) (A.deeper (envOfC qual scope s.heap.objs.size f cd)) (leaving (envOfC qual scope s.heap.objs.size f cd) e) (fun _ OB=>CX outer H s E e OB) (fun e' OB=>CX outer H s E e' OB) s'
theorem Um{sc:Scope}{n:Nat}{x:Str}(h:sc.names.lookup x=some .cell):∃ c,(cellsFrom n sc.names []).lookup x=some c:=by have q:=PySem.W.cellsFrom_some sc.names n [] (.inl h);exact Option.isSome_iff_exists.mp q
theorem Z3{CX:wm}{P:Program}{w:World}{K:PySem.W.Frag}{mg:Str->Option Value}{base:Heap}{N ps:List Str}{qual:Str}{scope:Scope}{f:Addr}{cd:Value}{A:Around}{outer:List Env}{s s1:Shared}{H:Hp}{E:XK}{us:List Value}{vs:List V}(S:ft N ps scope) (hd:A.handled=none) (e0:tS P w K mg base A outer s H) (hl:vs.length=ps.length) (r:Vals vs us)(x:InCallC s s.heap.objs.size (bindL (envOfC qual scope s.heap.objs.size f cd).kindOf (ps.zip us) fun _=>none) (cellsFrom (s.heap.objs.size+1) scope.names []) (bindC (envOfC qual scope s.heap.objs.size f cd).kindOf (ps.zip us) fun _=>none) s1) :
  Inv (i9 CX P w K mg base N qual scope f cd A outer s H E) [] (start N vs) H s1:=by
 have gy:ps.length<=N.length:=by have:=congrArg List.length S.pre;rw[n5] at this;lia
 obtain⟨h1,tk,rfl,hk⟩:=x.done;have DZ:∀ b:Addr,b∉(i9 CX P w K mg base N qual scope f cd A outer s H E).ex:=fun b z=>absurd (show b∈([]:List Addr) from z) (by simp);refine⟨⟨e0.mod,S.kind,rfl,rfl,cK _,fun y z c h1 h2=>?_,fun y hy=>?_,fun y c _ h=>?_,fun _=>hd,Around.frames_deeper e0.frames,.inr ⟨rfl,rfl⟩,fun b z=>absurd z (DZ b),e0.bs,e0.ny,fun b _ _=>DZ b,fun b z=>absurd z (DZ b),e0.lj,e0.px⟩,
  rfl,e0.bare,Un.kept hk,⟨_,x.toInCall.ns,fun i y v h1 h2 h3=>?_⟩,fun y c h=>⟨_,x.cell y c h⟩,e0.aE.fresh (cK _),fun y c h=>?_,fun p hp=>absurd (show p∈([]:List (Addr × Obj)) from hp) (by simp),e0.aE.kept hk,?_⟩
 ·exact name_of_addr x.apart (PySem.mem_of_lookup h1) (PySem.mem_of_lookup h2)
 ·have hy:scope.names.lookup y=some .cell\/scope.names.lookup y=some .free:=hy;rcases hy with hy|hy
  ·exact Um hy
  ·exact absurd rfl (S.Z2 _ (PySem.mem_of_lookup hy))
 ·exact A8 (x.above y c (PySem.mem_of_lookup h))
 ·have hi:i<vs.length:=by
   unfold start at h2;by_cases hi:i<vs.length
   ·exact hi
   ·rw[n4 (by simpa using hi)] at h2;rw[GB] at h2;split at h2<;>cases h2
  have ha:vs[i]? = some v:=by
   unfold start at h2;rw[x3 (by simpa using hi),vj] at h2
   cases e:vs[i]? with
   |none=>rw[e] at h2;cases h2
   |some a=>rw[e] at h2;cases h2;rfl
  obtain⟨u,hu,rv⟩:=r.get ha;have hp:ps[i]? = some y:=by rw[<- S.pre,List.getElem?_take_of_lt (by lia)];exact h1
  have Uo:ps.Nodup:=by rw[<- S.pre];exact S.nd.sublist (List.take_sublist _ _)
  refine⟨u,rv,?_⟩;rcases S.par y (CF hp) with k|k
  ·exact .inl ⟨k,Uk Uo hp hu k⟩
  ·obtain⟨c,e⟩:=Um (n:=s.heap.objs.size+1) k;refine .inr ⟨.inl k,c,e,?_⟩;have q:=x.cell y c e;rw[Ul Uo hp hu (by show scope.names.lookup y≠_;rw[k];decide)] at q;exact q
 ·exact e0.aE.fresh (A8 (x.above y c (PySem.mem_of_lookup h)))
 ·unfold start;show _=N.length;rw[kg,da,x4];lia
theorem Uq{P:Program}{K:PySem.W.Frag}{dV kV doc pm bT ct oc:Value}{N ps:List Str} (lk:K.lookup f=some ⟨oc,od,.func (PySem.W.fnOf name qual params body scope dV kV doc pm an bT ct),zS⟩) (jI:PySem.W.codeIn K bT qual=true) (S:ft N ps scope)(len:∀ vs H Q E,sp vs H Q E->vs.length=ps.length)(wo:∀ (A:Around) (outer:List Env) (s:Shared) (H:Hp) (vs:List V) (Q:VK) (E:XK),fe k (A.deeper (envOfC qual scope s.heap.objs.size f bT))->sp vs H Q E ->
   ∃ t,kK (i9 CX P w K mg base N qual scope f bT A outer s H E) body t/\t { nx:=fun _ H'=>Q .non H',rt:=Q } (start N vs) H) :
  dA P w K mg base CX (k+1) f (PySem.W.fnOf name qual params body scope dV kV doc pm an bT ct) ps sp:=by
 refine⟨len,fun A outer s H args us vs Q E hr e0 hb r tT=>?_⟩;have hl:=len _ _ _ _ tT;have KX:K.In s.heap:=e0.mod.DI.keeps fun b o e=>(e0.bs b o e).1;have lim:s.heap.NoLimit:=e0.mod.nolimit.keeps fun b o e=>(e0.bs b o e).1;have Z4:∀ y∈ps.zip us,scope.names.lookup y.1=some .local\/(scope.names.lookup y.1=some .cell/\((cellsFrom (s.heap.objs.size+1) scope.names []).lookup y.1).isSome=true):=fun⟨n,v⟩ hy=>by
  rcases S.par n (List.of_mem_zip hy).1 with q|q
  ·exact .inl q
  ·exact .inr ⟨q,PySem.W.cellsFrom_some _ _ _ (.inl q)⟩
 refine codeAny_call_function hr.depth (KX _ _ lk) rfl S.co S.gen rfl (PySem.W.codeRec_of KX jI) (hb _ _ _ _ ?_);refine wpAny_newFunctionEnv_cells S.kind Z4 fun env he s1 x=>?_;subst he;refine⟨lim.keeps x.toInCall.keep,codeAny_func ?_⟩;obtain⟨t,ht,hq⟩:=wo A outer s H vs Q E (hr.deeper _) tT;have I:Inv (i9 CX P w K mg base N qual scope f bT A outer s H E) [] (start N vs) H s1:=Z3 S hr.hd e0 hl r x;refine oa (ht [] s1 (start N vs) H _ I hq) (fun fl s' hs=>?_) fun e s' hs=>hs;have fin:∀ {bE:St} {H':Hp} {v:V} {u:Value},Inv (i9 CX P w K mg base N qual scope f bT A outer s H E) [] bE H' s'->RelV v u->Q v H'->CE outer P w H s Q u s' :=
  fun {bE H' v u} J rv q=>⟨v,H',J.os,J.bare,J.base,J.aE,rv,q⟩
 cases fl with
 |ret u =>obtain⟨v,bE,H',J,rv,q⟩:=hs;exact fin J rv q
 |next =>obtain⟨bE,H',J,q⟩:=hs;exact fin (v:=V.non) (u:=Value.none) J rfl q
 |brk =>obtain⟨_,_,_,q⟩:=hs;exact False.elim q
 |cont =>obtain⟨_,_,_,q⟩:=hs;exact False.elim q
section
variable {X:Cx}{x:Str}{p pos:Pos}{e:Expr}{es:List Expr}{t:TA}{id T:String}{r:List V->Hp->VK->Prop}
def OD(r:List V->Hp->VK->Prop)(t:TA):TE:=fun σ H Q=>t σ H fun vs H1=>r vs H1 Q
theorem D1 (hc:h8 X (.builtin id) r) (hg:Gl X x) (hm:X.mg x=none) (hv:bootBuiltins x=some (.builtin id)) (ha:PA X (e :: es) t) (hn:x ≠ "__name__" := by decide) (fz:(x == ("__debug__" : Str))=false:=by decide) (he:starEach (e :: es) X.env=(false,eval e X.env) :: starEach es X.env:=by rfl) (gy:(backTo pos (starEach es X.env)).any (·.1)=false:=by rfl):PE X (.Call (.Name x p) (e :: es) [] pos) (OD r t):=by
 intro pins s σ H Q I h;refine wpAny_Call_Name_kw (BD I hg hm hv ?_ hn fz);exact PyProof.Rows.callWith_builtin1 (cf (ha pos pins s σ H _ I h) fun us s1 cq=>L2.fq cq fun vs H1 I1 r1 q1=>hc pins s1 σ H1 vs us Q I1 r1 q1) he gy
theorem Ur (hc:h8 X (.type T) r) (hg:Gl X x) (hm:X.mg x=none) (hv:bootBuiltins x=some (.type T)) (ha:PA X (e :: es) t) (hn:x ≠ "__name__" := by decide) (fz:(x == ("__debug__" : Str))=false:=by decide) (he:starEach (e :: es) X.env=(false,eval e X.env) :: starEach es X.env:=by rfl) (gy:(backTo pos (starEach es X.env)).any (·.1)=false:=by rfl):PE X (.Call (.Name x p) (e :: es) [] pos) (OD r t):=by
 intro pins s σ H Q I h;refine wpAny_Call_Name_kw (BD I hg hm hv ?_ hn fz);exact PyProof.Rows.callWith_type1 (cf (ha pos pins s σ H _ I h) fun us s1 cq=>L2.fq cq fun vs H1 I1 r1 q1=>hc pins s1 σ H1 vs us Q I1 r1 q1) he gy
end
end L2
namespace HT
open PySem PyProof.Rows
section
open PySem.SeqAt
open PySem.AutoSeq1 (wpAny_loadPart')
open PySem.MeetsSeq PySem.MeetsSeq2 PySem.MeetsSeq3
end
section
variable {prog:Program}{w:World}{A:Around}{E:Value->Shared->Prop}{s:Shared}
theorem Z5(ht:IsTup s.heap t vs.toArray)(hb:IsTup s.heap b ws.toArray)(hv:vs≠[])(h1:ws=[]->Q (.ref t) s) (h2:ws≠[]->Q (.ref s.heap.objs.size) { s with heap:=s.heap.push { cls:=.type "tuple",data:=.seq (vs++ws).toArray } }) (yv:vs.length+ws.length<=sizeLine):wpAny (model prog w) A (binaryOp .Add (.ref t) (.ref b)) Q E s:=by
 obtain⟨⟨cls,dd,data,sl⟩,ho,hc,n,hd⟩:=id ht;obtain⟨⟨Z6,IG,data2,IH⟩,z3,D2,n2,hd2⟩:=id hb;simp only at hc hd D2 hd2;subst hc hd D2 hd2;have e:vs.toArray++ws.toArray=(vs++ws).toArray:=by simp
 by_cases hw:ws=[]
 ·exact concat_meets ⟨_,ho,rfl⟩ ⟨_,z3,rfl⟩ noFill_tuple_add seq_tuple_add PySem.F.slot_tuple_add PySem.F.entry_tuple_add (PySem.F.args_tuple_add_2 _ _) (tuple_addW1 t b vs.toArray ws.toArray n n2 dd IG sl IH (by simpa using hv) (by simp[hw])) ⟨ho,z3,h1 hw⟩
 ·refine concat_meets ⟨_,ho,rfl⟩ ⟨_,z3,rfl⟩ noFill_tuple_add seq_tuple_add PySem.F.slot_tuple_add PySem.F.entry_tuple_add (PySem.F.args_tuple_add_2 _ _) (tuple_addW2 t b vs.toArray ws.toArray n n2 dd IG sl IH (by simpa using hv) (by simpa using hw) (by rw[hR,hR];exact yv)) ⟨ho,z3,?_⟩
  rw[e];exact h2 hw
def bG(n d:Nat):Option Int->Nat
 |none=>d
 |some v=>if v<0 then (v+(n:Int)).toNat else min v.toNat n
theorem Z7(n d:Nat)(hd:d<=n)(o:Option Int):bG n d o<=n:=by
 cases o with
 |none=>exact hd
 |some v =>
  show(if v<0 then (v+(n:Int)).toNat else min v.toNat n)<=n;by_cases hv:v<0
  ·rw[if_pos hv];lia
  ·rw[if_neg hv];exact Nat.min_le_right _ _
theorem Us(v:Int)(n d:Nat):(if v<0 then max (v+(n:Int)) 0 else min v (n:Int))=((bG n d (some v):Nat):Int):=by
 show(if v<0 then max (v+(n:Int)) 0 else min v (n:Int))=(((if v<0 then (v+(n:Int)).toNat else min v.toNat n):Nat):Int)
 by_cases hv:v<0
 ·simp only[if_pos hv];lia
 ·simp only[if_neg hv];lia
theorem Z8(lo hi:Option Int)(n:Nat):Builtin.Slice.sliceAdjust lo hi 1 (n:Int)=(((bG n 0 lo:Nat):Int),((bG n n hi:Nat):Int)):=by
 have h1:¬ ((1:Int)<0):=by decide
 unfold Builtin.Slice.sliceAdjust;simp only[h1,if_false];refine Prod.ext ?_ ?_
 ·cases lo with
  |none=>rfl
  |some v=>exact Us v n 0
 ·cases hi with
  |none=>rfl
  |some v=>exact Us v n n
theorem Z9(i j:Nat):Builtin.Slice.slicePlaces (i:Int) (j:Int) 1=j-i:=by
 unfold Builtin.Slice.slicePlaces;have h1:(1:Int)>0:=by exact Int.le_refl _
 simp only[h1,if_true,Int.ediv_one];split<;>lia
theorem Ut(p:IsPart v o)(h:Q o s):wpAny (model prog w) A (Builtin.Slice.slicePartIndex v) Q E s:=by
 cases p with
 |none=>exact slicePart_none h
 |int i t=>exact slicePart_int h
theorem Z_{sl:Addr}{vl vu:Value}{lo hi:Option Int}{n:Nat}{Q:Int × Int × Nat->Shared->Prop}(hs:s.heap.IsSliceOf sl vl vu .none)(pl:IsPart vl lo)(pu:IsPart vu hi)(h:Q (((bG n 0 lo:Nat):Int),1,bG n n hi-bG n 0 lo) s):wpAny (model prog w) A (Builtin.Slice.sliceApplied (.ref sl) (pure (n:Int))) Q E s:=by
 obtain⟨os,D3,lP,II⟩:=id hs;unfold Builtin.Slice.sliceApplied Builtin.Slice.sliceFields;refine bS (bS (wpAny_field D3 II (x:=vl) rfl (bS (wpAny_field D3 II (x:=vu) rfl (bS (wpAny_field D3 II (x:=.none) rfl (dv ?_)))))));refine bS (slicePart_none ?_);show wpAny _ _ (if ((1:Int) == 0)=true then _ else _) _ _ s;rw[if_neg (by decide)];refine bS (Ut pl (bS (Ut pu (bS (dv ?_)))));show wpAny _ _ (match Builtin.Slice.sliceAdjust lo hi 1 (n:Int) with|(lo,hi)=>pure (lo,(1:Int),Builtin.Slice.slicePlaces lo hi 1)) _ _ s;rw[Z8 lo hi n];show wpAny _ _ (pure (((bG n 0 lo:Nat):Int),(1:Int),Builtin.Slice.slicePlaces ((bG n 0 lo:Nat):Int) ((bG n n hi:Nat):Int) 1)) _ _ s;rw[Z9];exact dv h
theorem aa'(xs:Array Value)(i k:Nat):((List.range k).filterMap fun(m:Nat)=>xs[((i:Int)+(m:Int)*1).toNat]?).toArray=((xs.toList.drop i).take k).toArray:=by
 have e:(fun(m:Nat)=>xs[((i:Int)+(m:Int)*1).toNat]?)=fun m=>xs[i+m]? := by
  funext m;have:((i:Int)+(m:Int)*1).toNat=i+m:=by exact(Nat.add_assoc ..).symm
  rw[this]
 rw[e];have:=pick_run xs i k;rw[List.filterMap_map] at this;have e2:((fun x=>xs[x]?) ∘ fun x=>i+x)=fun m=>xs[i+m]? := rfl;rw[e2] at this;rw[this]
theorem ab'{lo hi:Option Int}(ht:IsTup s.heap t items)(hs:s.heap.IsSliceOf sl vl vu .none)(pl:IsPart vl lo)(pu:IsPart vu hi)(hw:¬ (bG items.size 0 lo=0/\bG items.size items.size hi=items.size))(h:Q (.ref s.heap.objs.size) { s with heap:=s.heap.push { cls:=.type "tuple",data:=.seq ((items.toList.drop (bG items.size 0 lo)).take (bG items.size items.size hi-bG items.size 0 lo)).toArray } }) (yv:items.size<=sizeLine):wpAny (model prog w) A (getItem (.ref t) (.ref sl)) Q E s:=by
 have IJ:sizeOk (.seq ((items.toList.drop (bG items.size 0 lo)).take (bG items.size items.size hi-bG items.size 0 lo)).toArray):=by show((items.toList.drop (bG items.size 0 lo)).take (bG items.size items.size hi-bG items.size 0 lo)).toArray.size<=sizeLine;rw[hR,n5,qB,tv];lia
 have hj:bG items.size items.size hi<=items.size:=Z7 _ _ (cK _) hi;obtain⟨os,D3,lP,II⟩:=id hs;have hTs:s.TypeIs (.ref sl) "slice" := ⟨os,D3,lP⟩
 unfold getItem;try with_reducible refine wpAny_holding ?_
 first|refine bS (dv ?_)|skip
 refine bS (wpAny_sequenceKey ht.typeIs (by decide) ?_);refine bS (wpAny_callSpecial?_slot (name:=Str.ofString "__getitem__") ht.typeIs PyProof.Rows.slot_tuple_getitem (wpAny_call_entry PyProof.Rows.slot_tuple_getitem ht.typeIs entry_tuple_getitem ?_ (args_tuple_getitem _ _)))
 show wpAny _ _ (Builtin.Tuple.tupleItemsOf (.ref t) >>= _) _ _ s;refine bS (tupleItemsOf_ ht ?_);refine bS (wpAny_typeOf hTs ?_);rw[if_pos (by decide)];refine bS (Z_ hs pl pu ?_);have hno:¬ ((((bG items.size 0 lo:Nat):Int) == 0 && (1:Int) == 1 && (bG items.size items.size hi-bG items.size 0 lo) == items.size)=true):=by intro q;rw[i6,i6] at q;have q1:((bG items.size 0 lo:Nat):Int)=0:=eq_of_beq q.1.1;have q2:bG items.size items.size hi-bG items.size 0 lo=items.size:=eq_of_beq q.2;exact hw ⟨by lia,by lia⟩
 show wpAny _ _ (if (((bG items.size 0 lo:Nat):Int) == 0 && (1:Int) == 1 && (bG items.size items.size hi-bG items.size 0 lo) == items.size)=true then _ else _) _ _ s;rw[if_neg hno,aa'];first
  |exact bS (m:=Builtin.Tuple.tupleExact _) (wpAny_newObj_type (dv ⟨_,rfl,dv h⟩) IJ)
  |exact bS (m:=Builtin.Tuple.tupleExact _) (wpAny_newObj_type (bS (dv (dv ⟨_,rfl,dv h⟩))) IJ)
  |exact bS (bS (m:=Builtin.Tuple.tupleExact _) (wpAny_newObj_type (dv (dv ⟨_,rfl,dv h⟩)) IJ))
  |exact bS (bS (m:=Builtin.Tuple.tupleExact _) (wpAny_newObj_type (dv ⟨_,rfl,dv h⟩) IJ))
end
end HT
namespace L2
open PySem PySem.Spec PyProof.Rows
abbrev TO:=St->Hp->(Option Int->Hp->Prop)->Prop
def PO(X:Cx)(e:Option Expr)(t:TO):Prop :=
 ∀ (pins:List (Addr × Obj)) (s:Shared) (σ:St) (H:Hp) (Q:Option Int->Hp->Prop),Inv X pins σ H s->t σ H Q ->
  wpAny (model X.prog X.w) X.A (evalPart e X.env) (fun u s'=>∃ o H',Inv X pins σ H' s'/\IsPart u o/\Q o H') X.xe s
def ae':TO:=fun _ H Q=>Q none H
def af'(t:TE):TO:=fun σ H Q=>t σ H fun x H1=>∃ i,x=.int i/\Q (some i) H1
section
variable {X:Cx}{e:Expr}{te:TE}{lo hi:Option Expr}{tl th:TO}{pos p2:Pos}
theorem ag':PO X none ae':=by intro pins s σ H Q I h;rw[evalPart_none];exact dv ⟨none,H,I,.none,h⟩
theorem ah'(h:PE X e te):PO X (some e) (af' te):=by intro pins s σ H Q I hw;rw[evalPart_some];refine cf (h pins s σ H _ I hw) fun u s1 cq=>L2.fq cq fun x H1 I1 r1 q1=>?_;obtain⟨i,rfl,q⟩:=q1;obtain⟨t,rfl⟩:=r1;exact⟨some i,H1,I1,.int i t,q⟩
def ua(X:Cx)(r:V->Option Int->Option Int->Hp->VK->Prop):Prop :=
 ∀ (pins:List (Addr × Obj)) (s:Shared) (σ:St) (H:Hp) (x:V) (v vl vu:Value) (lo hi:Option Int) (sl:Addr) (Q:VK),Inv X pins σ H s->RelV x v->s.heap.IsSliceOf sl vl vu .none->IsPart vl lo->IsPart vu hi->r x lo hi H Q ->
  ∃ T id,typeLookup (.type T) "__getitem__" = pure (some (.builtin id))/\s.TypeIs v T/\wpAny (model X.prog X.w) X.A (getItem v (.ref sl)) (EP X pins σ Q) X.xe s
theorem ua.or(h:ua X r)(h':ua X r'):ua X (fun x lo hi H Q=>r x lo hi H Q\/r' x lo hi H Q):=by
 intro pins s σ H x v vl vu lo hi sl Q I rx hs pl pu q;rcases q with q|q
 ·exact h pins s σ H x v vl vu lo hi sl Q I rx hs pl pu q
 ·exact h' pins s σ H x v vl vu lo hi sl Q I rx hs pl pu q
def tSl(r:V->Option Int->Option Int->Hp->VK->Prop)(te:TE)(tl th:TO):TE:=fun σ H Q=>te σ H fun x H1=>tl σ H1 fun l H2=>th σ H2 fun u H3=>r x l u H3 Q
theorem aj'(hr:ua X r)(he:PE X e te)(hl:PO X lo tl)(hu:PO X hi th):PE X (.Subscript e (.Slice lo hi none p2) pos) (tSl r te tl th):=by intro pins s σ H Q I h;refine Subscript_ (cf (he pins s σ H _ I h) fun v s1 cq=>L2.fq cq fun x H1 I1 r1 q1=>?_);refine wpAny_Slice (cf (hl pins s1 σ H1 _ I1 q1) fun vl s2 cq=>L2.fq cq fun l H2 I2 pl q2=>cf (hu pins s2 σ H2 _ I2 q2) fun vu s3 cq=>L2.fq cq fun u H3 I3 pu q3=>?_);rw[evalPart_none];refine dv ?_;have I4:Inv X pins σ H3 { s3 with heap:=s3.heap.push { cls:=.type "slice",data:=.fields #[vl,vu,.none] } }:=I3.kept (t':=s3.toks) fun b ob q=>jv _ q;obtain⟨T,id,hT,ht,hg⟩:=hr pins { s3 with heap:=s3.heap.push { cls:=.type "slice",data:=.fields #[vl,vu,.none] } } σ H3 x v vl vu l u s3.heap.objs.size Q I4 r1 (Heap.IsSliceOf.new ..) pl pu q3;show wpAny (model X.prog X.w) X.A (subscriptTail e (.Slice lo hi none p2) v (.ref s3.heap.objs.size)) (EP X pins σ Q) X.xe { s3 with heap:=s3.heap.push { cls:=.type "slice",data:=.fields #[vl,vu,.none] } };exact tail_any (ops:=[.ref s3.heap.objs.size,v]) ht hT hg (by with_unfolding_all rfl)
def wq(xs:List V)(lo hi:Option Int):List V:=(xs.drop (HT.bG xs.length 0 lo)).take (HT.bG xs.length xs.length hi-HT.bG xs.length 0 lo)
theorem Uu(xs:List V)(lo hi:Option Int):(wq xs lo hi).length<=xs.length:=by unfold wq;rw[n5,qB];lia
def Uv(K:PySem.W.Frag):V->Option Int->Option Int->Hp->VK->Prop:=fun x lo hi H Q=>∃ a xs,x=.ref a/\gI K H a xs /\
 ¬ (HT.bG xs.length 0 lo=0/\HT.bG xs.length xs.length hi=xs.length)/\∀ p,H p=none->Q (.ref p) (upd H p (.tup (wq xs lo hi)))
theorem ak':ua X (Uv X.K):=by
 intro pins s σ H x v vl vu lo hi sl Q I rx hs pl pu h;obtain⟨a,xs,rfl,hx,hw,q⟩:=h;cases rx;obtain⟨its,r,ht,hz⟩:=I.tuple hx;have hlen:its.toArray.size=xs.length:=by rw[hR];exact r.length.symm
 refine⟨"tuple",_,PyProof.Rows.slot_tuple_getitem.lookup,ht.typeIs,?_⟩;refine HT.ab' ht hs pl pu (by rw[hlen];exact hw) ?_ (by rw[hlen];exact hz);rw[hlen];refine⟨.ref s.heap.objs.size,_,I.laid (t':=s.toks) (o:=.tup (wq xs lo hi)) (fun b ob q=>jv _ q) (cK _) ?_,rfl,q _ (I.aE.fresh (cK _))⟩;exact⟨fE (Uu xs lo hi) hz,_,(r.drop (HT.bG xs.length 0 lo)).take (HT.bG xs.length xs.length hi-HT.bG xs.length 0 lo),IsTup.new _ _⟩
def OG(K:PySem.W.Frag):R2:=fun x y H Q=>∃ a b xs ys,x=.ref a/\y=.ref b/\gI K H a xs/\gI K H b ys/\xs≠[]/\xs.length+ys.length<=sizeLine /\ (ys=[]->Q (.ref a) H)/\(ys≠[]->∀ p,H p=none->Q (.ref p) (upd H p (.tup (xs++ys))))
theorem Vals.OJ(r:Vals xs us):us=[]↔xs=[]:=by
 cases r with
 |nil=>simp
 |cons _ _=>simp
theorem al':cy X (binaryOp .Add) (OG X.K):=by intro pins s σ H x y v u Q I rx ry h;obtain⟨a,b,xs,ys,rfl,rfl,ha,hb,hx,hz,q1,q2⟩:=h;cases rx;cases ry;obtain⟨its,r1,p1,_⟩:=I.tuple ha;obtain⟨IL,r2,p2,_⟩:=I.tuple hb;refine HT.Z5 p1 p2 (fun z=>hx (r1.OJ.mp z)) (fun z=>⟨.ref a,H,I,rfl,q1 (r2.OJ.mp z)⟩) (fun z=>?_) (by rw[<- r1.length,<- r2.length];exact hz);refine⟨.ref s.heap.objs.size,_,I.laid (t':=s.toks) (o:=.tup (xs++ys)) (fun b ob q=>jv _ q) (cK _) ?_,rfl,q2 (fun w=>z (r2.OJ.mpr w)) _ (I.aE.fresh (cK _))⟩;exact⟨by rw[kg];exact hz,_,r1.append r2,IsTup.new _ _⟩
end
def sD(n:Nat)(i:Int):Option Nat:=if 0<=i then (if i<n then some i.toNat else none) else if -(n:Int)<=i then some (i+n).toNat else none
def eB{α:Type}(xs:List α)(i:Int):Option α:=(sD xs.length i).bind fun j=>xs[j]?
theorem am'(h:sD n i=some j):seqIndex? i n=some j/\j<n/\-(n:Int)<=i/\i<n:=by
 unfold sD at h;by_cases h0:0<=i
 ·rw[if_pos h0] at h;by_cases h1:i<n
  ·rw[if_pos h1] at h;have e:i.toNat=j:=Option.some.inj h;exact⟨by rw[seqIndex_of h0 h1,e],by lia,by lia,h1⟩
  ·rw[if_neg h1] at h;cases h
 ·rw[if_neg h0] at h;by_cases h1:-(n:Int)<=i
  ·rw[if_pos h1] at h;have e:(i+n).toNat=j:=Option.some.inj h;exact⟨by rw[seqIndex_neg (by lia) h1,e],by lia,h1,by lia⟩
  ·rw[if_neg h1] at h;cases h
theorem OL{α:Type}{xs:List α}{i:Int}{v:α}(h:eB xs i=some v):∃ j,seqIndex? i xs.length=some j/\xs[j]? = some v/\j<xs.length/\-(xs.length:Int)<=i/\i<xs.length:=by
 unfold eB at h
 cases e:sD xs.length i with
 |none=>rw[e] at h;cases h
 |some j =>rw[e] at h;obtain⟨h1,h2,h3,h4⟩:=am' e;exact⟨j,h1,h,h2,h3,h4⟩
theorem wt{α:Type}{xs:List α}{j:Nat}{v:α}(h:xs[j]? = some v):eB xs (j:Int)=some v:=by
 have hj:j<xs.length:=(kU.mp h).1;have e:sD xs.length (j:Int)=some j:=by unfold sD;rw[if_pos (by walk_at "s1"),if_pos (by lia)];simp
 unfold eB;rw[e];exact h
def IQ(b:Expr):Prop:=∀ o i,subscripted b false o i=operate [o,i] (getItem o i)
def pz(X:Cx)(r:R2):Prop :=
 ∀ (value slice:Expr) (pins:List (Addr × Obj)) (s:Shared) (σ:St) (H:Hp) (x y:V) (v u:Value) (Q:VK),Inv X pins σ H s->RelV x v->RelV y u->r x y H Q ->
  subscripted slice false v u=operate [v,u] (getItem v u)->wpAny (model X.prog X.w) X.A (subscriptTail value slice v u) (EP X pins σ Q) X.xe s
def z4(X:Cx)(id:String)(r:V->List V->Hp->VK->Prop):Prop :=
 ∀ (pins:List (Addr × Obj)) (s:Shared) (σ:St) (H:Hp) (x:V) (xs:List V) (v:Value) (us:List Value) (Q:VK),Inv X pins σ H s->RelV x v->Vals xs us->r x xs H Q ->
  wpAny (model X.prog X.w) X.A (call (.builtin id) (v :: us)) (EP X pins σ Q) X.xe s
section
variable {X:Cx}{a b:Expr}{ta tb:TE}{pos:Pos}
theorem pz.or(h:pz X r)(h':pz X r'):pz X (fun x y H Q=>r x y H Q\/r' x y H Q):=by
 intro value slice pins s σ H x y v u Q I rx ry q hs;rcases q with q|q
 ·exact h value slice pins s σ H x y v u Q I rx ry q hs
 ·exact h' value slice pins s σ H x y v u Q I rx ry q hs
theorem z4.or{id:String}(h:z4 X id r)(h':z4 X id r'):z4 X id (fun x xs H Q=>r x xs H Q\/r' x xs H Q):=by
 intro pins s σ H x xs v us Q I rx rs q;rcases q with q|q
 ·exact h pins s σ H x xs v us Q I rx rs q
 ·exact h' pins s σ H x xs v us Q I rx rs q
theorem OO{r:R2}(hr:pz X r)(ha:PE X a ta)(hb:PE X b tb)(hs:IQ b):PE X (.Subscript a b pos) (DU r ta tb):=by intro pins s σ H Q I h;exact Subscript_ (Om ha hb I h fun v u s2 x y H2 I2 rx ry q=>hr a b pins s2 σ H2 x y v u Q I2 rx ry q (hs _ _))
def Uw(K:PySem.W.Frag):R2:=fun x y H Q=>∃ p xs i v,x=.ref p/\y=.int i/\dk K H p xs/\eB xs i=some v/\Q v H
def Ux(K:PySem.W.Frag):R2:=fun x y H Q=>∃ p xs i v,x=.ref p/\y=.int i/\gI K H p xs/\eB xs i=some v/\Q v H
def Uy:R2:=fun x y H Q=>∃ z i c,x=.str z/\y=.int i/\z.length<=sizeLine/\eB z.cps.toList i=some c/\Q (.str ⟨#[c]⟩) H
theorem an':pz X (Uw X.K):=by
 intro value slice pins s σ H x y v u Q I rx ry h hs;obtain⟨p,xs,i,z,rfl,rfl,hq,he,q⟩:=h;cases rx;obtain⟨t,rfl⟩:=ry;obtain⟨its,r,pl,hz⟩:=I.list hq;obtain⟨j,h1,h2,h3,h4,h5⟩:=OL he;obtain⟨w,ew,mS⟩:=r.get h2;have hl:=r.length;have hn:=IB;have fin:EP X pins σ Q w s:=⟨z,H,I,mS,q⟩
 by_cases h0:0<=i
 ·have hj:i.toNat=j:=by rw[seqIndex_of h0 h5] at h1;exact Option.some.inj h1
  exact item_listR pl.isList h0 (by lia) (by rw[hj];simpa using ew) fin hs
 ·have hj:(i+(its.toArray.size:Int)).toNat=j:=by rw[seqIndex_neg (by exact Int.not_le.mp ‹_›) h4] at h1;rw[hR,<- hl];exact Option.some.inj h1
  exact subscriptTail_builtinR (x:=w) pl.isList.typeIs slot_list_getitem.lookup (wpAny_getItem_list_neg (Q:=fun r s'=>r=w/\EP X pins σ Q r s') pl.isList (by exact Int.not_le.mp ‹_›) (by rw[hR]<;>lia) (by lia) (by rw[hj];simpa using ew) ⟨rfl,fin⟩) hs
theorem ao':pz X (Ux X.K):=by
 intro value slice pins s σ H x y v u Q I rx ry h hs;obtain⟨p,xs,i,z,rfl,rfl,hq,he,q⟩:=h;cases rx;obtain⟨t,rfl⟩:=ry;obtain⟨its,r,pl,hz⟩:=I.tuple hq;obtain⟨j,h1,h2,h3,h4,h5⟩:=OL he;obtain⟨w,ew,mS⟩:=r.get h2;have hl:=r.length;have hn:=IB;have fin:EP X pins σ Q w s:=⟨z,H,I,mS,q⟩
 exact subscriptTail_builtinR (x:=w) pl.typeIs slot_tuple_getitem.lookup (getItem_tuple (j:=j) (Q:=fun r s'=>r=w/\EP X pins σ Q r s') pl (by lia) (by lia) (by rw[hR,<- hl];exact h1) (by simpa using ew) ⟨rfl,fin⟩) hs
theorem ap':pz X Uy:=by
 intro value slice pins s σ H x y v u Q I rx ry h hs;obtain⟨z,i,c,rfl,rfl,hz,he,q⟩:=h;obtain⟨t,rfl⟩:=rx;obtain⟨t',rfl⟩:=ry;obtain⟨j,h1,h2,h3,h4,h5⟩:=OL he;have hl:z.cps.toList.length=z.length:=by simp[Str.length]
 rw[hl] at h1 h4 h5;have hn:=IB;exact tail_any (typeIs_str s z t) slot_str_getitem.lookup (getItem_str (c:=c) (by
  have e1:decide (i < -(2 ^ 63:Int))=false:=decide_eq_false (by lia);have e2:decide (i >= 2 ^ 63)=false:=decide_eq_false (by lia);rw[e1,e2,Bool.or_false]) (by rw[h1];simpa using h2) ⟨.str ⟨#[c]⟩,H,I.tok _,⟨_,rfl⟩,q⟩) hs
def rIx(K:PySem.W.Frag):R2:=fun x y H Q=>Uw K x y H Q\/Ux K x y H Q\/Uy x y H Q
theorem ar':pz X (rIx X.K):=an'.or (ao'.or ap')
theorem Inv.lst(I:Inv X pins σ H s)(h:H p=some (.lst xs)) :
  ∃ (its:List Value) (n:Nat),Vals xs its/\s.heap.get? p=some { cls:=.type "list",data:=.seq its.toArray n }/\xs.length<=sizeLine:=by
 obtain⟨z,its,n,r,e⟩:=I.aE p _ h;exact⟨its,n,r,e,z⟩
theorem au'(lo hi:Option Int)(n:Nat):(sliceBounds lo hi none n).1=((HT.bG n 0 lo:Nat):Int)/\(sliceBounds lo hi none n).2.1=((HT.bG n n hi:Nat):Int)/\(sliceBounds lo hi none n).2.2=1:=by
 refine⟨?_,?_,rfl⟩
 ·cases lo with
  |none=>simp[sliceBounds,HT.bG]
  |some i =>
   simp only[sliceBounds,HT.bG,Option.getD_none,show(1:Int)>0 by decide,if_true];by_cases h:i<0
   ·simp only[h,if_true]<;>lia
   ·simp only[h,if_false]<;>lia
 ·cases hi with
  |none=>simp[sliceBounds,HT.bG]
  |some i =>
   simp only[sliceBounds,HT.bG,Option.getD_none,show(1:Int)>0 by decide,if_true];by_cases h:i<0
   ·simp only[h,if_true]<;>lia
   ·simp only[h,if_false]<;>lia
theorem av'(its:List Value)(lo hi:Option Int):slicePick its.toArray lo hi none=((its.drop (HT.bG its.length 0 lo)).take (HT.bG its.length its.length hi-HT.bG its.length 0 lo)).toArray:=by obtain⟨h1,h2,h3⟩:=au' lo hi its.toArray.size;unfold slicePick;rw[h1,h2,h3];simp only[sliceRange_one,pick_run,hR]<;>rfl
def aw'(K:PySem.W.Frag):V->Option Int->Option Int->Hp->VK->Prop:=fun x lo hi H Q=>∃ a xs,x=.ref a/\dk K H a xs/\∀ p,H p=none->Q (.ref p) (upd H p (.lst (wq xs lo hi)))
theorem ax':ua X (aw' X.K):=by intro pins s σ H x v vl vu lo hi sl Q I rx hs pl pu h;obtain⟨a,xs,rfl,hx,q⟩:=h;cases rx;obtain⟨its,r,ht,hz⟩:=I.list hx;have hlen:=r.length;refine⟨"list",_,slot_list_getitem.lookup,ht.isList.typeIs,?_⟩;refine wpAny_getItem_list_slice ht.isList hs pl pu .none (by simp) ?_ (by rw[hR]<;>lia);rw[av',<- hlen];refine⟨.ref s.heap.objs.size,_,I.laid (t':=s.toks) (o:=.lst (wq xs lo hi)) (fun b ob q=>jv _ q) (cK _) ?_,rfl,q _ (I.aE.fresh (cK _))⟩;exact⟨fE (Uu xs lo hi) hz,_,0,(r.drop (HT.bG xs.length 0 lo)).take (HT.bG xs.length xs.length hi-HT.bG xs.length 0 lo),pd _ rfl⟩
def sF:V->Bool
 |.non=>true
 |.bl _=>true
 |.int _=>true
 |.str _=>true
 |_=>false
def w8:V->V->Bool
 |.non,.non=>true
 |.bl a,.bl b=>a == b
 |.bl a,.int b=>(if a then 1 else 0) == b
 |.int a,.bl b=>a == (if b then 1 else 0)
 |.int a,.int b=>a == b
 |.str a,.str b=>a == b
 |_,_=>false
theorem ay'(ry:RelV y u)(rx:RelV x v)(fy:sF y=true)(fx:sF x=true):SeqAt.EqAt A s u v (w8 y x):=by
 cases y with
 |non =>
  cases ry
  cases x with
  |non=>cases rx;exact SeqAt.EqAt.same _
  |bl b=>cases rx;exact SeqAt.EqAt.none_bool b
  |int b=>obtain⟨t,rfl⟩:=rx;exact SeqAt.EqAt.none_int b t
  |str b=>obtain⟨t,rfl⟩:=rx;exact SeqAt.EqAt.none_str b t
  |_=>exact absurd (show false=true from fx) ko
 |bl a =>
  cases ry
  cases x with
  |non=>cases rx;exact SeqAt.EqAt.bool_none a
  |bl b=>cases rx;exact SeqAt.EqAt.bool_bool a b
  |int b=>obtain⟨t,rfl⟩:=rx;exact SeqAt.EqAt.bool_int a b t
  |str b=>obtain⟨t,rfl⟩:=rx;exact SeqAt.EqAt.bool_str a b t
  |_=>exact absurd (show false=true from fx) ko
 |int a =>
  obtain⟨t',rfl⟩:=ry
  cases x with
  |non=>cases rx;exact SeqAt.EqAt.int_none a t'
  |bl b=>cases rx;exact SeqAt.EqAt.int_bool a t' b
  |int b=>obtain⟨t,rfl⟩:=rx;exact SeqAt.EqAt.int_int a t' b t
  |str b=>obtain⟨t,rfl⟩:=rx;exact SeqAt.EqAt.int_str a t' b t
  |_=>exact absurd (show false=true from fx) ko
 |str a =>
  obtain⟨t',rfl⟩:=ry
  cases x with
  |non=>cases rx;exact SeqAt.EqAt.str_none a t'
  |bl b=>cases rx;exact SeqAt.EqAt.str_bool a t' b
  |int b=>obtain⟨t,rfl⟩:=rx;exact SeqAt.EqAt.str_int a t' b t
  |str b=>obtain⟨t,rfl⟩:=rx;exact SeqAt.EqAt.str_str a t' b t
  |_=>exact absurd (show false=true from fx) ko
 |_=>exact absurd (show false=true from fy) ko
def w9(x:V)(u:Value):Bool:=match u with
 |.none=>w8 .non x
 |.bool b=>w8 (.bl b) x
 |.int i _=>w8 (.int i) x
 |.str z _=>w8 (.str z) x
 |_=>false
theorem Uz(r:RelV y u)(f:sF y=true):w9 x u=w8 y x:=by
 cases y with
 |non=>cases r;rfl
 |bl b=>cases r;rfl
 |int i=>obtain⟨t,rfl⟩:=r;rfl
 |str z=>obtain⟨t,rfl⟩:=r;rfl
 |_=>exact absurd (show false=true from f) ko
theorem OQ:∀ {xs:List V} {us:List Value},Vals xs us->xs.all sF=true->us.any (w9 x)=xs.any fun y=>w8 y x
 |_,_,.nil,_=>rfl
 |y :: xs,u :: us,.cons r t,f=>by rw[vv,i6] at f;rw[vw,vw,Uz r f.1,OQ t f.2]
theorem OS(rx:RelV x v)(fx:sF x=true):∀ {xs:List V} {us:List Value},Vals xs us->xs.all sF=true->∀ u∈us,SeqAt.EqAt A s u v (w9 x u)
 |_,_,.nil,_=>fun u hu=>by cases hu
 |y :: xs,u :: us,.cons r t,f=>fun u' hu=>by
  rw[vv,i6] at f;rcases eK.mp hu with rfl|hu
  ·rw[Uz r f.1];exact ay' r rx f.1 fx
  ·exact OS rx fx t f.2 u' hu
def IU(x:V)(xs:List V):Bool:=xs.any fun y=>w8 y x
def IX(K:PySem.W.Frag)(neg:Bool):R2:=fun x y H Q=>∃ p xs,y=.ref p/\(dk K H p xs\/gI K H p xs)/\sF x=true/\xs.all sF=true/\Q (.bl (if neg then !IU x xs else IU x xs)) H
theorem az':cy X (compareOp .In) (IX X.K false):=by
 intro pins s σ H x y v u Q I rx ry h;obtain⟨p,xs,rfl,hq,fx,fs,q⟩:=h;cases ry;rcases hq with hq|hq
 ·obtain⟨its,r,pl,hz⟩:=I.list hq;refine SeqAt.in_listAt (w9 x) pl.isList (fun w hw=>OS rx fx r fs w (by simpa using hw)) ⟨.bl _,H,I,rfl,?_⟩;rw[show its.toArray.any (w9 x)=its.any (w9 x) by simp,OQ r fs];exact q
 ·obtain⟨its,r,pl,hz⟩:=I.tuple hq;refine SeqAt.in_tupleAt (w9 x) pl (fun w hw=>OS rx fx r fs w (by simpa using hw)) ⟨.bl _,H,I,rfl,?_⟩;rw[show its.toArray.any (w9 x)=its.any (w9 x) by simp,OQ r fs];exact q
theorem h8.or(h:h8 X f r)(h':h8 X f r'):h8 X f (fun xs H Q=>r xs H Q\/r' xs H Q):=by
 intro pins s σ H xs us Q I rs q;rcases q with q|q
 ·exact h pins s σ H xs us Q I rs q
 ·exact h' pins s σ H xs us Q I rs q
theorem aA':h8 X (.type "list") (fun xs H Q=>∃ p ys,xs=[.ref p]/\(dk X.K H p ys\/gI X.K H p ys)/\∀ l,H l=none->Q (.ref l) (upd H l (.lst ys))):=by
 intro pins s σ H xs us Q I r h;obtain⟨p,ys,rfl,hq,q⟩:=h;obtain⟨u,rfl,rx⟩:=vals1 r;cases rx;have fin:∀ (its:List Value),Vals ys its->ys.length<=sizeLine->∀ (h':Heap) (c':Nat),(∀ b o',s.heap.get? b=some o'->h'.get? b=some o') ->
   h'.get? s.heap.objs.size=some { cls:=.type "list",dict:=none,data:=.seq its.toArray c',slots:=#[] }->EP X pins σ Q (.ref s.heap.objs.size) { s with heap:=h' }:=fun its r' hz h' c' kp e =>
  ⟨.ref s.heap.objs.size,_,I.laid (t':=s.toks) kp (cK _) (show fw X.prog X.w _ h' _ (.lst ys) from⟨hz,its,c',r',e⟩),rfl,q _ (I.aE.fresh (cK _))⟩
 rcases hq with hq|hq
 ·obtain⟨its,r',pl,hz⟩:=I.list hq;have hlen:=r'.length;obtain⟨o,ho,hc,n,hd⟩:=pl.isList;exact call_list_seq p (.inl rfl) ho hc hd (fun h' c' kp e=>fin its r' hz h' c' kp e) (by simp only[hR]<;>lia)
 ·obtain⟨its,r',pl,hz⟩:=I.tuple hq;have hlen:=r'.length;obtain⟨o,ho,hc,n,hd⟩:=pl;exact call_list_seq p (.inr rfl) ho hc hd (fun h' c' kp e=>fin its r' hz h' c' kp e) (by simp only[hR]<;>lia)
theorem aB':h8 X (.type "tuple") (fun xs H Q=>∃ p ys,xs=[.ref p]/\((dk X.K H p ys/\∀ l,H l=none->Q (.ref l) (upd H l (.tup ys)))\/(gI X.K H p ys/\Q (.ref p) H))):=by
 intro pins s σ H xs us Q I r h;obtain⟨p,ys,rfl,h⟩:=h;obtain⟨u,rfl,rx⟩:=vals1 r;cases rx;rcases h with⟨hq,q⟩|⟨hq,q⟩
 ·obtain⟨its,r',pl,hz⟩:=I.list hq;have hlen:=r'.length;refine call_tuple_list pl.isList (fun h' kp=>?_) (by simp only[hR]<;>lia);have I1:Inv X pins σ H { s with heap:=h' }:=I.kept (t':=s.toks) kp;have I2:Inv X pins σ (upd H h'.objs.size (.tup ys)) { s with heap:=h'.push { cls:=.type "tuple",data:=.seq its.toArray } } :=
   I1.laid (t':=s.toks) (fun b o e=>jv _ e) (cK _) (show fw X.prog X.w _ _ _ (.tup ys) from⟨hz,its,r',IsTup.new _ _⟩)
  exact⟨.ref h'.objs.size,_,I2,rfl,q _ (I1.aE.fresh (cK _))⟩
 ·obtain⟨its,r',pl,hz⟩:=I.tuple hq;exact call_tuple_same pl ⟨.ref p,H,I,rfl,q⟩
def UA(K:PySem.W.Frag)(T:String)(x:V)(H:Hp):Prop:=match x with
 |.str _=>T = "str"
 |.int _=>T = "int"
 |.ref p=>(T = "list"/\∃ xs,dk K H p xs)\/(T = "tuple"/\∃ o,K.lookup p=some o/\o.cls=.type "tuple"/\o.dict=none) \/
   (T = "dict"/\((∃ ah,H p=some (.dK ah))\/∃ ah,H p=some (.dT ah)))\/(T = "set"/\∃ S n,H p=some (.set S n))
 |_=>False
theorem aC'{T:String}(I:Inv X pins σ H s)(r:RelV x v)(ty:UA X.K T x H) :
  s.TypeIs v T/\∀ a,v=.ref a->∃ ob,s.heap.get? a=some ob/\ob.dict=none:=by
 cases x with
 |str z =>obtain⟨t,rfl⟩:=r;cases (show T = "str" from ty);exact⟨typeIs_str s z t,fun _ e=>nomatch e⟩
 |int i =>obtain⟨t,rfl⟩:=r;cases (show T = "int" from ty);exact⟨typeIs_int s i t,fun _ e=>nomatch e⟩
 |ref p =>
  cases r;rcases ty with⟨rfl,xs,hq⟩|⟨rfl,o,hk,hc,hd⟩|⟨rfl,hk⟩|⟨rfl,S,n,hk⟩
  ·obtain⟨its,_,pl,_⟩:=I.list hq;refine⟨pl.isList.typeIs,fun a e=>?_⟩;cases e;obtain⟨o,n,e,c,hd,_⟩:=pl;exact⟨o,e,hd⟩
  ·refine⟨⟨o,I.gS p o hk,hc⟩,fun a e=>?_⟩;cases e;exact⟨o,I.gS _ o hk,hd⟩
  ·have z:∃ o,s.heap.get? p=some o/\o.ExactDict:=by
    rcases hk with⟨ah,hk⟩|⟨ah,hk⟩
    ·obtain⟨_,_,_,_,o,_,_,e,ex,_⟩:=I.aE p _ hk;exact⟨o,e,ex⟩
    ·obtain⟨_,_,_,_,o,_,_,e,ex,_⟩:=I.aE p _ hk;exact⟨o,e,ex⟩
   obtain⟨o,e,ex⟩:=z;refine⟨⟨o,e,ex.1⟩,fun a e2=>?_⟩;cases e2;exact⟨o,e,ex.2.1⟩
  ·obtain⟨o,_,_,_,e,ex,_⟩:=I.aE p _ hk;refine⟨⟨o,e,ex.1⟩,fun a e2=>?_⟩;cases e2;exact⟨o,e,ex.2.1⟩
 |_=>exact False.elim ty
def tBM(K:PySem.W.Frag)(T:String)(r:V->List V->Hp->VK->Prop)(to:TE)(t:TA):TE:=fun σ H Q=>to σ H fun x H1=>UA K T x H1/\t σ H1 fun xs H2=>r x xs H2 Q
variable {o e:Expr}{es:List Expr}{to:TE}{t:TA}{name:Str}{apos eh:Pos}{T id:String}{r:V->List V->Hp->VK->Prop}
theorem IY (pa:PlainAttrs T) (slot:Slot T name id) (BM:typeOf (.builtin id)=pure (.type "method_descriptor")) (hm:z4 X id r) (ho:PE X o to) (ha:PA X (e :: es) t)(w_:attributeBase o name X.env (eval o X.env)=eval o X.env:=by rfl) (xa:((backTo eh (starEach (e :: es) X.env)).all (fun x=>!x.1) && (backToKw eh (keywordEach [] X.env)).all (fun x=>x.1.isSome)
   && decide ((e :: es).length+([]:List Keyword).length+(if ([]:List Keyword).isEmpty then 0 else 1)<30))=true:=by rfl)
  (hline:(apos.endLine == eh.line)=true:=by rfl) (hs:starEach (e :: es) X.env=(false,eval e X.env) :: starEach es X.env:=by rfl) (xh:(backTo eh (starEach es X.env)).any (·.1)=false:=by rfl) :
  PE X (.Call (.Attribute o name apos) (e :: es) [] eh) (tBM X.K T r to t):=by
 intro pins s σ H Q I h;refine wpAny_Call_method_late w_ xa hline rfl (cf (ho pins s σ H _ I h) fun v s1 dc=>?_);obtain⟨x,H1,I1,r1,ty,q1⟩:=dc;obtain⟨h1,h2⟩:=aC' I1 r1 ty;refine⟨T,id,pa,slot,BM,h1,h2,?_⟩;have hA:=ha eh pins s1 σ H1 _ I1 q1;rw[hs] at hA ⊢;refine Calls.callWith_builtin (by show(false || (backTo eh (starEach es X.env)).any (·.1))=false;rw[xh]<;>rfl) (Calls.evalArgs_plain ?_);exact cf hA fun us s2 cq=>L2.fq cq fun vs H2 I2 r2 q2=>hm pins s2 σ H2 x vs v us Q I2 r1 r2 q2
end
def UB(X:Cx)(id:String)(r:V->List V->Hp->VK->Prop):Prop :=
 ∀ (pins:List (Addr × Obj)) (s:Shared) (σ:St) (H:Hp) (x:V) (xs:List V) (v:Value) (us:List Value) (Q:VK),Inv X pins σ H s->RelV x v->Vals xs us->r x xs H Q ->
  wpAny (model X.prog X.w) X.A (call (.builtin id) (v :: us)) (EP X pins σ Q) X.xe s
theorem Vals.one{x:V}{us:List Value}(h:Vals [x] us):∃ u,us=[u]/\RelV x u:=by cases h;rename_i r h;cases h;exact⟨_,rfl,‹_›⟩
theorem Vals.two{x y:V}{us:List Value}(h:Vals [x,y] us):∃ u v,us=[u,v]/\RelV x u/\RelV y v:=by cases h;rename_i r h;cases h;rename_i q h;cases h;exact⟨_,_,rfl,‹_›,‹_›⟩
theorem Vals.zero:∀ {us:List Value},Vals [] us->us=[]
 |_,.nil=>rfl
theorem Vals.dropLast(h:Vals xs us):Vals xs.dropLast us.dropLast:=by
 induction h with
 |nil=>exact .nil
 |cons r t ih =>
  cases t with
  |nil=>exact .nil
  |cons q t'=>exact .cons r ih
theorem Vals.eraseIdx:∀ {xs:List V} {us:List Value} (i:Nat),Vals xs us->Vals (xs.eraseIdx i) (us.eraseIdx i)
 |_,_,_,.nil=>.nil
 |_,_,0,.cons _ t=>t
 |_,_,i+1,.cons r t=>.cons r (Vals.eraseIdx i t)
theorem Vals.reverse(h:Vals xs us):Vals xs.reverse us.reverse:=by
 induction h with
 |nil=>exact .nil
 |cons r t ih=>rw[List.reverse_cons,List.reverse_cons];exact Vals.append ih (.cons r .nil)
theorem Vals.rep(h:Vals xs us):∀ k:Nat,Vals (List.replicate k xs).flatten (List.replicate k us).flatten
 |0=>.nil
 |k+1=>by rw[qA,qA,se,se];exact Vals.append h (Vals.rep h k)
section
variable {X:Cx}{pins:List (Addr × Obj)}{σ:St}{H:Hp}{s:Shared}{l:Addr}{xs ys:List V}
theorem Inv.UC{its its':List Value}{n:Nat}{f:Array Value->Array Value}{t':Nat}(I:Inv X pins σ H s)(hH:H l=some (.lst xs))(e:s.heap.get? l=some { cls:=.type "list",data:=.seq its.toArray n }) (hf:f its.toArray=its'.toArray) (hv:Vals ys its') (hz:ys.length<=sizeLine) :
  Inv X pins σ (upd H l (.lst ys)) { s with heap:=s.heap.update l (Obj.mapSeq f),toks:=t' }:=by
 have q:=PySem.IsL.update e f;rw[hf] at q;refine I.write (x:=l) (e:=l) (by rw[hH];exact trivial) (.inl rfl) (fun b' u hb hu=>(NH s.heap (Obj.mapSeq f) (Ne.symm hb)).trans hu) ⟨_,q⟩ ?_;exact⟨hz,its',_,hv,q⟩
theorem Inv.D4(I:Inv X pins σ H s)(hv:Vals ys its)(hz:ys.length<=sizeLine) :
  Inv X pins σ (upd H s.heap.objs.size (.lst ys)) { s with heap:=s.heap.push { cls:=.type "list",data:=.seq its.toArray },toks:=t' } :=
 I.laid (fun _ _ q=>jv _ q) (cK _) ⟨hz,its,0,hv,pd _ rfl⟩
theorem Inv.fresh(I:Inv X pins σ H s):H s.heap.objs.size=none:=I.aE.fresh (cK _)
theorem Inv.UD (I:Inv X pins σ H s) (hH:H l=some (.lst xs)):xs.length<=sizeLine/\∃ (its:List Value) (n:Nat),Vals xs its/\xs.length=its.length/\s.heap.get? l=some { cls:=.type "list",data:=.seq its.toArray n }:=by obtain⟨z,its,n,r,e⟩:=I.aE l _ hH;exact⟨z,its,n,r,r.length,e⟩
end
section
variable {X:Cx}
def aE':V->List V->Hp->VK->Prop:=fun x vs H Q=>∃ l xs y,x=.ref l/\vs=[y]/\H l=some (.lst xs)/\xs.length<sizeLine/\Q .non (upd H l (.lst (xs++[y])))
theorem OU:UB X "list.append" aE':=by intro pins s σ H x vs v us Q I rx rv h;obtain⟨l,xs,y,rfl,rfl,hH,hz,q⟩:=h;cases rx;obtain⟨u,rfl,ru⟩:=rv.one;obtain⟨z,its,n,r,hl,e⟩:=I.UD hH;refine call_meets F.slot_list_append ⟨_,e,rfl⟩ F.entry_list_append (F.args_list_append_2 _ _) (PySem.list_append l its.toArray n u (by rw[hR];lia)) ⟨e,?_⟩;refine⟨.non,_,I.UC (its':=its++[u]) hH e (by simp) (r.append (.cons ru .nil)) ?_,rfl,q⟩;rw[kg,zk];assumption
theorem len_rep{α:Type}(xs:List α)(k:Nat):(List.replicate k xs).flatten.length=k*xs.length:=by
 induction k with
 |zero=>simp
 |succ k ih=>rw[qA,se,kg,ih,Nat.succ_mul,Nat.add_comm]
end
section
set_option maxRecDepth 100000 in
end
section
variable {κ:Type}[DecidableEq κ]
def nc(ah:List (κ × V))(k:κ):Option V:=(ah.find? fun kv=>decide (kv.1=k)).map (·.2)
def putK(ah:List (κ × V))(k:κ)(v:V):List (κ × V) :=
 if (ah.any fun kv=>decide (kv.1=k))=true then ah.map (fun kv=>if kv.1=k then (kv.1,v) else kv) else ah++[(k,v)]
def UE(ah:List (κ × V))(k:κ):List (κ × V):=ah.filter fun kv=>decide (kv.1≠k)
theorem IZ{p:κ × V}{r:List (κ × V)}{k:κ}(e:p.1=k):nc (p :: r) k=some p.2:=by simp[nc,A7,e]
theorem I0{p:κ × V}{r:List (κ × V)}{k:κ}(e:¬ p.1=k):nc (p :: r) k=nc r k:=by simp[nc,A7,e]
theorem UG(k:κ):∀ ah:List (κ × V),(ah.any fun kv=>decide (kv.1=k))=(nc ah k).isSome
 |[]=>rfl
 |p :: r=>by
  rw[vw];by_cases e:p.1=k
  ·simp only[IZ e,decide_eq_true e,Bool.true_or,Option.isSome_some]
  ·rw[I0 e,decide_eq_false e,Bool.false_or];exact UG k r
theorem pj.OV(r:pj o u):o.isSome=u.isSome:=by
 cases o with
 |none=>cases u with
  |none=>rfl
  |some _=>exact(show False from r).elim
 |some _=>cases u with
  |none=>exact(show False from r).elim
  |some _=>rfl
theorem pj.getD(r:pj o u)(rd:RelV d d'):RelV (o.getD d) (u.getD d'):=by
 cases o with
 |none=>cases u with
  |none=>exact rd
  |some _=>exact(show False from r).elim
 |some _=>cases u with
  |none=>exact(show False from r).elim
  |some _=>exact r
theorem KV.val{ah:List (κ × V)}{vs:List (κ × Value)}(r:KV ah vs)(k:κ):pj (nc ah k) (valueAt vs k):=by
 unfold KV at r
 induction r with
 |nil=>exact True.intro
 |@cons p q ps qs h t ih =>
  obtain⟨h1,h2⟩:=h;by_cases e:p.1=k
  ·have e':q.1=k:=h1.symm.trans e;have b:valueAt (q :: qs) k=some q.2:=by simp[valueAt,A7,e']
   rw[IZ e,b];exact h2
  ·have e':¬ q.1=k:=fun z=>e (h1.trans z);have b:valueAt (q :: qs) k=valueAt qs k:=by simp[valueAt,A7,e']
   rw[I0 e,b];exact ih
theorem KV.any(r:KV ah vs)(k:κ):(ah.any fun kv=>decide (kv.1=k))=vs.any fun kv=>decide (kv.1=k):=by
 unfold KV at r
 induction r with
 |nil=>rfl
 |cons h t ih=>rw[vw,vw,ih,h.1]
theorem KV.repl(r:KV ah vs)(k:κ)(ry:RelV y u) :
  KV (ah.map fun kv=>if kv.1=k then (kv.1,y) else kv) (vs.map fun kv=>if kv.1=k then (kv.1,u) else kv):=by
 unfold KV at r ⊢
 induction r with
 |nil=>exact .nil
 |@cons p q ps qs h t ih =>
  rw[hV,hV];refine .cons ?_ ih;obtain⟨h1,h2⟩:=h;by_cases e:p.1=k
  ·rw[if_pos e,if_pos (h1.symm.trans e)];exact⟨h1,ry⟩
  ·rw[if_neg e,if_neg (fun z=>e (h1.trans z))];exact⟨h1,h2⟩
theorem KV.put(r:KV ah vs)(k:κ)(ry:RelV y u):KV (putK ah k y) (stored vs k u):=by
 unfold putK stored;rw[r.any k];by_cases e:(vs.any fun kv=>decide (kv.1=k))=true
 ·rw[if_pos e,if_pos e];exact r.repl k ry
 ·rw[if_neg e,if_neg e];exact Paired.snoc r ⟨rfl,ry⟩
theorem KV.drop(r:KV ah vs)(k:κ):KV (UE ah k) (without vs k):=by
 unfold KV at r ⊢;unfold UE without
 induction r with
 |nil=>exact .nil
 |@cons p q ps qs h t ih =>
  obtain⟨h1,h2⟩:=h;rw[List.filter_cons,List.filter_cons];by_cases e:p.1=k
  ·have a:¬ decide (p.1≠k)=true:=by simp[e]
   have b:¬ decide (q.1≠k)=true:=by simp[h1.symm.trans e]
   rw[if_neg a,if_neg b];exact ih
  ·have e':¬ q.1=k:=fun z=>e (h1.trans z);have a:decide (p.1≠k)=true:=by simp[e]
   have b:decide (q.1≠k)=true:=by simp[e']
   rw[if_pos a,if_pos b];exact .cons ⟨h1,h2⟩ ih
theorem KV.keys{ah:List (κ × V)}{vs:List (κ × Value)}(r:KV ah vs):ah.map (·.1)=vs.map (·.1):=by
 unfold KV at r
 induction r with
 |nil=>rfl
 |cons h t ih=>rw[hV,hV,ih,h.1]
theorem KV.length(r:KV ah vs):ah.length=vs.length:=Paired.length r
end
theorem OW{P:Program}(r:RelV (kV k) u):(qE P w).is k u=true:=by
 cases k with
 |inl i=>obtain⟨t,e⟩:=(show ∃ t,u=Value.int i t from r);subst e;exact Yo P w i t
 |inr x=>obtain⟨t,e⟩:=(show ∃ t,u=Value.str x t from r);subst e;exact Yp P w x t
theorem UH{P:Program}:∀ {ks:List Key} {us:List Value},Vals (ks.map kV) us->ItemsAre (qE P w) ks us
 |[],_,r=>by rw[List.map_nil] at r;cases r;exact .nil
 |k :: ks,_,r=>by
  rw[hV] at r
  cases r with
  |cons h t=>exact .cons (OW h) (UH t)
abbrev KT(H:Hp):List (List Key × V)->List (List Key × Addr × Value)->Prop:=Paired fun p q=>p.1=q.1/\H q.2.1=some (.tup (p.1.map kV))/\RelV p.2 q.2.2
theorem KT.val{H:Hp}{ah:List (List Key × V)}{xs:List (List Key × Addr × Value)}(r:KT H ah xs)(k:List Key):pj (nc ah k) ((atKey xs k).map (·.2)):=by
 induction r with
 |nil=>exact True.intro
 |@cons p q ps qs h t ih =>
  obtain⟨h1,_,h2⟩:=h;by_cases e:p.1=k
  ·have e':q.1=k:=h1.symm.trans e;have b:atKey (q :: qs) k=some q.2:=by simp[atKey,A7,e']
   rw[IZ e,b];exact h2
  ·have e':¬ q.1=k:=fun z=>e (h1.trans z);have b:atKey (q :: qs) k=atKey qs k:=by simp[atKey,A7,e']
   rw[I0 e,b];exact ih
theorem KT.repl(r:KT H ah xs)(k:List Key)(ry:RelV y u) :
  KT H (ah.map fun kv=>if kv.1=k then (kv.1,y) else kv) (xs.map (putAt k u)):=by
 induction r with
 |nil=>exact .nil
 |@cons p q ps qs h t ih =>
  rw[hV,hV];refine .cons ?_ ih;obtain⟨h1,h2,h3⟩:=h;unfold putAt;by_cases e:p.1=k
  ·rw[if_pos e,if_pos (h1.symm.trans e)];exact⟨h1,h2,ry⟩
  ·rw[if_neg e,if_neg (fun z=>e (h1.trans z))];exact⟨h1,h2,h3⟩
theorem KT.put(r:KT H ah xs)(k:List Key)(hb:H b=some (.tup (k.map kV)))(ry:RelV y u) :
  KT H (putK ah k y) (storedH xs k b u):=by
 have e:(ah.any fun kv=>decide (kv.1=k))=(atKey xs k).isSome:=by rw[UG,(r.val k).OV,Option.isSome_map]
 unfold putK storedH;rw[e];by_cases q:(atKey xs k).isSome=true
 ·rw[if_pos q,if_pos q];exact r.repl k ry
 ·rw[if_neg q,if_neg q];exact Paired.snoc r ⟨rfl,hb,ry⟩
theorem KT.keeps(r:KT H ah xs)(ht:∀ b ys,H b=some (.tup ys)->H' b=some (.tup ys)):KT H' ah xs :=
 Paired.NV r fun _ _ z=>⟨z.1,ht _ _ z.2.1,z.2.2⟩
section
variable {P:Program}{w:World}{H:Hp}{h:Heap}{a:Addr}
theorem UI(ok:fR P w H h)(e:Rd H a u):fw P w H h a u:=e.ok ok
theorem Jn(ok:fR P w H h)(e:Rd H a (.dK ah)):ah.length<=sizeLine/\(a == sysModules)=false/\∃ vs,KV ah vs/\h.DictOf (qE P w) a vs :=
 show fw P w H h a (.dK ah) from UI ok e
theorem OX(ok:fR P w H h)(e:H a=some (.tup (ks.map kV))):(tupleKind (qE P w)).is h ks a:=by
 obtain⟨_,its,r,o,h1,h2,n,h3⟩:=(show fw P w H h a (.tup (ks.map kV)) from ok a _ e)
 exact⟨o,its.toArray,n,h1,h2,h3,by simpa using UH r⟩
theorem OY(ok:fR P w H h)(e:Rd H a (.dT ah)):ah.length<=sizeLine/\(a == sysModules)=false /\
  ∃ xs,KT H ah xs/\h.DictOfH (tupleKind (qE P w)) a xs:=by
 obtain⟨z,y,xs,r,o,es,ep,h1,h2,h3,h4,h5⟩:=(show fw P w H h a (.dT ah) from UI ok e)
 refine⟨z,y,xs,r,o,es,ep,h1,h2,h3,h4,fun x hx=>?_,h5⟩;have all:∀ {l:List (List Key × V)} {m:List (List Key × Addr × Value)},KT H l m->∀ x∈m,(tupleKind (qE P w)).is h x.1 x.2.1:=by
  intro l m q
  induction q with
  |nil=>intro x hx;exact nomatch hx
  |@cons p q ps qs hq t ih =>
   intro x hx;rcases eK.mp hx with e|hx
   ·subst e;exact OX ok (by rw[<- hq.1];exact hq.2.1)
   ·exact ih x hx
 exact all r x hx
end
def ng(H:Hp)(a:Addr)(y:V)(r:Option V):Prop :=
 (∃ ah k,Rd H a (.dK ah)/\y=kV k/\r=nc ah k)\/∃ ah k b,Rd H a (.dT ah)/\y=.ref b/\H b=some (.tup (k.map kV))/\r=nc ah k
def JA(H:Hp)(a:Addr)(y v:V)(H':Hp):Prop :=
 (∃ ah k,H a=some (.dK ah)/\y=kV k/\ah.length<sizeLine/\H'=upd H a (.dK (putK ah k v))) \/
 ∃ ah k b,H a=some (.dT ah)/\y=.ref b/\H b=some (.tup (k.map kV))/\ah.length<sizeLine/\H'=upd H a (.dT (putK ah k v))
theorem ng.k{H:Hp}{a:Addr}{ah:List (Key × V)}{k:Key}(e:H a=some (.dK ah)):ng H a (kV k) (nc ah k):=.inl ⟨ah,k,.inl e,rfl,rfl⟩
theorem ng.t{H:Hp}{a b:Addr}{ah:List (List Key × V)}{k:List Key}(e:H a=some (.dT ah))(eb:H b=some (.tup (k.map kV))):ng H a (.ref b) (nc ah k):=.inr ⟨ah,k,b,.inl e,rfl,eb,rfl⟩
theorem JA.k{H:Hp}{a:Addr}{ah:List (Key × V)}{k:Key}{v:V}(e:H a=some (.dK ah))(hl:ah.length<sizeLine):JA H a (kV k) v (upd H a (.dK (putK ah k v))):=.inl ⟨ah,k,e,rfl,hl,rfl⟩
theorem JA.t{H:Hp}{a b:Addr}{ah:List (List Key × V)}{k:List Key}{v:V}(e:H a=some (.dT ah))(eb:H b=some (.tup (k.map kV)))(hl:ah.length<sizeLine) :
  JA H a (.ref b) v (upd H a (.dT (putK ah k v))):=.inr ⟨ah,k,b,e,rfl,eb,hl,rfl⟩
section
variable {X:Cx}{pins:List (Addr × Obj)}{σ:St}{H:Hp}{s:Shared}{a:Addr}{y v:V}{u:Value}{o:Option V}{A:Around}{E:Value->Shared->Prop}
theorem Inv.big(I:Inv X pins σ H s):sysModules<s.heap.objs.size:=by have h:mainGlobals<s.heap.objs.size:=(I.mod.glob.keeps I.bk).lt;exact NF (by decide) h
theorem aF'(hu:A.units+1<cLine)(I:Inv X pins σ H s)(g:ng H a y (some v))(ry:RelV y u)(h:∀ w' s',Inv X pins σ H s'->RelV v w'->Q w' s') :
  wpAny (model X.prog X.w) A (getItem (.ref a) u) Q E s:=by
 rcases g with⟨ah,k,e,ey,l⟩|⟨ah,k,b,e,ey,eb,l⟩
 ·subst ey;obtain⟨z,hd,vs,rel,dd⟩:=Jn I.aE e;obtain⟨w',hw,mS⟩:=pj.some_of (v:=v) (o:=valueAt vs k) (by rw[l];exact rel.val k);exact wpAny_getItem_of (OW ry) dd.mapOf hw (h w' _ (I.tok _) mS)
 ·subst ey;cases (show u=Value.ref b from ry);obtain⟨z,hd,xs,rel,dd⟩:=OY I.aE e;obtain⟨w',hw,mS⟩:=pj.some_of (v:=v) (o:=(atKey xs k).map (·.2)) (by rw[l];exact rel.val k);obtain⟨p,hp,hp2⟩:=NS.mp hw;refine wpAny_getItem_heap (tupleKind_room_in1 hu) (OX I.aE eb) dd hp ?_;rw[hp2];exact h w' _ (I.tok _) mS
theorem aH'(hu:A.units+1<cLine)(I:Inv X pins σ H s)(g:ng H a y o)(ry:RelV y u)(h:∀ s',Inv X pins σ H s'->Q (.bool o.isSome) s') :
  wpAny (model X.prog X.w) A (compareOp .In u (.ref a)) Q E s:=by
 rcases g with⟨ah,k,e,ey,l⟩|⟨ah,k,b,e,ey,eb,l⟩
 ·subst ey;obtain⟨z,hd,vs,rel,dd⟩:=Jn I.aE e;refine wpAny_in_of (OW ry) hd dd.mapOf ?_;rw[<- (rel.val k).OV,<- l];exact h _ (I.tok _)
 ·subst ey;cases (show u=Value.ref b from ry);obtain⟨z,hd,xs,rel,dd⟩:=OY I.aE e;refine wpAny_in_heap (tupleKind_room_in1 hu) (OX I.aE eb) hd dd ?_;have q:=(rel.val k).OV;rw[Option.isSome_map] at q;rw[<- q,<- l];exact h _ (I.tok _)
end
section
variable {X:Cx}{pins:List (Addr × Obj)}{σ:St}{H:Hp}{s:Shared}{a:Addr}{ah:List (Key × V)}{A:Around}{E:Value->Shared->Prop}
theorem aI' (I:Inv X pins σ H s) (e:Rd H a (.dK ah)) (h:∀ t s',Inv X pins σ H s'->Q (.int ah.length t) s'):wpAny (model X.prog X.w) A (call (.builtin "len") [.ref a]) Q E s:=by obtain⟨z,hd,vs,rel,dd⟩:=Jn I.aE e;refine call_len_dict hd dd (by rw[<- rel.length];rw[sizeLine_eq] at z;lia) ?_;rw[<- rel.length];exact h _ _ (I.tok _)
end
theorem aJ' {X:Cx} (I:Inv X pins σ H s) (g:ng H a y o):s.TypeIs (.ref a) "dict" := by
 rcases g with⟨ah,k,e,_,_⟩|⟨ah,k,b,e,_,_,_⟩
 ·obtain⟨_,_,vs,_,dd⟩:=Jn I.aE e;exact dd.typeIs
 ·obtain⟨_,_,xs,_,dd⟩:=OY I.aE e;exact dd.typeIs
theorem aK' {P:Program} (h:Heap) (hb:sysModules<h.objs.size):fw P w H (h.push { cls:=.type "dict",data:=.dict #[] }) h.objs.size (.dK []) :=
 ⟨i5 _,beq_eq_false_iff_ne.mpr (Ne.symm (i3 hb)),[],.nil,Heap.DictOf.new h⟩
def aL':TE:=fun _ H Q=>∀ p,H p=none->Q (.ref p) (upd H p (.dK []))
section
variable {X:Cx}{pos:Pos}
theorem aM':PE X (.Dict [] [] pos) aL':=fun pins s σ H Q I h =>
 wpAny_Dict_empty ⟨.ref s.heap.objs.size,_,I.laid (a:=s.heap.objs.size) (o:=.dK []) (t':=s.toks) (fun _ _ q=>jv _ q) (cK _) (aK' s.heap I.big),rfl,h _ (I.aE.fresh (cK _))⟩
end
structure M1(X:Cx)(o:Expr)(m:Str)(apos:Pos)(e:Expr)(eh:Pos):Prop where
 base:attributeBase o m X.env (eval o X.env)=eval o X.env
 few:((backTo eh (starEach [e] X.env)).all (fun x=>!x.1) && (backToKw eh (keywordEach [] X.env)).all (fun x=>x.1.isSome)
  && decide (([e]:List Expr).length+([]:List Keyword).length+(if ([]:List Keyword).isEmpty then 0 else 1)<30))=true
 line:(apos.endLine == eh.line)=true
 trees:backTo eh (starEach [e] X.env)=[(false,eval e X.env)]
structure M2(X:Cx)(o:Expr)(m:Str)(apos:Pos)(e f:Expr)(eh:Pos):Prop where
 base:attributeBase o m X.env (eval o X.env)=eval o X.env
 few:((backTo eh (starEach [e,f] X.env)).all (fun x=>!x.1) && (backToKw eh (keywordEach [] X.env)).all (fun x=>x.1.isSome)
  && decide (([e,f]:List Expr).length+([]:List Keyword).length+(if ([]:List Keyword).isEmpty then 0 else 1)<30))=true
 line:(apos.endLine == eh.line)=true
 trees:backTo eh (starEach [e,f] X.env)=[(false,eval e X.env),(false,eval f X.env)]
end L2
namespace UJ
open PySem PySem.W PySem.Calls PyProof.Rows
theorem aN'{P:Params}:∀ (ns:List Int) (vs:List Value),WellAll P h vs (ns.map WData.int)->IntsAre vs ns:=by
 intro ns
 induction ns with
 |nil =>intro vs w;rw[List.map_nil] at w;cases w;exact .nil
 |cons n ns ih =>
  intro vs w;rw[hV] at w
  cases w with
  |cons a b =>cases a;exact .cons _ _ (ih _ b)
theorem aO'{l:OpenLaw}{n:Nat}(hn:l.most=some n){P:Params}{h:Heap}{args:List WData}{vals:List Value}(JJ:l.row.toRowW.claim.pre args=true) (OZ:WellAll P h vals args) :
  ∃ a vs ns,vals=[Value.ref a]/\args=[WData.list (ns.map WData.int)]/\h.get? a=some { cls:=.type "list",data:=.seq vs.toArray }/\IntsAre vs ns/\ns.length<=n:=by
 have hsh:WShape.hasAll [] args [.list .int]=true:=(pre_splitW JJ).1;have hc:l.pre.holds [] { args:=args }=true:=(pre_splitW JJ).2;obtain⟨d,r,rfl,h1,h2⟩:=hasAllW_cons hsh;obtain rfl:=hasAllW_nil h2;obtain⟨xs,rfl,h3⟩:=hasW_list h1;obtain⟨ns,rfl⟩:=items_int h3;have hlen:ns.length<=n:=by
  unfold OpenLaw.pre at hc;have h4:(WTm.not (.lt (.lit (.int (n:Int))) (.len (.arg 0)))).holds [] { args:=[.list (ns.map .int)] }=true:=by have h4:=(holds_andW hc).1;rw[hn] at h4;exact h4
  have h5:=condW_of h4 (w_not (w_lt w_lit (w_len_list (w_arg rfl))));rw[da] at h5;refine ND fun q=>?_;have q':(n:Int)<((ns.length:Nat):Int):=by lia
  first
   | (rw[decide_eq_true q'] at h5;exact absurd h5 (by decide))
   | (simp at h5;lia)
 cases OZ with
 |cons w1 w2 =>
  cases w2
  cases w1 with
  |list ho aQ'=>exact⟨_,_,ns,rfl,rfl,ho,aN' ns _ aQ',hlen⟩
theorem aR'(l:OpenLaw)(args:List WData):l.row.toRowW.claim.post args (.bool true) args=true :=
 postW_of (r:=l.row.toRowW) (X:=(true == true)) (show WShape.has [] (.bool true) .bool=true by first|rfl|decide|simp[WShape.has,WShape.arms,WShape.armsAll]) (show(WTm.eq .res (.lit (.bool true))).value [] { args:=args,res:=some (.bool true),after:=args }=some (.bool (true == true)) from w_eq_bool (w_res rfl) w_lit) rfl
theorem aS'{l:OpenLaw}{n:Nat}{q:Program}{loose:List Str}{XP:(Str->Option Value)->Heap->Prop}{YP:World->Heap->Prop}{d:DefRec}(hn:l.most=some n) (D5:d.params.defaults=[])(call:∀ (w:World) (df eM:Shared) (mg mb:Str->Option Value) (fa:Addr) (o:Obj) (pm cd doc:Value) (a:Addr) (vs:List Value) (ns:List Int),
   Ground q loose [] XP w df mg mb eM.heap->YP w eM.heap ->
   eM.heap.get? fa=some o->o.data=.func (docDef d.name d.params d.body d.scope pm cd doc)->eM.heap.CodeRec cd d.name->mg d.name=some (.ref fa) ->
   eM.heap.get? a=some { cls:=.type "list",data:=.seq vs.toArray }->IntsAre vs ns->ns.length<=n->eM.gens = #[] ->
   codeAny (model l.prog w) callerA (.call (.ref fa) ⟨[.ref a],[]⟩) (fun r s'=>r=.ok (.ret (.bool true))/\OldK eM.heap s'.heap/\s'.os=eM.os/\AllBare s'.gens) eM) :
  WalkO q loose XP YP l.row.toRowW d [] (fun f vs=>PySem.call f vs):=by
 intro w df eM mg mb G Y fa o pm cd doc dV kV ho hd jI hD D6 hg args vals as JJ hlay hrd OZ hlo;obtain rfl:dV=.none:=Dflts.none hD D5;obtain rfl:kV=.none:=Dflts.noKw hD;obtain⟨a,vs,ns,rfl,rfl,O0,hints,hlen⟩:=aO' hn JJ OZ;refine enter_call (codeAny_mono (call w df eM mg mb fa o pm cd doc a vs ns G Y ho (fd_plain hd) jI D6 O0 hints hlen hg) fun r s' hq=>?_);obtain⟨rfl,h2,h3,h4⟩:=hq;exact⟨.inl ⟨.bool true,.bool true,[],rfl,fun _=>rfl,.bool true,aR' l _,fun _=>⟨List.Pairwise.nil,fun _ hm=>(nomatch hm)⟩⟩,h2,h3,h4⟩
end UJ
namespace L2
open PySem PySem.Spec PyProof.Rows
theorem UK:∀ {vs:List Value} {ns:List Int},IntsAre vs ns->Vals (ns.map V.int) vs
 |_,_,.nil=>.nil
 |_,_,.cons n t h=>.cons ⟨t,rfl⟩ (UK h)
def Only(H:Hp):Prop:=∀ b,H b=none\/∃ o xs,H b=some (.kG o (.lst xs))
theorem aT'{P:Program}{K:PySem.W.Frag}(KX:K.In eM.heap) (UL:eM.heap.Ns mainGlobals mg) (hb:eM.heap.Ns builtinsNs mb) (hbb:∀ x:Str,x ≠ "__name__"->mb x=bootBuiltins x) (aV':eM.heap.NoLimit) (hg:eM.gens = #[])(ha:eM.heap.get? a=some { cls:=.type "list",data:=.seq vs.toArray }) (hi:IntsAre vs ns) (hl:ns.length<=sizeLine) (hr:fe k callerA) (F:∀ base:Heap,K.In base->base.Ns mainGlobals mg->dA P w K mg base CX k fa fd [x] sp) (aW':∀ (s:Shared) (u:Value),BindsTo s fd ⟨[u],[]⟩ [(x,u)]) (tT:∀ H:Hp,Only H->dk K H a (ns.map V.int)->sp [.ref a] H (fun v _=>v=.bl true) fun _ _ _=>False) (O1:∀ H e s',CX [] H eM (fun _ _ _=>False) e s'->False) :
  codeAny (model P w) callerA (.call (.ref fa) ⟨[.ref a],[]⟩) (fun r s'=>r=.ok (.ret (.bool true))/\OldK eM.heap s'.heap/\s'.os=eM.os/\AllBare s'.gens) eM:=by
 have rv:=UK hi;have aX':=hi.length
 -- from an abstract heap in which nothing but the script may be tracked
 have core:∀ H:Hp,Only H->dk K H a (ns.map V.int)->fR P w H eM.heap->(∀ b,H b≠none->b=a)->(H a≠none->K.lookup a=none) ->
   codeAny (model P w) callerA (.call (.ref fa) ⟨[.ref a],[]⟩) (fun r s'=>r=.ok (.ret (.bool true))/\OldK eM.heap s'.heap/\s'.os=eM.os/\AllBare s'.gens) eM:=by
  intro H hO hS aE hA hK;have UM:∀ {b:Addr} {o:Obj},eM.heap.get? b=some o->H b=none->(vS eM.heap H).get? b=some o:=fun e n=>Ys e n;have DZ:∀ {b:Addr} {o:Obj} {es:Array DictEntry} {ep:Nat},eM.heap.get? b=some o->o.data=.dict es ep->H b=none:=fun {b o es ep} e d=>by
   cases q:H b with
   |none=>rfl
   |some u =>have e':b=a:=hA b (by rw[q];simp);subst e';rw[ha] at e;cases e;have d':Data.seq vs.toArray _=Data.dict es ep:=d;cases d'
  have JY:∀ {b:Addr} {m:Str->Option Value},eM.heap.Ns b m->(vS eM.heap H).Ns b m:=fun {b m} ⟨o,es,ep,e,d,r⟩=>⟨o,es,ep,UM e (DZ e d),d,r⟩
  have UN:K.In (vS eM.heap H):=fun b o e=>UM (KX b o e) (by
   cases q:H b with
   |none=>rfl
   |some u =>
    have e':b=a:=hA b (by rw[q];simp);subst e';rw[hK (by rw[q];simp)] at e;cases e)
  have hM:Mod K mg (vS eM.heap H):=⟨UN,JY UL,⟨mb,JY hb,hbb⟩,let ⟨mc,h1,h2⟩:=aV';⟨mc,JY h1,h2⟩⟩
  have e0:tS P w K mg (vS eM.heap H) callerA [] eM H:=⟨rfl,hM,fun b o e=>Yt e,Nat.le_of_eq (Yr _ _),trivial,fun b hb=>absurd (show b∈([]:List Addr) from hb) (by simp),aE,.of_eq hg⟩
  refine codeAny_mono ((F _ UN (JY UL)).run callerA [] eM H ⟨[.ref a],[]⟩ [.ref a] [.ref a] _ _ hr e0 (aW' eM (.ref a)) (.cons rfl .nil) (tT H hO hS)) fun r s' h=>?_
  cases r with
  |error e=>exact(O1 H e s' h).elim
  |ok fl =>
   cases fl with
   |next=>exact False.elim h
   |brk=>exact False.elim h
   |cont=>exact False.elim h
   |ret u =>
    obtain⟨v,H',os,bare,un,aY',r',q⟩:=h;have q':v=.bl true:=q;subst q';obtain rfl:u=Value.bool true:=r';refine⟨rfl,OldK.of_keep fun b o e=>?_,os,bare⟩
    cases q:H b with
    |none=>exact un.keep b o e q (by intro z;exact absurd (show b∈([]:List Addr) from z) (by simp)) (by simp)
    |some u =>
     rcases hO b with z|⟨ob,xs,z⟩
     ·rw[q] at z;cases z
     ·have z2:=un.lh b ob _ z;obtain⟨e1,_⟩:=aE b _ z;obtain⟨e2,_⟩:=aY' b _ z2;rw[e] at e1;cases e1;exact e2
 cases hk:K.lookup a with
 |some o =>
  -- the script is one of the module's own objects
  have e:=KX a o hk;rw[ha] at e;cases e;refine core (fun _=>none) (fun _=>.inl rfl) (.inr ⟨_,vs.toArray,_,hk,rfl,rfl,rfl,by rw[hR,aX'];exact hl,by simpa using rv⟩) (fun b u z=>by have z':(none:Option HO)=some u:=z;cases z') (fun b z=>absurd rfl z) fun z=>absurd rfl z
 |none =>
  refine core (fun b=>if b=a then some (.kG { cls:=.type "list",data:=.seq vs.toArray } (.lst (ns.map V.int))) else none) (fun b=>?_) (.inl (.inr ⟨{ cls:=.type "list",data:=.seq vs.toArray },if_pos rfl⟩)) (fun b u z=>?_) (fun b z=>?_) fun _=>hk
  ·by_cases hb:b=a
   ·exact .inr ⟨_,_,if_pos hb⟩
   ·exact .inl (if_neg hb)
  ·by_cases hb:b=a
   ·have z':=(if_pos hb).symm.trans z;cases z';subst hb;exact⟨ha,by rw[da];exact hl,vs,_,rv,ha⟩
   ·have z':=(if_neg hb).symm.trans z;cases z'
  ·by_cases hb:b=a
   ·exact hb
   ·exact absurd (if_neg hb) z
theorem aZ'{l:PySem.W.OpenLaw}{n k:Nat}{q:Program}{loose:List Str}{XP:(Str->Option Value)->Heap->Prop}{YP:World->Heap->Prop}{d:DefRec}{K:Params->PySem.W.Frag}{CX:World->wm}{sp:World->Sp}{x:Str}(hn:l.most=some n) (hn2:n<=sizeLine) (D5:d.params.defaults=[]) (hr:fe k callerA)(hY:∀ (w:World) (h:Heap),YP w h->(K w.params).In h)(F:∀ (w:World) (mg:Str->Option Value) (fa:Addr) (h:Heap),(K w.params).In h->h.Ns mainGlobals mg->mg d.name=some (.ref fa) ->
   ∃ fd:FuncData,(∀ (s:Shared) (u:Value),BindsTo s fd ⟨[u],[]⟩ [(x,u)]) /\
    ∀ base:Heap,(K w.params).In base->base.Ns mainGlobals mg->dA l.prog w (K w.params) mg base (CX w) k fa fd [x] (sp w))
  (tT:∀ (w:World) (H:Hp) (a:Addr) (ns:List Int),ns.length<=n->Only H->dk (K w.params) H a (ns.map V.int)->sp w [.ref a] H (fun v _=>v=.bl true) fun _ _ _=>False)
  (O1:∀ (w:World) (H:Hp) (s:Shared) (e:Value) (s':Shared),CX w [] H s (fun _ _ _=>False) e s'->False) :
  PySem.W.WalkO q loose XP YP l.row.toRowW d [] (fun f vs=>PySem.call f vs):=by
 refine UJ.aS' hn D5 fun w df eM mg mb fa o pm cd doc a vs ns G Y ho hd jI D6 O0 hints hlen hg=>?_;have KX:=hY w _ Y;obtain⟨fd,hb,hF⟩:=F w mg fa _ KX G.T.g D6;exact aT' KX G.T.g G.T.b G.T.builtins G.T.nolimit hg O0 hints (fE hlen hn2) hr hF hb (fun H hO hS=>tT w H a ns hlen hO hS) fun H e s'=>O1 w H eM e s'
def fh(s:Stmt):Arguments:=match s with
 |.FunctionDef _ a _ _ _ _ _ _ _ _=>a
 |_=>{ posonlyargs:=[],args:=[],vararg:=none,kwonlyargs:=[],kw_defaults:=[],kwarg:=none,defaults:=[] }
def ek(s:Stmt):List Stmt:=match s with
 |.FunctionDef _ _ b _ _ _ _ _ _ _=>b
 |_=>[]
def aT(s:Stmt):Scope:=match s with
 |.FunctionDef _ _ _ _ _ _ sc _ _ _=>sc
 |_=>{ kind:=.function,names:=[],isGenerator:=false,isCoroutine:=false }
abbrev fP:wm:=fun _ _ _ _ _ _=>False
abbrev E0:XK:=fun _ _ _=>False
theorem bb'{X:Cx}:Passes fP X E0:=fun _ _ _ _ _ _ _ h=>h.elim
structure dQ(K:PySem.W.Frag)(x qual:Str)(st:Stmt)(f:Addr)(fd:FuncData):Prop where
 ex:∃ (oc:Value) (od:Option Addr) (kV doc pm:Value) (an:Option Addr) (bT ct:Value) (zS:Array (Option Value)),
  fd=PySem.W.fnOf x qual (fh st) (ek st) (aT st) .none kV doc pm an bT ct/\K.lookup f=some ⟨oc,od,.func fd,zS⟩/\PySem.W.codeIn K bT qual=true
 kp:PySem.W.keepIn K (.ref f)=true
section
variable {P:Program}{w:World}{K:PySem.W.Frag}{mg:Str->Option Value}{base:Heap}
theorem dQ.ok{st:Stmt}{N ps:List Str}(F:dQ K x qual st f fd)(S:ft N ps (aT st))(len:∀ vs H Q E,sp vs H Q E->vs.length=ps.length)(wo:∀ (bT:Value) (A:Around) (outer:List Env) (s:Shared) (H:Hp) (vs:List V) (Q:VK) (E:XK),fe k (A.deeper (envOfC qual (aT st) s.heap.objs.size f bT))->sp vs H Q E ->
   ∃ t,kK (i9 fP P w K mg base N qual (aT st) f bT A outer s H E).wc (ek st) t/\t { nx:=fun _ H'=>Q .non H',rt:=Q } (start N vs) H):dA P w K mg base fP (k+1) f fd ps sp:=by
 obtain⟨oc,od,kV,doc,pm,an,bT,ct,zS,rfl,lk,jI⟩:=F.ex;refine Uq lk jI S len fun A outer s H vs Q E hr tT=>?_;obtain⟨t,h,q⟩:=wo bT A outer s H vs Q E hr tT;exact⟨t,h.wc,q⟩
theorem dQ.binds{st:Stmt}{ps:List Str}(F:dQ K x qual st f fd)(h:∀ (kV doc pm:Value) (an:Option Addr) (bT ct:Value) (us:List Value),us.length=ps.length->bindArgs (PySem.W.fnOf x qual (fh st) (ek st) (aT st) .none kV doc pm an bT ct) ⟨us,[]⟩=pure (ps.zip us)):Binds K fd ps []:=by
 obtain⟨oc,od,kV,doc,pm,an,bT,ct,zS,rfl,lk,jI⟩:=F.ex;exact .all (h kV doc pm an bT ct)
theorem gi{st:Stmt}{kV doc pm bT ct:Value}(l:K.lookup f=some ⟨oc,od,.func (PySem.W.fnOf x qual (fh st) (ek st) (aT st) .none kV doc pm an bT ct),zS⟩)(c:PySem.W.codeIn K bT qual=true) (k:PySem.W.keepIn K (.ref f)=true):dQ K x qual st f (PySem.W.fnOf x qual (fh st) (ek st) (aT st) .none kV doc pm an bT ct):=⟨⟨oc,od,kV,doc,pm,an,bT,ct,zS,rfl,l,c⟩,k⟩
end
section
variable {X:Cx}
theorem pv (i:Nat) (hN:X.N[i]? = some x:=by rfl) (hv:DJ X.env.scope x:=by first|exact Or.inl rfl|exact Or.inr (Or.inl rfl)|exact Or.inr (Or.inr rfl)) (hd:(x == ("__debug__" : Str))=false:=by decide) (jI:(x == ("__classdict__" : Str))=false:=by decide):PE X (.Name x pos) (sv i):=TK hN hv hd jI
end
def ay(H H':Hp):Prop:=∀ b o,H b=some o->H' b=some o
theorem ay.refl(H:Hp):ay H H:=fun _ _ h=>h
theorem ay.trans(a:ay H H1)(b:ay H1 H2):ay H H2:=fun c o h=>b c o (a c o h)
theorem ay.free(e:ay H H')(h:H' l=Option.none):H l=Option.none:=by
 cases q:H l with
 |none=>rfl
 |some o =>rw[e l o q] at h;cases h
theorem ay.seq{K:PySem.W.Frag}(e:ay H H')(h:dk K H a xs):dk K H' a xs:=by
 rcases h with(h|⟨o,h⟩)|h
 ·exact .inl (.inl (e _ _ h))
 ·exact .inl (.inr ⟨o,e _ _ h⟩)
 ·exact .inr h
end L2
set_option maxHeartbeats 4000000
namespace L2
open PySem PySem.Spec PyProof.Rows
def kL(env:Env):List (Str × NameKind)->List (Str × Addr)->List (Str × Addr)
 |[],cs=>cs
 | (n,k) :: r,cs=>kL env r (if k == NameKind.free then (n,(env.cells.lookup n).getD 0) :: cs else cs)
theorem jT(env:Env):∀ (names:List (Str × NameKind)) (cs:List (Str × Addr)),(∀ y∈names,y.2=.free->∃ c,env.cells.lookup y.1=some c) -> (forIn names cs fun x r=>match x with
   | (name,kind)=>if (kind == NameKind.free)=true then do let a <- cellOf env name;pure (ForInStep.yield ((name,a) :: r)) else pure (ForInStep.yield r):Sem (List (Str × Addr)))=pure (kL env names cs)
 |[],cs,_=>rfl
 | (n,k) :: r,cs,h=>by
  rw[List.forIn_cons];have ih:=jT env r;by_cases hk:k=.free
  ·subst hk;obtain⟨c,e⟩:=h (n,.free) fo rfl;have e:env.cells.lookup n=some c:=e;have e2:cellOf env n=pure c:=by unfold cellOf;rw[e]
   have e3:kL env ((n,.free) :: r) cs=kL env r ((n,c) :: cs):=by show kL env r (if (NameKind.free == NameKind.free)=true then (n,(env.cells.lookup n).getD 0) :: cs else cs)=_;rw[e];rfl
   rw[e3,<- ih ((n,c) :: cs) fun y hy=>h y (dz _ hy)];simp only[beq_self_eq_true,if_true,e2];rfl
  ·have hb:(k == NameKind.free)=false:=by simpa using hk
   have e3:kL env ((n,k) :: r) cs=kL env r cs:=by show kL env r (if (k == NameKind.free)=true then _ else cs)=_;rw[hb];rfl
   rw[e3,<- ih cs fun y hy=>h y (dz _ hy)];simp only[hb,GW,if_false];rfl
theorem lr(h:∀ y∈scope.names,y.2=.free->∃ c,env.cells.lookup y.1=some c):closureFor scope env=pure (kL env scope.names []):=by have:=jT env scope.names [] h;unfold closureFor;rw[<- bind_pure (forIn scope.names [] _)] at this;exact this
theorem nH:∀ {names:List (Str × NameKind)} {cs:List (Str × Addr)},(∀ y∈names,y.2=.free->∃ c,env.cells.lookup y.1=some c)->(∀ y d,cs.lookup y=some d->env.cells.lookup y=some d) -> (kL env names cs).lookup x=some c->env.cells.lookup x=some c
 |[],cs,_,h,e=>h x c e
 | (n,k) :: r,cs,hf,h,e=>by
  refine nH (names:=r) (fun y hy=>hf y (dz _ hy)) ?_ e;intro y d hd;by_cases hk:k=.free
  ·subst hk;obtain⟨c',e'⟩:=hf (n,.free) fo rfl;have e':env.cells.lookup n=some c':=e';simp only[beq_self_eq_true,if_true,e',Option.getD_some,Nw] at hd
   cases hb:y == n with
   |true=>rw[hb] at hd;have:y=n:=eq_of_beq hb;subst this;rw[e'];exact hd
   |false=>rw[hb] at hd;exact h y d hd
  ·have hb:(k == NameKind.free)=false:=by simpa using hk
   simp only[hb,GW,if_false] at hd;exact h y d hd
theorem kI:∀ {names:List (Str × NameKind)} {cs:List (Str × Addr)},((x,NameKind.free)∈names\/∃ c,cs.lookup x=some c)->∃ c,(kL env names cs).lookup x=some c
 |[],cs,h=>by
  rcases h with h|h
  ·exact nomatch h
  ·exact h
 | (n,k) :: r,cs,h=>by
  refine kI (names:=r) ?_;rcases h with h|⟨c,h⟩
  ·rcases eK.mp h with e|h
   ·cases e;refine .inr ⟨(env.cells.lookup x).getD 0,?_⟩;simp only[beq_self_eq_true,if_true,Nw]
   ·exact .inl h
  ·refine .inr ?_;by_cases hk:(k == NameKind.free)=true
   ·simp only[hk,if_true,Nw]
    cases hb:x == n with
    |true=>exact⟨_,rfl⟩
    |false=>exact⟨c,h⟩
   ·simp only[hk,if_false];exact⟨c,h⟩
def cM(X:Cx)(scope:Scope)(C:Addr)(N:List Str)(fp:List Addr)(cw:Shared)(cx:Hp):Cx :=
 { X with N:=N,df:=cw,nv:=cx,env:=compEnvC scope (kL X.env scope.names []) C X.env,outer:=X.stack,stack:=X.stack,ex:=fp,fn:=fun _=>false,pn:=[],xe:=fun _ _=>False }
def sM(X:Cx)(ifs:List Expr)(t:TT):Prop :=
 ∀ (pins:List (Addr × Obj)) (s:Shared) (σ:St) (H:Hp) (Q:Bool->Hp->Prop),Inv X pins σ H s->t σ H Q ->
  wpAny (model X.prog X.w) X.A (forIn ifs true fun c r=>if r=true then do let ok <- isTrue c X.env (eval c X.env);pure (ForInStep.yield ok) else pure (ForInStep.yield r)) (TP X pins σ Q) X.xe s
def bc':TT:=fun _ H Q=>Q true H
theorem FJ{X:Cx}:sM X [] bc':=fun _ _ _ H _ I h=>wpAny_tests_nil ⟨H,I,h⟩
theorem eX{R:Result->Shared->Prop}(I:Nat->Shared->Prop)(E:Value->Shared->Prop)(turn:∀ n s,I n s->wpAny (model prog w) A (pyNext it) (fun r eM=>match r with
   |none=>R (.ok .next) eM
   |some v=>wpAny (model prog w) A (letOwnedTupleGo target it v) (fun _ df=>wpAny (model prog w) A (assign target env v) (fun _ IA =>
     wpAny (model prog w) A (forIn ifs true fun c r=>if r=true then do let ok <- isTrue c env (eval c env);pure (ForInStep.yield ok) else pure (ForInStep.yield r)) (fun ok cw =>
      if ok=true then wpAny (model prog w) A (eval elt env) (fun x UO =>
       wpAny (model prog w) A (call (.builtin "list.append") [acc,x]) (fun _ UQ=>∃ m,m<n/\I m UQ) E UO) E cw
      else ∃ m,m<n/\I m cw) E IA) E df) E eM) E s)
  (hE:∀ e s',E e s'->notedBy (model prog w) A env (fun e s'=>R (.error e) s') e s')
  (n:Nat) (h:I n s) :
  codeAny (model prog w) A (.compLoop (.ListComp elt [⟨target,iter,ifs,0⟩] scope pos) 0 it acc env) R s:=by
 refine codeAny_loop rfl I (fun n s hI=>?_) n h;show wpAny _ A ((compTurn (.ListComp elt [⟨target,iter,ifs,0⟩] scope pos) 0 it acc env).onRaise (fun x=>do noteFrame x env;theTreesLotGoes x)) _ _ s;refine wpAny_noted ?_;rw[compTurn_list];refine oa (Q:=_) (E:=E) ?_ (fun _ _ q=>q) hE;refine bS (wpAny_standAt (bS (oa (turn n s hI) (fun r eM yy=>?_) fun _ _ h'=>h')))
 cases r with
 |none=>exact dv yy
 |some v =>
  refine bS (oa yy (fun _ df h₀=>?_) fun _ _ h'=>h');refine bS (oa h₀ (fun _ IA bd'=>bS (oa bd' (fun ok cw UR=>?_) fun _ _ h'=>h')) fun _ _ h'=>h')
  cases ok with
  |false=>exact dv ⟨rfl,UR⟩
  |true =>exact bS (bS (oa UR (fun x UO be'=>bS (oa be' (fun _ UQ bf'=>dv (dv ⟨rfl,bf'⟩)) fun _ _ h'=>h')) fun _ _ h'=>h'))
def jh(tn:Nat)(ix:List Nat)(σ:St):St:=List.replicate tn none++ix.map fun j=>(σ[j]?).join
def uH(wi:TI)(g:TG)(tc:TT)(te:TE)(tn:Nat)(ix:List Nat):TE:=fun σ H Q=>wi σ H fun J H1=>∀ D,H1 D=none ->
 ∃ W:Nat->Nat->St->Hp->Prop,(∃ m,W 0 m (jh tn ix σ) (upd H1 D (.lst [])))/\∀ i m τ H,W i m τ H -> (J.stop i H/\Q (.ref D) H)\/(J.go i H/\∃ (N1:St->V->Hp->Prop) (N2:St->Hp->Prop), (∀ ku v H4,N1 ku v H4->∃ ys m',H4 D=some (.lst ys)/\ys.length<sizeLine/\m'<m/\W (i+1) m' ku (upd H4 D (.lst (ys++[v])))) /\ (∀ ku H3,N2 ku H3->∃ m',m'<m/\W (i+1) m' ku H3) /\
   ∀ x H',J.i7 i H x H'->g x τ H' fun ku H2=>tc ku H2 fun b H3=>if b=true then te ku H3 (N1 ku) else N2 ku H3)
section
variable {X:Cx}{tg iter elt:Expr}{ifs:List Expr}{scope:Scope}{pos:Pos}{wi:TI}{g:TG}{tc:TT}{te:TE}{tn cn:List Str}{ix:List Nat}
structure cC(X:Cx)(scope:Scope)(tn cn:List Str)(ix:List Nat):Prop where
 kind:scope.kind=.function
 UT:∀ y∈scope.names,y.2≠.cell
 free:∀ y∈scope.names,y.2=.free->X.env.scope.names.lookup y.1=some .cell\/X.env.scope.names.lookup y.1=some .free
 names:∀ y∈scope.names,y.2=.local->scope.names.lookup y.1=some .local
 len:ix.length=cn.length
 cap:∀ (k j:Nat),ix[k]? = some j->∃ y,cn[k]? = some y/\X.N[j]? = some y/\(X.env.scope.names.lookup y=some .cell\/X.env.scope.names.lookup y=some .free)/\(y,NameKind.free)∈scope.names /\
  ((relabel scope X.env).names.lookup y=some .cell\/(relabel scope X.env).names.lookup y=some .free)
 all:∀ x,(relabel scope X.env).names.lookup x=some .cell\/(relabel scope X.env).names.lookup x=some .free->(x,NameKind.free)∈scope.names
theorem tW(O:cC X scope tn cn ix)(I:Inv X pins σ H s)(hf:∀ b∈fp,mM X pins H b)(hfs:∀ b∈fp,b<s.heap.objs.size)(hC:s.heap.objs.size<=C) : (cM X scope C (tn++cn) fp s H).Ok:=by
 have ky:∀ y∈scope.names,y.2=.free->∃ c,X.env.cells.lookup y.1=some c:=fun y hy hk=>I.ok.has y.1 (O.free y hy hk);have sub:∀ x c,(kL X.env scope.names []).lookup x=some c->X.env.cells.lookup x=some c:=fun x c e=>nH ky (fun y d h=>by simp at h) e;refine⟨I.ok.mod,O.kind,I.ok.glob,I.ok.blt,hC,fun x y c h1 h2=>I.ok.inj x y c (sub x c h1) (sub y c h2),fun x hx=>kI (.inl (O.all x hx)),(fun x c h _=>nomatch h),I.ok.hd,I.ok.frames,.inl rfl,fun b hb=>⟨?_,fun x c e=>?_⟩,
  I.bs,fE I.ok.ny I.sz,fun b o e hb=>?_,fun b hb=>?_,I.stack,I.NX⟩
 ·exact i3 (kl (hfs b hb) hC)
 ·exact(hf b hb).2.2.2.2.1 x c (sub x c e)
 ·rcases (hf b hb).2.2.2.1 with z|z
  ·exact I.ok.tI b o e z
  ·exact absurd (kl (eR e) (fE I.ok.ny z)) (x6 _)
 ·intro hz;rcases eK.mp (I.NW b hz) with e|e
  ·exact(hf b hb).2.1 e
  ·exact(hf b hb).2.2.1 e
theorem Bv{P:Value->Shared->Prop}(hc:X.calm=true)(hi:PI X tg iter wi)(O:cC X scope tn cn ix)(hg:∀ C fp cw cx,PG (cM X scope C (tn++cn) fp cw cx) tg g) (lP:∀ C fp cw cx,sM (cM X scope C (tn++cn) fp cw cx) ifs tc) (he:∀ C fp cw cx,PE (cM X scope C (tn++cn) fp cw cx) elt te)(hs:∀ x,foldedSetIterable iter X.env x=pure x) (I:Inv X pins σ H s) (h:uH wi g tc te tn.length ix σ H Q)(fin:∀ (C D:Addr) (m:Str->Option Value) (H5:Hp) (s6:Shared) (r:Flow),Inv X pins σ H5 s6->s6.heap.Ns C m->H5 C=none->mM X pins H5 C->Q (.ref D) H5->compPost (model X.prog X.w) X.A X.xe use P (.ref D) C (.ok r) s6) :
  wpAny (model X.prog X.w) X.A (comprehension (.ListComp elt [⟨tg,iter,ifs,0⟩] scope pos) scope X.env UU (newList []) false (eval iter X.env) use) P X.xe s:=by
 have ky:∀ y∈scope.names,y.2=.free->∃ c,X.env.cells.lookup y.1=some c:=fun y hy hk=>I.ok.has y.1 (O.free y hy hk);have sub:∀ x c,(kL X.env scope.names []).lookup x=some c->X.env.cells.lookup x=some c:=fun x c e=>nH ky (fun y d h=>by simp at h) e;refine wpAny_comprehension_free (use:=use) rfl hs (lr ky) O.kind O.names (cf (hi pins s σ H _ I h) fun v s1 h1=>cf h1 fun H0 s2 h2=>?_);obtain⟨it,fp,xi,J,H2,e,I2,T,zv,f2,h2⟩:=h2;subst e;obtain⟨W,⟨m0,w0⟩,turn⟩:=h2 s2.heap.objs.size (I2.aE.fresh (cK _));refine wpAny_newObj_type ?_;have I3:Inv X pins σ (upd H2 s2.heap.objs.size (.lst [])) { s2 with heap:=s2.heap.push { cls:=.type "list",data:=.seq ([]:List Value).toArray } }:=I2.D4 (its:=[]) (t':=s2.toks) .nil (i5 _);generalize hD:s2.heap.objs.size=D at *
 generalize z5:({ s2 with heap:=s2.heap.push { cls:=.type "list",data:=.seq ([]:List Value).toArray } }:Shared)=s3 at *
 have An:∀ b o,s2.heap.get? b=some o->s3.heap.get? b=some o:=fun b o e=>by rw[<- z5];exact jv _ e
 have sz3:s3.heap.objs.size=D+1:=by rw[<- z5,<- hD];exact Heap.size_push ..
 have f3:∀ b∈fp,mM X pins (upd H2 D (.lst [])) b:=fun b hb=>by obtain⟨f0,fr⟩:=f2 b hb;obtain⟨o,ho,_⟩:=T.obj _ _ zv b hb;refine⟨?_,fr⟩;rw[eS (i3 (by rw[<- hD];exact eR ho))];exact f0
 have qV:xi 0 s3.heap:=T.keep _ _ _ zv fun b hb o e=>An b o e;have O2:∀ b∈fp,b<s3.heap.objs.size:=fun b hb=>by obtain⟨o,ho,_⟩:=T.obj _ _ qV b hb;exact eR ho
 refine wpAny_newFunctionEnv O.UT (by intro y hy;simp at hy) (fun yy O3 O4=>?_) O.kind;have og:∀ b o,s3.heap.get? b=some o->yy.get? b=some o:=fun b o e=>O4.extBut b o (i3 (eR e)) (jv _ e)
 -- the block's context
 have xk:=tW (C:=s3.heap.objs.size) O I3 f3 O2 (cK _);have I4:Inv (cM X scope s3.heap.objs.size (tn++cn) fp s3 (upd H2 D (.lst []))) [] (jh tn.length ix σ) (upd H2 D (.lst [])) { s3 with heap:=yy,toks:=s3.toks+([]:List (Str × Value)).length }:=by
  refine⟨xk,rfl,I3.bare,Un.kept og,⟨_,O3,fun i x v e1 e2 e3=>?_⟩,fun x c e=>?_,I3.aE.fresh (cK _),fun x c e=>I3.kN x c (sub x c e),fun p hp=>absurd hp (by simp[cM]),I3.aE.kept og,?_⟩
  ·have ub:tn.length<=i:=by
    by_cases q:i<tn.length
    ·unfold jh at e2;rw[x3 (by simpa using q),GB] at e2;simp[q] at e2
    ·lia
   unfold jh at e2;rw[n4 (by simpa using ub),x4,vj] at e2;have e1:(tn++cn)[i]? = some x:=e1;rw[n4 ub] at e1
   cases q:ix[i-tn.length]? with
   |none=>rw[q] at e2;cases e2
   |some j =>
    rw[q] at e2;obtain⟨y,c1,c2,c3,c4,c5⟩:=O.cap _ _ q;rw[c1] at e1;cases e1;have e2:σ[j]?.join=some v:=Option.some.inj e2;have ej:σ[j]? = some (some v):=by
     cases z:σ[j]? with
     |none=>rw[z] at e2;cases e2
     |some o=>rw[z] at e2;exact congrArg some e2
    obtain⟨m,hn,hl⟩:=I3.loc;obtain⟨u,r,l⟩:=hl j x v c2 ej (c3.elim (fun z=>.inr (.inl z)) fun z=>.inr (.inr z));refine⟨u,r,.inr ⟨c5,?_⟩⟩;rcases l with⟨hk,_⟩|⟨hk,c,Bz,O5⟩
    ·have hk:X.env.scope.names.lookup x=some .local:=hk;rcases c3 with z|z
     ·rw[z] at hk;cases hk
     ·rw[z] at hk;cases hk
    ·obtain⟨c',yi⟩:=kI (env:=X.env) (cs:=[]) (Or.inl c4);have:=sub x c' yi;rw[Bz] at this;cases this;obtain⟨o,ho,hd⟩:=O5;exact⟨c,yi,o,og _ _ ho,hd⟩
  ·obtain⟨v,o,ho,hd⟩:=I3.cell x c (sub x c e);exact⟨v,o,og _ _ ho,hd⟩
  ·show(jh tn.length ix σ).length=(tn++cn).length;unfold jh;simp[O.len]
 -- from the block back to the body
 have back:∀ {τ:St} {H':Hp} {s':Shared},Inv (cM X scope s3.heap.objs.size (tn++cn) fp s3 (upd H2 D (.lst []))) [] τ H' s'->Inv X pins σ H' s':=fun {τ H' s'} I' =>
  Inv.Oi (ch:=fp) I3 I'.os I'.base I'.aE I'.bare fun b hb=>by obtain⟨_,f1,_,D7,f4,f5⟩:=f3 b hb;exact⟨D7,f1,f4,f5⟩
 have Ap:∀ {H':Hp},(∀ b∈fp,H' b=none)->∀ b∈fp,mM (cM X scope s3.heap.objs.size (tn++cn) fp s3 (upd H2 D (.lst []))) [] H' b:=fun hn b hb =>
  ⟨hn b hb,(xk.sj b hb).1,xk.sq b hb,.inl hb,(xk.sj b hb).2,fun p hp=>absurd hp (by simp[cM])⟩
 have loop:∀ s4:Shared,Inv (cM X scope s3.heap.objs.size (tn++cn) fp s3 (upd H2 D (.lst []))) [] (jh tn.length ix σ) (upd H2 D (.lst [])) s4->xi 0 s4.heap ->
   codeAny (model X.prog X.w) X.A (.compLoop (.ListComp elt [⟨tg,iter,ifs,0⟩] scope pos) 0 (.ref it) (.ref D) (compEnvC scope (kL X.env scope.names []) s3.heap.objs.size X.env)) (compPost (model X.prog X.w) X.A X.xe use P (.ref D) s3.heap.objs.size) s4:=by
  intro s4 I4 O6;refine eX (fun n s'=>∃ i τ H',Inv (cM X scope s3.heap.objs.size (tn++cn) fp s3 (upd H2 D (.lst []))) [] τ H' s'/\xi i s'.heap/\(∀ b∈fp,H' b=none)/\W i n τ H') (fun _ _=>False) ?_ (fun _ _ z=>z.elim) m0 ⟨0,_,_,I4,O6,fun b hb=>(f3 b hb).1,w0⟩
  rintro n s5 ⟨i,τ,H5,I5,wd,zC,w5⟩;rcases turn i n τ H5 w5 with⟨stop,qn⟩|⟨go,N1,N2,O7,oy,step⟩
  ·refine cf (T.done (cM X scope s3.heap.objs.size (tn++cn) fp s3 (upd H2 D (.lst []))) rfl rfl rfl hc i [] s5 τ H5 (fun _ _=>False) I5 (Ap zC) wd stop) fun r s6 dc=>?_;obtain⟨hr,I6⟩:=dc;subst hr;have J6:=back I6;obtain⟨m,hn,_⟩:=I6.loc;exact fin _ D m H5 s6 _ J6 hn I6.free (I3.yk (b:=s3.heap.objs.size) (H':=H5) (cK _) I6.free) qn
  ·refine cf (T.item (cM X scope s3.heap.objs.size (tn++cn) fp s3 (upd H2 D (.lst []))) rfl rfl rfl hc i [] s5 τ H5 (fun _ _=>False) I5 (Ap zC) wd go) fun r s6 dc=>?_;obtain⟨u,hr,h6⟩:=dc;subst hr;refine cf h6 fun _ s7 dc=>?_;obtain⟨x,H7,I7,r7,y7,Au,O8⟩:=dc;have O9:=I7.pinned (Ap O8) (T.obj _ _ Au);refine cf (hg _ _ _ _ _ s7 τ H7 x u _ O9 r7 (step x H7 y7)) fun _ s8 dc=>?_;obtain⟨pE,H8,I8,q8⟩:=dc;refine cf (lP _ _ _ _ _ s8 pE H8 _ I8 q8) fun ok s9 dc=>?_;obtain⟨H9,I9,q9⟩:=dc;have again:∀ {s':Shared} {H':Hp} {m':Nat},Inv (cM X scope s3.heap.objs.size (tn++cn) fp s3 (upd H2 D (.lst []))) ([]++BG fp s7.heap) pE H' s'->m'<n->W (i+1) m' pE H' ->
     ∃ m,m<n/\∃ i τ H',Inv (cM X scope s3.heap.objs.size (tn++cn) fp s3 (upd H2 D (.lst []))) [] τ H' s'/\xi i s'.heap/\(∀ b∈fp,H' b=none)/\W i m τ H':=fun {s' H' m'} J hm w'=>by
    refine⟨m',hm,i+1,pE,H',J.DT,T.keep _ _ _ Au fun b hb o e=>(J.pin (b,o) (eT _ (eT _ (BH hb e)))).1,fun b hb=>?_,w'⟩;obtain⟨o,e,d⟩:=T.obj _ _ Au b hb;exact(J.pin (b,o) (eT _ (eT _ (BH hb e)))).2.1
   cases ok with
   |false =>rw[if_neg ko] at q9 ⊢;obtain⟨m',hm,w'⟩:=oy _ _ q9;exact again I9 hm w'
   |true =>rw[if_pos rfl] at q9 ⊢;refine cf (he _ _ _ _ _ s9 pE H9 _ I9 q9) fun x9 O_ cq=>L2.fq cq fun v10 D8 Pa D9 Pb=>?_;obtain⟨ys,m',hH,hz,hm,w'⟩:=O7 _ _ _ Pb;refine cf (OU _ O_ pE D8 (.ref D) [v10] (.ref D) [x9] (fun _ H'=>H'=upd D8 D (.lst (ys++[v10]))) Pa rfl (.cons D9 .nil) ⟨D,ys,v10,rfl,rfl,hH,hz,rfl⟩) fun _ s11 cq=>L2.fq cq fun _ H11 Pg _ Ph=>?_;subst Ph;exact again Pg hm w'
 exact codeAny_compStart_list (loop _ I4 (T.keep _ _ _ qV fun b hb o e=>og b o e)) (T.self _ 0 _ _ _ (T.keep _ _ _ qV fun b hb o e=>og b o e) (loop _ I4 (T.keep _ _ _ qV fun b hb o e=>og b o e)))
theorem F_(hc:X.calm=true)(hi:PI X tg iter wi)(O:cC X scope tn cn ix)(hg:∀ C fp cw cx,PG (cM X scope C (tn++cn) fp cw cx) tg g) (lP:∀ C fp cw cx,sM (cM X scope C (tn++cn) fp cw cx) ifs tc) (he:∀ C fp cw cx,PE (cM X scope C (tn++cn) fp cw cx) elt te)(hs:∀ x,foldedSetIterable iter X.env x=pure x:=by intro _;rfl):PE X (.ListComp elt [⟨tg,iter,ifs,0⟩] scope pos) (uH wi g tc te tn.length ix):=by
 intro pins s σ H Q I h;rw[eval_ListComp];refine Bv (use:=none) (P:=EP X pins σ Q) hc hi O hg lP he hs I h fun C D m H5 s6 r J6 hn hf ⟨_,g1,_,g3,g4,g5⟩ qn=>⟨m,hn,fun h' Ee=>⟨.ref D,H5,?_,rfl,qn⟩⟩
 exact J6.turned (t':=s6.toks) (fun b o hb e=>Ee.extBut b o hb e) hf g1 g3 g4 g5
end
def BO (a b:String):Bool:=a == b || (a == "bool" && b == "int")
def Pj (b:String):Bool:=["str", "int", "bool", "list", "tuple", "dict"].contains b
theorem lZ (K:PySem.W.Frag) (a b:String) (ha:a∈["NoneType", "bool", "int", "str", "list", "tuple", "dict"]) (hb:b∈["str", "int", "bool", "list", "tuple", "dict"]):PySem.W.kitOne K (.type a) (.type b)=some (BO a b):=by simp only[eK,sf,or_false] at ha hb;rcases ha with rfl|rfl|rfl|rfl|rfl|rfl|rfl<;>rcases hb with rfl|rfl|rfl|rfl|rfl|rfl<;>kernel_rfl
section
variable {X:Cx}
theorem cy.imp(h:cy X f r)(hi:∀ x y H Q,r' x y H Q->r x y H Q):cy X f r' :=
 fun pins s σ H x y v u Q I rx ry q=>h pins s σ H x y v u Q I rx ry (hi x y H Q q)
def Ip(K:PySem.W.Frag):R2:=fun x y H Q=>∃ l b xs zs,x=.ref l/\y=.ref b/\dk K H l xs/\dk K H b zs/\xs.length+zs.length<=sizeLine/\∀ p,H p=none->Q (.ref p) (upd H p (.lst (xs++zs)))
theorem Eb:cy X (binaryOp .Add) (Ip X.K):=by
 intro pins s σ H x y v u Q I rx ry h;obtain⟨l,b,xs,zs,rfl,rfl,hH,hB,hz,q⟩:=h;cases rx;cases ry;obtain⟨its,r,pl,z⟩:=I.list hH;obtain⟨IL,r2,pl2,z2⟩:=I.list hB;have hl:=r.length;have hl2:=r2.length;obtain⟨⟨cls,dd,data,sl⟩,ho,hc,n,hd⟩:=id pl.isList;obtain⟨⟨Z6,IG,data2,IH⟩,z3,D2,n2,hd2⟩:=id pl2.isList;simp only at hc hd D2 hd2;subst hc hd D2 hd2;have ea:its.toArray++IL.toArray=(its++IL).toArray:=by simp
 refine concat_meets ⟨_,ho,rfl⟩ ⟨_,z3,rfl⟩ noFill_list_add seq_list_add PySem.F.slot_list_add PySem.F.entry_list_add (PySem.F.args_list_add_2 _ _) (list_addW l b its.toArray IL.toArray n n2 dd IG sl IH (by simp only[hR];lia)) ⟨ho,z3,?_⟩;rw[ea];exact⟨.ref _,_,I.D4 (t':=s.toks) (r.append r2) (by rw[kg];lia),rfl,q _ I.fresh⟩
def BJ(K:PySem.W.Frag):R2:=fun x y H Q=>match x,y with
 |.int i,.int j=>Q (.int (i+j)) H
 |.str i,.str j=>i.length+j.length<=sizeLine/\Q (.str (i++j)) H
 |.ref a,.ref b=>∃ xs zs,dk K H a xs/\dk K H b zs/\xs.length+zs.length<=sizeLine/\∀ p,H p=none->Q (.ref p) (upd H p (.lst (xs++zs)))
 |_,_=>False
theorem vh:cy X (binaryOp .Add) (BJ X.K):=by
 refine(Zv.or (ZR.or Eb)).imp fun x y H Q h=>?_;unfold BJ at h;split at h
 ·exact .inl ⟨_,_,rfl,rfl,h⟩
 ·exact .inr (.inl ⟨_,_,rfl,rfl,h.1,h.2⟩)
 ·obtain⟨xs,zs,h1,h2,h3,h4⟩:=h;exact .inr (.inr ⟨_,_,xs,zs,rfl,rfl,h1,h2,h3,h4⟩)
 ·exact h.elim
def Fy:R2:=fun x y H Q=>match x,y with
 |.int i,.int j=>Q (.int (i-j)) H
 |_,_=>False
theorem Dy:cy X (binaryOp .Sub) Fy:=Zw.imp fun x y H Q h=>by
 unfold Fy at h;split at h
 ·exact⟨_,_,rfl,rfl,h⟩
 ·exact h.elim
def Fx:R2:=fun x y H Q=>match x,y with
 |.int i,.int j=>BI i j/\Q (.int (i*j)) H
 |_,_=>False
theorem Fo:cy X (binaryOp .Mult) Fx:=Zx.imp fun x y H Q h=>by
 unfold Fx at h;split at h
 ·exact⟨_,_,rfl,rfl,h.1,h.2⟩
 ·exact h.elim
def D_:R2:=fun x y H Q=>match x,y with
 |.int i,.int j=>(0<j/\j<1073741824)/\Q (.int (i / j)) H
 |_,_=>False
theorem Fb:cy X (binaryOp .FloorDiv) D_:=Zy.imp fun x y H Q h=>by
 unfold D_ at h;split at h
 ·exact⟨_,_,rfl,rfl,h.1,h.2⟩
 ·exact h.elim
def Ej:R2:=fun x y H Q=>match x,y with
 |.int i,.int j=>0<j/\Q (.int (i % j)) H
 |_,_=>False
theorem DX:cy X (binaryOp .Mod) Ej:=Zz.imp fun x y H Q h=>by
 unfold Ej at h;split at h
 ·exact⟨_,_,rfl,rfl,h.1,h.2⟩
 ·exact h.elim
def yA(x y:Str):Bool:=decide (x.cps.toList<y.cps.toList)
def Pk:R2:=fun x y H Q=>match x,y with
 |.int i,.int j=>Q (.bl (decide (i<j))) H
 |.str i,.str j=>Q (.bl (yA i j)) H
 |_,_=>False
theorem uh:cy X (compareOp .Lt) Pk:=(ZI.or ZL).imp fun x y H Q h=>by
 unfold Pk at h;split at h
 ·exact .inl ⟨_,_,rfl,rfl,h⟩
 ·exact .inr ⟨_,_,rfl,rfl,h⟩
 ·exact h.elim
theorem zc:cy X (compareOp .LtE) (fun x y H Q=>∃ i j,x=.str i/\y=.str j/\Q (.bl (!yA j i)) H):=by intro pins s σ H x y v u Q I rx ry h;obtain⟨i,j,rfl,rfl,q⟩:=h;obtain⟨t,rfl⟩:=rx;obtain⟨t',rfl⟩:=ry;exact PySem.P.le_str ⟨.bl _,H,I,rfl,q⟩
def Pl:R2:=fun x y H Q=>match x,y with
 |.int i,.int j=>Q (.bl (decide (i<=j))) H
 |.str i,.str j=>Q (.bl (!yA j i)) H
 |_,_=>False
theorem jt:cy X (compareOp .LtE) Pl:=(ZJ.or zc).imp fun x y H Q h=>by
 unfold Pl at h;split at h
 ·exact .inl ⟨_,_,rfl,rfl,h⟩
 ·exact .inr ⟨_,_,rfl,rfl,h⟩
 ·exact h.elim
def Pm:R2:=fun x y H Q=>match x,y with
 |.int i,.int j=>Q (.bl (decide (j<i))) H
 |_,_=>False
theorem Ht:cy X (compareOp .Gt) Pm:=ZK.imp fun x y H Q h=>by
 unfold Pm at h;split at h
 ·exact⟨_,_,rfl,rfl,h⟩
 ·exact h.elim
theorem Inv.rd(I:Inv X pins σ H s)(e:Rd H a u):fw X.prog X.w H s.heap a u:=e.elim (I.aE a _) fun⟨o,e⟩=>(show fw X.prog X.w H s.heap a (.kG o u) from I.aE a _ e).2
def Kb(K:PySem.W.Frag):List V->Hp->VK->Prop:=fun xs H Q=>match xs with
 |[.str y]=>y.length<=sizeLine/\Q (.int y.length) H
 |[.ref p]=>(∃ ys,dk K H p ys/\Q (.int ys.length) H)\/(∃ ys,gI K H p ys/\Q (.int ys.length) H)\/∃ ah,Rd H p (.dK ah)/\Q (.int ah.length) H
 |_=>False
theorem yG:h8 X (.builtin "len") (Kb X.K):=by
 intro pins s σ H xs us Q I r h;unfold Kb at h;split at h
 ·exact Ow pins s σ H _ us Q I r ⟨_,_,rfl,⟨h.1,rfl⟩,h.2⟩
 ·rcases h with⟨ys,h1,h2⟩|⟨ys,h1,h2⟩|⟨ah,h1,h2⟩
  ·exact Ow pins s σ H _ us Q I r ⟨_,_,rfl,.inl ⟨ys,h1,rfl⟩,h2⟩
  ·exact Ow pins s σ H _ us Q I r ⟨_,_,rfl,.inr ⟨ys,h1,rfl⟩,h2⟩
  ·obtain⟨u,rfl,ru⟩:=vals1 r;cases ru;exact aI' I h1 fun t s' I'=>⟨.int ah.length,H,I',⟨t,rfl⟩,h2⟩
 ·exact h.elim
def Ki(K:PySem.W.Frag):R2:=fun x y H Q=>match x,y with
 |.ref p,.int i=>(∃ xs v,dk K H p xs/\eB xs i=some v/\Q v H)\/∃ xs v,gI K H p xs/\eB xs i=some v/\Q v H
 |.str z,.int i=>z.length<=sizeLine/\∃ c,eB z.cps.toList i=some c/\Q (.str ⟨#[c]⟩) H
 |_,_=>False
theorem CK:pz X (Ki X.K):=by
 intro value slice pins s σ H x y v u Q I rx ry h hs;refine ar' value slice pins s σ H x y v u Q I rx ry ?_ hs;unfold Ki at h;split at h
 ·rcases h with⟨xs,w,h1,h2,h3⟩|⟨xs,w,h1,h2,h3⟩
  ·exact .inl ⟨_,xs,_,w,rfl,rfl,h1,h2,h3⟩
  ·exact .inr (.inl ⟨_,xs,_,w,rfl,rfl,h1,h2,h3⟩)
 ·obtain⟨h1,c,h2,h3⟩:=h;exact .inr (.inr ⟨_,_,c,rfl,rfl,h1,h2,h3⟩)
 ·exact h.elim
def iE(z:Str)(lo hi:Option Int):Str:=⟨((z.cps.toList.drop (HT.bG z.length 0 lo)).take (HT.bG z.length z.length hi-HT.bG z.length 0 lo)).toArray⟩
end
theorem zN(l:List Nat)(lo hi:Option Int)(h:((l.drop (HT.bG l.length 0 lo)).take (HT.bG l.length l.length hi-HT.bG l.length 0 lo)).length=l.length) : (l.drop (HT.bG l.length 0 lo)).take (HT.bG l.length l.length hi-HT.bG l.length 0 lo)=l:=by
 generalize HT.bG l.length 0 lo=a at *
 generalize HT.bG l.length l.length hi=b at *
 by_cases hl:l.length=0
 ·have:l=[]:=List.length_eq_zero_iff.mp hl;subst this;simp
 ·rw[n5,qB] at h;have h1:a=0:=by lia
  subst h1;rw[GV];exact zi (by lia)
theorem Ad(lo hi:Option Int)(n:Nat):Builtin.Str.strSliceIndices lo hi 1 n=(List.range (HT.bG n n hi-HT.bG n 0 lo)).map (HT.bG n 0 lo + ·):=by
 unfold Builtin.Str.strSliceIndices;have e1:(match lo with|none=>(0:Int)|some i=>max 0 (min (if i<0 then i+n else i) n))=((HT.bG n 0 lo:Nat):Int):=by
  cases lo with
  |none=>simp[HT.bG]
  |some i =>
   simp only[HT.bG];by_cases h:i<0
   ·simp only[h,if_true]<;>lia
   ·simp only[h,if_false]<;>lia
 have e2:(match hi with|none=>(n:Int)|some i=>max 0 (min (if i<0 then i+n else i) n))=((HT.bG n n hi:Nat):Int):=by
  cases hi with
  |none=>simp[HT.bG]
  |some i =>
   simp only[HT.bG];by_cases h:i<0
   ·simp only[h,if_true]<;>lia
   ·simp only[h,if_false]<;>lia
 rw[<- sliceRange_one,<- e1,<- e2];simp only[show(1:Int)>0 by decide,if_true];cases lo<;>cases hi<;>rfl
section
variable {X:Cx}
theorem part_of(h:IsPart v o):∃ p:Option (Int × Tok),v=partValue p/\p.map (·.1)=o:=by
 cases h with
 |none=>exact⟨none,rfl,rfl⟩
 |int i t=>exact⟨some (i,t),rfl,rfl⟩
def Pn(K:PySem.W.Frag):V->Option Int->Option Int->Hp->VK->Prop:=fun x lo hi H Q=>match x with
 |.str z=>z.length<=sizeLine/\Q (.str (iE z lo hi)) H
 |.ref a=>∃ xs,dk K H a xs/\∀ p,H p=none->Q (.ref p) (upd H p (.lst (wq xs lo hi)))
 |_=>False
theorem Hz:ua X (fun x lo hi H Q=>∃ z,x=.str z/\z.length<=sizeLine/\Q (.str (iE z lo hi)) H):=by
 intro pins s σ H x v vl vu lo hi sl Q I rx hs pl pu h;obtain⟨z,rfl,hz,q⟩:=h;obtain⟨t,rfl⟩:=rx;obtain⟨p1,rfl,e1⟩:=part_of pl;obtain⟨p2,rfl,e2⟩:=part_of pu;refine⟨"str",_,F.slot_str_getitem.lookup,typeIs_str s z t,wpAny_getItem_str_slice (l:=p1) (u:=p2) (st:=none) hs rfl ?_⟩;have hl:z.cps.toList.length=z.length:=by simp[Str.length]
 have ep:slicePicked z p1 p2 none=(List.range (HT.bG z.length z.length hi-HT.bG z.length 0 lo)).map (HT.bG z.length 0 lo + ·):=by unfold slicePicked;rw[e1,e2];exact Ad lo hi z.length
 have ef:(slicePicked z p1 p2 none).filterMap (z.cps[·]?)=(z.cps.toList.drop (HT.bG z.length 0 lo)).take (HT.bG z.length z.length hi-HT.bG z.length 0 lo):=by rw[ep];exact pick_run z.cps _ _
 unfold sliceMade;split
 ·rename_i hc;have hw:(slicePicked z p1 p2 none).length=z.length:=by simpa using hc
  have:iE z lo hi=z:=by
   unfold iE;have e3:((z.cps.toList.drop (HT.bG z.cps.toList.length 0 lo)).take (HT.bG z.cps.toList.length z.cps.toList.length hi-HT.bG z.cps.toList.length 0 lo)).length=z.cps.toList.length:=by
    rw[hl,n5,qB,hl];rw[ep,da,CM] at hw;have h0:HT.bG z.length 0 lo<=z.length:=by
     cases lo with
     |none=>simp[HT.bG]
     |some i=>simp only[HT.bG];split<;>lia
    have h1:HT.bG z.length z.length hi<=z.length:=by
     cases hi with
     |none=>simp[HT.bG]
     |some i=>simp only[HT.bG];split<;>lia
    lia
   have:=zN z.cps.toList lo hi e3;rw[hl] at this;rw[this]
  rw[this] at q;exact⟨.str z,H,I,⟨t,rfl⟩,q⟩
 ·rw[ef];exact⟨by
   show(iE z lo hi).length<=sizeLine;unfold iE Str.length;simp only[hR,n5,qB,hl];have:z.cps.toList.length=z.length:=hl;lia,⟨.str (iE z lo hi),H,I.tok _,⟨_,rfl⟩,q⟩⟩
theorem Gp:ua X (Pn X.K):=by
 intro pins s σ H x v vl vu lo hi sl Q I rx hs pl pu h;unfold Pn at h;split at h
 ·exact Hz pins s σ H _ v vl vu lo hi sl Q I rx hs pl pu ⟨_,rfl,h.1,h.2⟩
 ·obtain⟨xs,h1,h2⟩:=h;exact ax' pins s σ H _ v vl vu lo hi sl Q I rx hs pl pu ⟨_,xs,rfl,h1,h2⟩
 ·exact h.elim
def EA(z:Str):It:=⟨fun i _=>i<z.cps.size,fun i H x H'=>H'=H/\∃ c,z.cps[i]? = some c/\x=.str ⟨#[c]⟩,fun i _=>z.cps.size<=i⟩
theorem wU {P:Program} {K:PySem.W.Frag} (BM:ty = "str_ascii_iterator"\/ty = "str_iterator") :
  Turn P w K tg (EA z) [it] it (fun i h=>h.IsStrIter it ty z t i/\i<=z.cps.size) where
 mem:=by simp
 obj:=fun i h st b hb=>by
  have e:b=it:=by simpa using hb
  subst e;obtain⟨⟨o,e,c,d⟩,_⟩:=st;exact⟨o,e,fun v z=>by rw[d] at z;cases z⟩
 keep:=fun i h h' st k=>let ⟨⟨o,e,c,d⟩,l⟩:=st;⟨⟨o,k it (by simp) o e,c,d⟩,l⟩
 item:=by
  intro X hP hw hK hc i pins s σ H E I hf st hg;subst hP hw hK;obtain⟨f0,f1,f2,f3,f4,f5⟩:=hf it (by simp);obtain⟨st,_⟩:=st;have hg:i<z.cps.size:=hg;have W:Walks X.prog X.w X.A it [it] [it] z.cps.size (SignAt z) (fun i h=>h.IsStrIter it ty z t i):=by
   rcases BM with rfl|rfl
   ·exact Walks.strAscii (I.ok.hd hc) it z t
   ·exact Walks.strWide (I.ok.hd hc) it z t
  refine W.item i s _ _ hg st fun v h' tk hv hW kk=>?_;obtain⟨c,u,ec,rfl⟩:=hv;have I1:Inv X pins σ H { s with heap:=h',toks:=tk }:=I.turned (fun b o hb e=>kk b o (by simpa using hb) e) f0 f1 f3 f4 f5;obtain⟨o,e,c',d⟩:=id hW;exact⟨_,rfl,Ic (s:={ s with heap:=h',toks:=tk }) e c' d (by rcases BM with rfl|rfl<;>decide) ⟨.str ⟨#[c]⟩,H,I1,⟨u,rfl⟩,⟨rfl,c,ec,rfl⟩,⟨hW,hg⟩,fun b hb=>(hf b hb).1⟩⟩
 done:=by
  intro X hP hw hK hc i pins s σ H E I hf st hg;subst hP hw hK;obtain⟨f0,f1,f2,f3,f4,f5⟩:=hf it (by simp);obtain⟨st,hle⟩:=st;have hg:z.cps.size<=i:=hg;have e:i=z.cps.size:=Nat.le_antisymm hle hg;subst e;have W:Walks X.prog X.w X.A it [it] [it] z.cps.size (SignAt z) (fun i h=>h.IsStrIter it ty z t i):=by
   rcases BM with rfl|rfl
   ·exact Walks.strAscii (I.ok.hd hc) it z t
   ·exact Walks.strWide (I.ok.hd hc) it z t
  exact W.done s _ _ st fun h' tk kk=>⟨rfl,I.turned (fun b o hb e=>kk b o (by simpa using hb) e) f0 f1 f3 f4 f5⟩
 self:=fun A i s Q E st h=>by
  rcases BM with rfl|rfl
  ·exact wpAny_pyIter_striter_ascii st.1 h
  ·exact wpAny_pyIter_striter_wide st.1 h
theorem Ho(hl:PE X l tl):PI X tg l (fun σ H R=>tl σ H fun x H1=>∃ z,x=.str z/\R (EA z) H1):=by
 intro pins s σ H R I h;refine cf (hl pins s σ H _ I h) fun v s1 cq=>L2.fq cq fun x H1 I1 r1 q1=>?_;obtain⟨z,rfl,q⟩:=q1;obtain⟨t,rfl⟩:=r1;have fp:∀ b∈[s1.heap.objs.size],mM X pins H1 b:=fun b hb=>by
  have e:b=s1.heap.objs.size:=by simpa using hb
  subst e;exact I1.yk (cK _) (I1.aE.fresh (cK _))
 cases ha:z.cps.all (· < 128)
 ·exact wpAny_pyIter_wide ha ⟨s1.heap.objs.size,[s1.heap.objs.size],_,_,H1,rfl,I1.kept (t':=s1.toks) fun b o e=>jv _ e,wU (.inr rfl),⟨⟨_,pd _ rfl,rfl,rfl⟩,i5 _⟩,fp,q⟩
 ·exact wpAny_pyIter_ascii ha ⟨s1.heap.objs.size,[s1.heap.objs.size],_,_,H1,rfl,I1.kept (t':=s1.toks) fun b o e=>jv _ e,wU (.inl rfl),⟨⟨_,pd _ rfl,rfl,rfl⟩,i5 _⟩,fp,q⟩
end
structure jZ(J:It)(its:List V)(cond:Hp->Prop):Prop where
 go:∀ i H,cond H->i<its.length->J.go i H
 i7:∀ i H x H',cond H->i<its.length->J.i7 i H x H'->H'=H/\its[i]? = some x
 stop:∀ H,cond H->J.stop its.length H
def Kj(z:Str):List V:=z.cps.toList.map fun c=>.str ⟨#[c]⟩
theorem DY(z:Str):jZ (EA z) (Kj z) (fun _=>True) where
 go:=fun i H _ h=>by simpa[Kj,EA] using h
 i7:=fun i H x H' _ _ h=>by obtain⟨rfl,c,e,rfl⟩:=h;refine⟨rfl,?_⟩;unfold Kj;rw[vj,DE,e];rfl
 stop:=fun H _=>by simp[Kj,EA]
theorem Ce(K:PySem.W.Frag)(a:Addr)(xs:List V):jZ (Iq K a) xs (fun H=>dk K H a xs) where
 go:=fun i H h hi=>⟨xs,xs[i],h,by simp[hi]⟩
 i7:=fun i H x H' h _ y=>⟨y.1,y.2 xs h⟩
 stop:=fun H h=>⟨xs,h,cK _⟩
theorem zA(K:PySem.W.Frag)(a:Addr)(xs:List V):jZ (Ol K a) xs (fun H=>gI K H a xs) where
 go:=fun i H h hi=>⟨xs,xs[i],h,by simp[hi]⟩
 i7:=fun i H x H' h _ y=>⟨y.1,y.2 xs h⟩
 stop:=fun H h=>⟨xs,h,cK _⟩
def Ah(lo:Int)(n:Nat):List V:=(List.range n).map fun i=>.int (lo+(i:Nat))
theorem zb(lo:Int)(n:Nat):jZ (zt lo n) (Ah lo n) (fun _=>True) where
 go:=fun i H _ h=>by simpa[Ah,zt] using h
 i7:=fun i H x H' _ hi h=>by
  have hi:i<n:=by simpa[Ah] using hi
  obtain⟨rfl,rfl⟩:=h;refine⟨rfl,?_⟩;simp[Ah,hi]
 stop:=fun H _=>by simp[Ah,zt]
def bl'(J:It)(g:TG)(tb:TS)(D:Ends)(σ:St)(H:Hp):Prop :=
 ∃ W:Nat->Nat->St->Hp->Prop,(∃ m,W 0 m σ H)/\∀ i m σ H,W i m σ H -> (J.stop i H/\D.nx σ H)\/(J.go i H/\∃ N:St->Hp->Prop,(∀ bE H',N bE H'->∃ m',m'<m/\W (i+1) m' bE H')/\∀ x H',J.i7 i H x H'->g x σ H' fun iS H2=>tb { D with nx:=N,ct:=N,bk:=D.nx } iS H2)
theorem Ed(wi:TI)(g:TG)(tb:TS)(D:Ends)(σ:St)(H:Hp):T5 wi g tb D σ H=wi σ H fun J H1=>bl' J g tb D σ H1:=rfl
def JB(J:It)(g:TG)(tc:TT)(te:TE)(τ0:St)(H1:Hp)(D:Addr)(Q:VK):Prop :=
 ∃ W:Nat->Nat->St->Hp->Prop,(∃ m,W 0 m τ0 (upd H1 D (.lst [])))/\∀ i m τ H,W i m τ H -> (J.stop i H/\Q (.ref D) H)\/(J.go i H/\∃ (N1:St->V->Hp->Prop) (N2:St->Hp->Prop), (∀ ku v H4,N1 ku v H4->∃ ys m',H4 D=some (.lst ys)/\ys.length<sizeLine/\m'<m/\W (i+1) m' ku (upd H4 D (.lst (ys++[v])))) /\ (∀ ku H3,N2 ku H3->∃ m',m'<m/\W (i+1) m' ku H3) /\
   ∀ x H',J.i7 i H x H'->g x τ H' fun ku H2=>tc ku H2 fun b H3=>if b=true then te ku H3 (N1 ku) else N2 ku H3)
theorem wK(wi:TI)(g:TG)(tc:TT)(te:TE)(tn:Nat)(ix:List Nat)(σ:St)(H:Hp)(Q:VK):uH wi g tc te tn ix σ H Q=wi σ H fun J H1=>∀ D,H1 D=none->JB J g tc te (jh tn ix σ) H1 D Q:=rfl
mutual
inductive Rep(K:PySem.W.Frag)(H:Hp):PyData->V->Prop
 |none:Rep K H .none .non
 |bool (b:Bool):Rep K H (.bool b) (.bl b)
 |int (i:Int):Rep K H (.int i) (.int i)
 |str (x:Str):Rep K H (.str x) (.str x)
 |list {a:Addr} {vs:List V} {ds:List PyData}:dk K H a vs->aS K H ds vs->Rep K H (.list ds) (.ref a)
 |tuple {a:Addr} {vs:List V} {ds:List PyData}:gI K H a vs->aS K H ds vs->Rep K H (.tuple ds) (.ref a)
inductive aS(K:PySem.W.Frag)(H:Hp):List PyData->List V->Prop
 |nil:aS K H [] []
 |cons {d:PyData} {v:V} {ds:List PyData} {vs:List V}:Rep K H d v->aS K H ds vs->aS K H (d :: ds) (v :: vs)
end
section
variable {X:Cx}{pins:List (Addr × Obj)}{σ:St}{H:Hp}{s:Shared}
mutual
theorem Rep.reads(I:Inv X pins σ H s):∀ {d:PyData} {v:V} {u:Value},Rep X.K H d v->RelV v u->∃ as,Reads s.heap u d as
 |_,_,_,.none,r=>by cases (show _=Value.none from r);exact⟨_,.none⟩
 |_,_,_,.bool b,r=>by cases (show _=Value.bool b from r);exact⟨_,.bool b⟩
 |_,_,_,.int i,r=>by obtain⟨t,e⟩:=r;subst e;exact⟨_,.int i t⟩
 |_,_,_,.str x,r=>by obtain⟨t,e⟩:=r;subst e;exact⟨_,.str x t⟩
 |_,_,_,.list h hs,r=>by cases r;obtain⟨its,rv,pl,_⟩:=I.list h;obtain⟨o,e,c,n,d⟩:=pl.isList;obtain⟨as,q⟩:=aS.reads I hs rv;exact⟨_,.list e c d q⟩
 |_,_,_,.tuple h hs,r=>by cases r;obtain⟨its,rv,⟨o,e,c,n,d⟩,_⟩:=I.tuple h;obtain⟨as,q⟩:=aS.reads I hs rv;exact⟨_,.tuple e c d q⟩
theorem aS.reads(I:Inv X pins σ H s):∀ {ds:List PyData} {vs:List V} {us:List Value},aS X.K H ds vs->Vals vs us->∃ as,ReadsAll s.heap us ds as
 |_,_,_,.nil,.nil=>⟨_,.nil⟩
 |_,_,_,.cons h hs,.cons r rs=>by obtain⟨as,q⟩:=Rep.reads I h r;obtain⟨bs,q'⟩:=aS.reads I hs rs;exact⟨_,.cons q q'⟩
end
def Pp(K:PySem.W.Frag):R2:=fun x y H Q=>∃ d e,Rep K H d x/\Rep K H e y/\d.canLay0=true/\e.canLay0=true/\d.depth<=60/\Q (.bl (PyData.eqv d e)) H
def Pq(K:PySem.W.Frag):R2:=fun x y H Q=>∃ d e,Rep K H d x/\Rep K H e y/\d.canLay0=true/\e.canLay0=true/\d.depth<=60/\Q (.bl (!PyData.eqv d e)) H
theorem Gm(hu:X.A.units+64<cLine):cy X (compareOp .Eq) (Pp X.K):=by intro pins s σ H x y v u Q I rx ry h;obtain⟨d,e,h1,h2,h3,h4,h5,q⟩:=h;obtain⟨as,r1⟩:=h1.reads I rx;obtain⟨bs,r2⟩:=h2.reads I ry;exact PySem.SeqAt.rcAt_reads r1 r2 h3 h4 (by lia) X.prog X.w X.xe _ ⟨.bl _,H,I,rfl,q⟩
theorem GX(hu:X.A.units+64<cLine):cy X (compareOp .NotEq) (Pq X.K):=by intro pins s σ H x y v u Q I rx ry h;obtain⟨d,e,h1,h2,h3,h4,h5,q⟩:=h;obtain⟨as,r1⟩:=h1.reads I rx;obtain⟨bs,r2⟩:=h2.reads I ry;exact PySem.SeqAt.rcNeAt_reads r1 r2 h3 h4 (by lia) X.prog X.w X.xe _ ⟨.bl _,H,I,rfl,q⟩
def Kk(K:PySem.W.Frag):R2:=fun x y H Q=>match x,y with
 |.int i,.int j=>Q (.bl (decide (i=j))) H
 |.str i,.str j=>Q (.bl (decide (i=j))) H
 |.bl i,.bl j=>Q (.bl (decide (i=j))) H
 |_,_=>Pp K x y H Q
theorem GJ(hu:X.A.units+64<cLine):cy X (compareOp .Eq) (Kk X.K):=(ZG.or (Gm hu)).imp fun x y H Q h=>by
 unfold Kk at h;split at h
 ·refine .inl ⟨rfl,?_⟩;simpa using h
 ·refine .inl ⟨rfl,?_⟩;simpa using h
 ·refine .inl ⟨rfl,?_⟩;simpa using h
 ·exact .inr h
def Kn(K:PySem.W.Frag):R2:=fun x y H Q=>match x,y with
 |.int i,.int j=>Q (.bl (!decide (i=j))) H
 |.str i,.str j=>Q (.bl (!decide (i=j))) H
 |.bl i,.bl j=>Q (.bl (!decide (i=j))) H
 |_,_=>Pq K x y H Q
theorem GK(hu:X.A.units+64<cLine):cy X (compareOp .NotEq) (Kn X.K):=(ZH.or (GX hu)).imp fun x y H Q h=>by
 unfold Kn at h;split at h
 ·refine .inl ⟨rfl,?_⟩;simpa using h
 ·refine .inl ⟨rfl,?_⟩;simpa using h
 ·refine .inl ⟨rfl,?_⟩;simpa using h
 ·exact .inr h
def Kx(K:PySem.W.Frag):List V->Hp->VK->Prop:=fun xs H Q=>match xs with
 |[.ref a]=>∃ bs:List Bool,dk K H a (bs.map V.bl)/\Q (.bl (bs.all id)) H
 |_=>False
theorem zq (hc:X.calm=true):h8 X (.builtin "all") (Kx X.K):=by
 intro pins s σ H xs us Q I r h;unfold Kx at h;split at h
 ·rename_i a;obtain⟨bs,e,q⟩:=h;obtain⟨u,rfl,ru⟩:=Vals.one r;cases ru;obtain⟨its,rv,pl,hz⟩:=I.list e;have hl:s.heap.IsList a its.toArray:=pl.isList;obtain⟨o,ho,HP,n,AA⟩:=id hl;have hlen:=rv.length;rw[da] at hlen;refine call_all_walk (wpAny_pyIter_list hl ?_);have sN:a≠s.heap.objs.size:=i3 (eR ho);have hhd:X.A.in1.handled=none:=I.ok.hd hc;refine⟨s.heap.objs.size,_,_,_,_,_,fun i=>bs.getD i true,rfl,Walks.list hhd s.heap.objs.size a sN its.toArray,⟨⟨_,pd _ rfl,rfl,rfl⟩,⟨_,jv _ ho,HP,n,AA⟩⟩,?_,fun h' tk hk=>?_⟩
  ·intro i v s' Q' E' hv hq;have hv:its.toArray[i]? = some v:=hv;have UW:its[i]? = some v:=by simpa using hv
   have hi:i<bs.length:=by have:=(kU.mp UW).1;lia
   obtain⟨w',e1,r1⟩:=rv.get (i:=i) (x:=V.bl bs[i]) (by simp[hi]);rw[UW] at e1;cases e1;cases (show v=Value.bool bs[i] from r1);have e2:bs.getD i true=bs[i]:=by simp[List.getD,hi]
   have hq:Q' (bs.getD i true) s':=hq;rw[e2] at hq;exact wpAny_truthy_bool hq
  ·have e3:((List.range its.toArray.size).all fun i=>bs.getD i true)=bs.all id:=by
    rw[hR,<- hlen];apply vx.mpr;simp only[ki,vt,id];constructor
    ·intro h b hb;obtain⟨i,hi,rfl⟩:=List.mem_iff_getElem.mp hb;have:=h i hi;simpa[List.getD,hi] using this
    ·intro h i hi;have:=h bs[i] (List.getElem_mem hi);simpa[List.getD,hi] using this
   rw[e3];refine⟨.bl (bs.all id),H,?_,rfl,q⟩;exact I.kept (t':=tk) fun b o e=>hk b o (by simp;exact i3 (eR e)) (jv _ e)
 ·exact h.elim
end
end L2
namespace L2
open PySem PySem.Spec PyProof.Rows
section
variable {X:Cx}{pins:List (Addr × Obj)}{σ:St}{H:Hp}{s:Shared}{h':Heap}
theorem Inv.Io{t':Nat}{fp:List Addr}(I:Inv X pins σ H s)(hf:∀ b∈fp,mM X pins H b)(k:∀ b o,b∉fp->s.heap.get? b=some o->h'.get? b=some o):Inv X pins σ H { s with heap:=h',toks:=t' }:=by
 have yb:∀ b u,H b=some u->b∉fp:=fun b u e z=>by rw[(hf b z).1] at e;cases e
 refine I.step (g':=s.gens) (d':=s.drawn) (ch:=fp) (fun b hb=>?_) (fun b o _ _ hc e _=>k b o hc e) (fun b o _ _ hc e _=>⟨o.slots,k b o hc e⟩) (fun _ _ _ _ n=>n) (fun b o hc e=>⟨o,k b o hc e⟩) (fun _ _ e=>e) (fun _ _ _ e=>e) (fun b ps e=>⟨#[],by rw[e];simp⟩) (fun m hm=>?_) (fun b u e=>?_) I.bare
 ·obtain⟨f0,f1,f2,f3,f4,f5⟩:=hf b hb;exact⟨f3,f1,f4,f5⟩
 ·obtain⟨o,es,ep,ho,r⟩:=hm;exact⟨o,es,ep,k _ o (fun z=>(hf _ z).2.1 rfl) ho,r⟩
 ·refine(I.aE b u e).fF (fun c v hc q=>k c v ?_ q) (fun _ q=>q) fun _ _ q=>q;rcases hc with z|z
  ·rw[z];exact yb b u e
  ·exact yb c _ z
theorem Inv.bo'{t':Nat}{fp:List Addr}{p:Addr}{xs:List V}(I:Inv X pins σ H s)(hf:∀ b∈fp,mM X pins H b)(k:∀ b o,b∉fp->s.heap.get? b=some o->h'.get? b=some o)(hp:s.heap.objs.size<=p)(new:fw X.prog X.w (upd H p (.tup xs)) h' p (.tup xs)):Inv X pins σ (upd H p (.tup xs)) { s with heap:=h',toks:=t' }:=by
 have hn:=I.aE.fresh hp;have yb:∀ b u,H b=some u->b∉fp:=fun b u e z=>by rw[(hf b z).1] at e;cases e
 have lt:∀ b o,s.heap.get? b=some o->b≠p:=fun b o e=>i3 (kl (eR e) hp);refine I.step (g':=s.gens) (d':=s.drawn) (ch:=fp) (fun b hb=>?_) (fun b o _ _ hc e _=>k b o hc e) (fun b o _ _ hc e _=>⟨o.slots,k b o hc e⟩) (fun b o _ e n=>by rw[eS (lt b o e)];exact n) (fun b o hc e=>⟨o,k b o hc e⟩) (fun _ _ e=>by rw[eS (si e hn)];exact e) (fun _ _ _ e=>by rw[eS (si e hn)];exact e) (fun b ps e=>⟨#[],by rw[eS (si e hn),e];simp⟩) (fun m hm=>?_) (fun b u e=>?_) I.bare
 ·obtain⟨f0,f1,f2,f3,f4,f5⟩:=hf b hb;exact⟨f3,f1,f4,f5⟩
 ·obtain⟨o,es,ep,ho,r⟩:=hm;exact⟨o,es,ep,k _ o (fun z=>(hf _ z).2.1 rfl) ho,r⟩
 ·by_cases hb:b=p
  ·subst hb;rw[gg] at e;cases e;exact new
  ·rw[eS hb] at e;refine(I.aE b u e).fF (fun c v hc q=>k c v ?_ q) (fun c q=>by rw[eS (si q hn)];exact q) fun c xs q=>by rw[eS (si q hn)];exact q
   rcases hc with z|z
   ·rw[z];exact yb b u e
   ·exact yb c _ z
end
def Pr(K:PySem.W.Frag)(a:Addr):It :=
 ⟨fun i H=>∃ xs x,dk K H a xs/\xs[i]? = some x,fun i H x H'=>∃ p v,x=.ref p/\H p=none/\H'=upd H p (.tup [.int i,v])/\∀ xs,dk K H a xs->xs[i]? = some v,fun i H=>∃ xs,dk K H a xs/\xs.length<=i⟩
theorem z9:(2:Nat)<=sizeLine:=by rw[sizeLine_eq];decide
theorem zO{P:Program}{w:World}{K:PySem.W.Frag}{elts:List Expr}{k:Nat}{pos:Pos}(a e it:Addr)(UX:e≠it):Turn P w K (.Tuple elts k pos) (Pr K a) [e,it] e (fun i h=>(∃ old,IsEnum h e it i old)/\h.IsListIter it a i) where
 mem:=by simp
 obj:=fun i h ⟨⟨old,he⟩,st⟩ b hb=>by
  rcases eK.mp hb with rfl|hb
  ·exact⟨_,he,fun v z=>nomatch z⟩
  ·have e:b=it:=by simpa using hb
   subst e;obtain⟨o,e,c,d⟩:=st;exact⟨o,e,fun v z=>by rw[d] at z;cases z⟩
 keep:=fun i h h' ⟨⟨old,he⟩,st⟩ k=>⟨⟨old,k e (by simp) _ he⟩,st.at fun o e=>k it (by simp) o e⟩
 item:=by
  intro X hP hw hK hc i pins s σ H E I hf st hg;subst hP hw hK;obtain⟨xs,x,hq,hx⟩:=hg;obtain⟨its,rv,p,hz⟩:=I.list hq;obtain⟨u,hu,ru⟩:=rv.get hx;obtain⟨⟨old,he⟩,hit⟩:=st;refine wpAny_pyNext_enum_item he hit p.isList (x:=u) (by simpa using hu) UX fun h1 ho bp' hT yv hk=>⟨_,rfl,?_⟩
  refine wpAny_letOwnedTupleGo_enum (s:={ s with heap:=h1,toks:=s.toks+1 }) ho fun h2 Pt nE=>?_;have ke:∀ b o,b∉[e,it]->s.heap.get? b=some o->h2.get? b=some o:=fun b o hb q=>(nE.2 b fun z=>hb (by simp[z])).trans (hk b o (fun z=>hb (by simp[z])) (fun z=>hb (by simp[z])) q);have kP:e<s.heap.objs.size:=eR he;have hT2:h2.get? s.heap.objs.size=some { cls:=.type "tuple",data:=.seq #[.int i s.toks,u] }:=(nE.2 _ (Nat.ne_of_gt kP)).trans hT;have I1:Inv X pins σ (upd H s.heap.objs.size (.tup [.int i,x])) { s with heap:=h2,toks:=s.toks+1 } :=
   I.bo' hf ke (cK _) ⟨z9,[.int i s.toks,u],.cons ⟨s.toks,rfl⟩ (.cons ru .nil),_,hT2,rfl,_,rfl⟩
  refine⟨.ref s.heap.objs.size,_,I1,rfl,⟨_,x,rfl,I.fresh,rfl,fun ys hy=>by rw[I.TN hy hq];exact hx⟩,⟨⟨u,by simpa using Pt⟩,bp'.at fun o q=>(nE.2 it UX.symm).trans q⟩,fun b hb=>?_⟩;rw[eS]
  ·exact(hf b hb).1
  ·rcases eK.mp hb with rfl|hb
   ·exact i3 kP
   ·have e:b=it:=by simpa using hb
    subst e;obtain⟨o,q,_⟩:=hit;exact i3 (eR q)
 done:=by intro X hP hw hK hc i pins s σ H E I hf st hg;subst hP hw hK;obtain⟨xs,hq,hx⟩:=hg;obtain⟨its,rv,p,hz⟩:=I.list hq;obtain⟨⟨old,he⟩,hit⟩:=st;have hl:=rv.length;exact wpAny_pyNext_enum_end (I.ok.hd hc) he hit p.isList (by simp;lia) fun h' eb=>⟨rfl,I.Io (t':=s.toks) hf fun b o hb q=>eb b o (fun z=>hb (by simp[z])) q⟩
 self:=fun _ _ _ _ _ ⟨⟨old,he⟩,_⟩ h=>wpAny_pyIter_enum he h
def Itz(K:PySem.W.Frag)(a b:Addr):It :=
 ⟨fun i H=>∃ xs ys x y,dk K H a xs/\dk K H b ys/\xs[i]? = some x/\ys[i]? = some y,fun i H x H'=>∃ p u v,x=.ref p/\H p=none/\H'=upd H p (.tup [u,v])/\(∀ xs,dk K H a xs->xs[i]? = some u)/\∀ ys,dk K H b ys->ys[i]? = some v,
  fun i H=>∃ xs ys,dk K H a xs/\dk K H b ys/\(xs.length<=i\/ys.length<=i)⟩
theorem Hg(h:b∈[n+1,n]):n<=b:=by simp at h;lia
section
variable {X:Cx}
def Iz(K:PySem.W.Frag)(ta:TA):TI:=fun σ H R=>ta σ H fun vs H1=>∃ a,vs=[.ref a]/\(∃ xs,dk K H1 a xs)/\R (Pr K a) H1
theorem Fi (hg:Gl X "enumerate") (hm:X.mg "enumerate" = none) (ha:PA X [a] ta) (hs:starEach [a] X.env=[(false,eval a X.env)]:=by rfl) :
  PI X (.Tuple elts k tp) (.Call (.Name "enumerate" p) [a] [] pos) (Iz X.K ta):=by
 intro pins s σ H R I h;refine Call_ (BD I hg hm boot_enumerate (PyProof.Rows.callWith_type1 (cf (ha pos pins s σ H _ I h) fun us s1 cq=>L2.fq cq fun vs H1 I1 r1 q1=>?_) hs rfl));obtain⟨l,e,⟨xs,hq⟩,q⟩:=q1;subst e
 cases r1 with
 |cons r rr =>cases rr;cases r;obtain⟨its,rv,pl,hz⟩:=I1.list hq;refine call_enumerate_list pl.isList fun h2 he hit yv hk=>?_;refine wpAny_pyIter_enum (s:={ s1 with heap:=h2 }) he ?_;refine⟨s1.heap.objs.size+1,[s1.heap.objs.size+1,s1.heap.objs.size],_,_,H1,rfl,I1.kept (t':=s1.toks) hk,zO l _ _ (Nat.succ_ne_self _),⟨⟨_,he⟩,hit⟩,fun b hb=>?_,q⟩;have e:s1.heap.objs.size<=b:=Hg hb;exact I1.yk e (I1.aE.fresh e)
end
def EB(sc:Scope)(names:List (Str × NameKind)):List (Str × NameKind):=names.map fun y=>if (y.2 == NameKind.free && sc.kind == .function && sc.names.lookup y.1 == some .cell)=true then (y.1,NameKind.cell) else (y.1,y.2)
def EC(o:Option NameKind):Bool:=o == some .cell || o == some .free
def Hv(sc scope:Scope)(N cn:List Str)(ix:List Nat):Bool :=
 scope.kind == .function && scope.names.all (fun y=>y.2 != .cell) && scope.names.all (fun y=>y.2 != .free || EC (sc.names.lookup y.1)) && scope.names.all (fun y=>y.2 != .local || scope.names.lookup y.1 == some .local) &&
 ix.length == cn.length && (List.range ix.length).all (fun k=>match ix[k]?,cn[k]? with
  |some j,some y=>N[j]? == some y && EC (sc.names.lookup y) && scope.names.contains (y,NameKind.free) && EC ((EB sc scope.names).lookup y)
  |_,_=>false) &&
 (EB sc scope.names).all (fun y=>!(y.2 == .cell || y.2 == .free) || scope.names.contains (y.1,NameKind.free))
theorem vK(h:EC o=true):o=some .cell\/o=some .free:=by unfold EC at h;simpa using h
theorem cC.of{X:Cx}(Pu:X.env.scope=sc)(hN:X.N=N)(h:Hv sc scope N cn ix=true):cC X scope tn cn ix:=by
 unfold Hv at h;simp only[i6] at h;obtain⟨⟨⟨⟨⟨⟨h1,h2⟩,h3⟩,h4⟩,h5⟩,h6⟩,h7⟩:=h;rw[ki] at h2 h3 h4 h6 h7;have UY:(relabel scope X.env).names=EB sc scope.names:=by unfold relabel EB;rw[<- Pu];rfl
 refine⟨by simpa using h1,fun y hy=>by simpa using h2 y hy,fun y hy hk=>?_,fun y hy hk=>?_,by simpa using h5,fun k j hk=>?_,fun x hx=>?_⟩
 ·have:=h3 y hy;rw[hk] at this;rw[Pu];exact vK (by simpa using this)
 ·have:=h4 y hy;rw[hk] at this;simpa using this
 ·have hk':k<ix.length:=(kU.mp hk).1;have:=h6 k (vt.mpr hk');rw[hk] at this
  cases e:cn[k]? with
  |none=>rw[e] at this;cases this
  |some y =>rw[e] at this;simp only[i6] at this;obtain⟨⟨⟨a1,a2⟩,a3⟩,a4⟩:=this;refine⟨y,rfl,by rw[hN];simpa using a1,by rw[Pu];exact vK a2,by simpa using a3,by rw[UY];exact vK a4⟩
 ·rw[UY] at hx;have mem:∃ k,(x,k)∈EB sc scope.names/\(k=.cell\/k=.free):=by
   rcases hx with hx|hx
   ·exact⟨_,PySem.mem_of_lookup hx,.inl rfl⟩
   ·exact⟨_,PySem.mem_of_lookup hx,.inr rfl⟩
  obtain⟨k,hm,hk⟩:=mem;have:=h7 _ hm;rcases hk with rfl|rfl<;>simpa using this
structure de(P:Program)(w:World)(K:PySem.W.Frag)(mg:Str->Option Value)(base:Heap)(k:Nat)(x:Str)(ps:List Str)(sp:Sp):Prop where
 ex:∃ (g:Addr) (fd:FuncData),mg x=some (.ref g)/\PySem.W.keepIn K (.ref g)=true/\Binds K fd ps []/\dA P w K mg base fP k g fd ps sp
section
variable {X:Cx}{k:Nat}{x:Str}{ps:List Str}{sp:Sp}{p pos:Pos}{e:Expr}{es:List Expr}{t:TA}
theorem Hq (C:de X.prog X.w X.K X.mg X.base k x ps sp) (hr:fe k X.A) (ha:PA X (e :: es) t) (hg:Gl X x:=by rfl) (fz:(x == ("__debug__" : Str))=false:=by decide) (he:starEach (e :: es) X.env=(false,eval e X.env) :: starEach es X.env:=by rfl) (gy:(backTo pos (starEach es X.env)).any (·.1)=false:=by rfl):PE X (.Call (.Name x p) (e :: es) [] pos) (zI sp [] E0 t):=by
 obtain⟨g,fd,hm,hk,hb,F⟩:=C.ex;exact Uh F hr hg hm hk hb .nil bb' ha fz he gy
end
theorem dQ.iX{P:Program}{K:PySem.W.Frag}{st:Stmt}{ps:List Str}(F:dQ K x qual st f fd)(hm:mg x=some (.ref f))(G:dA P w K mg base fP k f fd ps sp)(h:∀ (kV doc pm:Value) (an:Option Addr) (bT ct:Value) (us:List Value),us.length=ps.length->bindArgs (PySem.W.fnOf x qual (fh st) (ek st) (aT st) .none kV doc pm an bT ct) ⟨us,[]⟩=pure (ps.zip us)):de P w K mg base k x ps sp :=
 ⟨f,fd,hm,F.kp,F.binds h,G⟩
def ED(mg:Str->Option Value)(x:Str)(z:Str):Prop:=∃ t,mg x=some (.str z t)
def BQ(mg:Str->Option Value)(x:Str)(i:Int):Prop:=∃ t,mg x=some (.int i t)
theorem JK {X:Cx} (h:ED X.mg x z) (hg:Gl X x:=by rfl) (hd:(x == ("__debug__" : Str))=false:=by decide):PE X (.Name x pos) (tC (.str z)):=by obtain⟨t,e⟩:=h;exact BE hg e ⟨t,rfl⟩ hd
theorem Jw {X:Cx} (h:BQ X.mg x i) (hg:Gl X x:=by rfl) (hd:(x == ("__debug__" : Str))=false:=by decide):PE X (.Name x pos) (tC (.int i)):=by obtain⟨t,e⟩:=h;exact BE hg e ⟨t,rfl⟩ hd
theorem fV:bootBuiltins "str" = some (.type "str"):=by decide +kernel
theorem xq:bootBuiltins "int" = some (.type "int"):=by decide +kernel
theorem zK:bootBuiltins "bool" = some (.type "bool"):=by decide +kernel
theorem rO:bootBuiltins "list" = some (.type "list"):=by decide +kernel
theorem eY:bootBuiltins "tuple" = some (.type "tuple"):=by decide +kernel
theorem ik:bootBuiltins "isinstance" = some (.builtin "isinstance"):=by decide +kernel
theorem wD:bootBuiltins "all" = some (.builtin "all"):=by decide +kernel
theorem bZ:bootBuiltins "len" = some (.builtin "len"):=by decide +kernel
theorem gF {X:Cx} {T:String} (hm:X.mg x=none) (hv:bootBuiltins x=some (.type T)) (hg:Gl X x:=by rfl) (hn:x ≠ "__name__" := by decide) (hd:(x == ("__debug__" : Str))=false:=by decide):PE X (.Name x pos) (tC (.ty T)) :=
 YG hg hm hv rfl hn hd
def pS(i j:Str):Bool:=!(Builtin.Str.occurrences j i 0 j.length 1).isEmpty
theorem zr(c:Nat)(j:Str):pS ⟨#[c]⟩ j=decide (c∈j.cps.toList):=PySem.StrLaws.found_one j c
def KG(K:PySem.W.Frag)(neg:Bool):R2:=fun x y H Q=>match x,y with
 |.str i,.str j=>Q (.bl (if neg then !pS i j else pS i j)) H
 |_,.ref p=>(∃ o,ng H p x o/\Q (.bl (if neg then !o.isSome else o.isSome)) H)\/IX K neg x y H Q
 |_,_=>False
theorem Gq{X:Cx}(hu:X.A.units+64<cLine):cy X (compareOp .In) (KG X.K false):=by
 intro pins s σ H x y v u Q I rx ry h;unfold KG at h;split at h
 ·exact ZM pins s σ H _ _ v u Q I rx ry ⟨_,_,rfl,rfl,h⟩
 ·rcases h with⟨o,g,q⟩|h
  ·cases ry;exact aH' (by lia) I g rx fun s3 I3=>⟨.bl o.isSome,H,I3,rfl,q⟩
  ·exact az' pins s σ H _ _ v u Q I rx ry h
 ·exact h.elim
theorem ay.upd(h:ay H H')(hp:H' p=none):ay H (upd H' p o):=fun b u e=>by have e':=h b u e;rw[eS (si e' hp)];exact e'
theorem ay.lst{K:PySem.W.Frag}(e:ay H H')(h:dk K H a xs):dk K H' a xs:=e.seq h
theorem ay.tup{K:PySem.W.Frag}(e:ay H H')(h:gI K H a xs):gI K H' a xs:=by
 rcases h with(h|⟨o,h⟩)|h
 ·exact .inl (.inl (e _ _ h))
 ·exact .inl (.inr ⟨o,e _ _ h⟩)
 ·exact .inr h
mutual
theorem Rep.same{K:PySem.W.Frag}(s:ay H H'):∀ {d:PyData} {v:V},Rep K H d v->Rep K H' d v
 |_,_,.none=>.none
 |_,_,.bool b=>.bool b
 |_,_,.int i=>.int i
 |_,_,.str x=>.str x
 |_,_,.list h hs=>.list (s.lst h) (aS.same s hs)
 |_,_,.tuple h hs=>.tuple (s.tup h) (aS.same s hs)
theorem aS.same{K:PySem.W.Frag}(s:ay H H'):∀ {ds:List PyData} {vs:List V},aS K H ds vs->aS K H' ds vs
 |_,_,.nil=>.nil
 |_,_,.cons h hs=>.cons (Rep.same s h) (aS.same s hs)
end
theorem dk.new{K:PySem.W.Frag}:dk K (upd H p (.lst xs)) p xs:=.inl (.inl gg)
theorem gI.new{K:PySem.W.Frag}:gI K (upd H p (.tup xs)) p xs:=.inl (.inl gg)
section
variable {X:Cx}{K:PySem.W.Frag}
theorem UZ(hK:X.K=K:=by rfl):pz X (Ki K):=by subst hK;exact CK
theorem fm(hu:X.A.units+64<cLine)(hK:X.K=K:=by rfl):cy X (compareOp .Eq) (Kk K):=by subst hK;exact GJ hu
theorem xo(hu:X.A.units+64<cLine)(hK:X.K=K:=by rfl):cy X (compareOp .NotEq) (Kn K):=by subst hK;exact GK hu
theorem gS(hu:X.A.units+64<cLine)(hK:X.K=K:=by rfl):cy X (compareOp .In) (KG K false):=by subst hK;exact Gq hu
theorem KL (hc:X.calm=true:=by rfl) (hK:X.K=K:=by rfl):h8 X (.builtin "all") (Kx K):=by subst hK;exact zq hc
end
theorem Nx{α:Type}{a:α}{p:α->Prop}:(∃ v,a=v/\p v)↔p a:=⟨fun⟨_,e,h⟩=>e ▸ h,fun h=>⟨a,rfl,h⟩⟩
end L2
namespace L2
open PySem PySem.Spec PyProof.Rows
abbrev Pw:=Array DictEntry
def oz(h:Heap)(d:Addr)(es:Pw)(ep:Nat):Prop:=∃ o,h.get? d=some o/\o.ExactDict/\o.data=.dict es ep
theorem oz.typ {s:Shared} {d:Addr} {es:Pw} {ep:Nat} (x:oz s.heap d es ep):s.TypeIs (.ref d) "dict" := let ⟨o,e,c,_⟩:=x;⟨o,e,c.1⟩
section
variable {prog:Program}{w:World}{A:Around}{E:Value->Shared->Prop}{s:Shared}{d it:Addr}{es:Pw}{ep i:Nat}
theorem Bu{Q:Value->Shared->Prop}(lo:(d == sysModules)=false)(x:oz s.heap d es ep)(q:Q (.ref s.heap.objs.size) { s with heap:=s.heap.push { cls:=.type "dict_keyiterator",data:=.fields #[.ref d,.int 0 0,.int es.size 0,.int ep 0] } }):wpAny (model prog w) A (pyIter (.ref d)) Q E s:=by
 obtain⟨o,ho,hc,KP⟩:=id x;refine wpAny_pyIter_slot x.typ F.slot_dict_iter (wpAny_call_entry F.slot_dict_iter x.typ F.entry_dict_iter ?_ (F.args_dict_iter_1 _));unfold Builtin.«dict.__iter__»;refine bS ?_;unfold Builtin.Dict.dictSlotNone;refine bS (wpAny_notOrdered_dict x.typ ?_);refine(show wpAny _ _ (pure (Value.ref d)) _ _ s from dv ?_);refine(show wpAny _ _ (Builtin.Dict.showsAll d >>= _) _ _ s from ?_);unfold Builtin.Dict.showsAll;rw[if_neg (by rw[lo];decide)];refine bS (dv (bS (wpAny_dictEntries ho KP (bS (wpAny_dictEpoch ho KP (bS (wpAny_newObj_type (dv ⟨_,rfl, "dict_keyiterator",_,⟨_,pd _ rfl,rfl⟩,F.slot_dict_keyiterator_next.lookup,?_⟩))))))));simpa[rawInt] using q
theorem Bw(hit:s.heap.IsKeyIter it d i es.size ep)(x:oz s.heap d es ep)(hx:i<es.size)(q:∀ h',h'.IsKeyIter it d (i+1) es.size ep->Heap.SameBut it s.heap h'->Q (some es[i].key) { s with heap:=h' }):wpAny (model prog w) A (pyNext (.ref it)) Q E s:=by
 obtain⟨o,ho,hc,hd⟩:=id hit;obtain⟨od,AA,jI,EE⟩:=id x;have ty:=hit.typeIs;unfold pyNext;refine bS (wpAny_attempt (wpAny_callSpecial?_slot (name:=Str.ofString "__next__") ty F.slot_dict_keyiterator_next (wpAny_call_entry F.slot_dict_keyiterator_next ty F.entry_dict_keyiterator_next ?_ (F.args_dict_keyiterator_next_1 _))));refine bS (dv (bS (bS ?_)));first|refine bS (wpAny_typeNameOfWhole_keyiter ty (dv ?_))|refine bS (wpAny_typeNameOf_keyiter ty (dv ?_))
 refine bS (wpAny_fieldsOf ho hd ?_);simp only[show Builtin.Dict_items.ownsTuple "dict_keyiterator" = false by decide,GW,if_false];refine(show wpAny _ _ (if (Value.ref d == Value.none)=true then _ else _) _ _ s from ?_);rw[if_neg (show ¬ ((Value.ref d == Value.none)=true) by intro h;cases h)];refine bS (dv (bS (wpAny_dictEntries AA EE ?_)));rw[if_neg (by intro h;simp at h)];refine bS (dv (bS (wpAny_dictEpoch AA EE ?_)));rw[if_neg (by intro h;simp at h)];refine dv ?_;simp only[show ¬ ((i:Int)<0) by lia,if_false,Int.toNat_natCast,Array.getElem?_eq_getElem hx];refine bS ?_;first|refine bS (wpAny_typeNameOfWhole_keyiter ty (dv ?_))|refine bS (wpAny_typeNameOf_keyiter ty (dv ?_))
 refine bS (wpAny_isOneOf_keyiter ty ?_);refine(show wpAny _ _ (setField (.ref it) 1 (rawInt ((i:Int)+1)) >>= _) _ _ s from bS (wpAny_setField ho hd (by simp) ?_));have U0:(s.heap.update it (Obj.mapFields (·.setIfInBounds 1 (rawInt ((i:Int)+1))))).IsKeyIter it d (i+1) es.size ep :=
  ⟨_,Heap.get?_update_self _ ho (Obj.isFreed_of_fields (Obj.data_mapFields hd _)),(Obj.cls_mapFields ..).trans hc,by rw[Obj.data_mapFields hd];simp[rawInt]⟩
 refine bS (wpAny_holding (bS (wpAny_isOneOf_keyiter (s:={ s with heap:=s.heap.update it (Obj.mapFields (·.setIfInBounds 1 (rawInt ((i:Int)+1)))) }) U0.typeIs ?_)));refine(show wpAny _ _ (pure es[i].key) _ _ _ from dv (dv ⟨_,rfl,dv (q _ U0 (Heap.SameBut.update ..))⟩))
theorem Cg(hh:A.handled=none)(hit:s.heap.IsKeyIter it d es.size es.size ep)(x:oz s.heap d es ep)(q:∀ h',Heap.ExtBut it s.heap h'->Q none { s with heap:=h' }) :
  wpAny (model prog w) A (pyNext (.ref it)) Q E s:=by
 obtain⟨o,ho,hc,hd⟩:=id hit;obtain⟨od,AA,jI,EE⟩:=id x;have ty:=hit.typeIs;unfold pyNext;refine bS (wpAny_attempt (wpAny_callSpecial?_slot (name:=Str.ofString "__next__") ty F.slot_dict_keyiterator_next (wpAny_call_entry F.slot_dict_keyiterator_next ty F.entry_dict_keyiterator_next ?_ (F.args_dict_keyiterator_next_1 _))));refine bS (dv (bS (bS ?_)));first|refine bS (wpAny_typeNameOfWhole_keyiter ty (dv ?_))|refine bS (wpAny_typeNameOf_keyiter ty (dv ?_))
 refine bS (wpAny_fieldsOf ho hd ?_);simp only[show Builtin.Dict_items.ownsTuple "dict_keyiterator" = false by decide,GW,if_false];refine(show wpAny _ _ (if (Value.ref d == Value.none)=true then _ else _) _ _ s from ?_);rw[if_neg (show ¬ ((Value.ref d == Value.none)=true) by intro h;cases h)];refine bS (dv (bS (wpAny_dictEntries AA EE ?_)));rw[if_neg (by intro h;simp at h)];refine bS (dv (bS (wpAny_dictEpoch AA EE ?_)));rw[if_neg (by intro h;simp at h)];refine dv ?_;simp only[show ¬ ((es.size:Int)<0) by lia,if_false,Int.toNat_natCast,He (cK es.size)];refine bS ?_;first|refine bS (wpAny_typeNameOfWhole_keyiter ty (dv ?_))|refine bS (wpAny_typeNameOf_keyiter ty (dv ?_))
 refine(show wpAny _ _ (setField (.ref it) 0 .none >>= _) _ _ s from bS (wpAny_setField ho hd (by simp) ?_));refine(show wpAny _ _ (newExc (.type "StopIteration") [] >>= _) _ _ _ from bS ?_);simp only[newExc,newTuple];refine bS (wpAny_newObj_type ?_ (by size_fits));refine bS (m:=firstArgMember _ _) (wpAny_of_eq (a:=Value.none) (by first|rfl|(simp only[firstArgMember];rfl)) (wpAny_newObj_type ?_ (by size_fits)));simp only[raiseNew];refine bS (wpAny_handled ?_);rw[show A.in1.handled=none from hh];refine bS (dv (wpAny_throw ?_));refine bS (wpAny_isInstance (b:=true) (T := "StopIteration") ⟨_,pd _ rfl,rfl⟩ isSubtype_stop ?_);exact dv (q _ (((Heap.SameBut.update ..).extBut.push _).push _))
theorem oz.at(x:oz h d es ep)(e:∀ o,h.get? d=some o->h'.get? d=some o):oz h' d es ep:=let ⟨o,ho,r⟩:=x;⟨o,e o ho,r⟩
theorem oz.lt(x:oz h d es ep):d<h.objs.size:=let ⟨_,e,_⟩:=x;eR e
theorem yO(hh:A.handled=none)(I:Addr)(sN:d≠I):Walks prog w A I [I,d] [I] es.size (fun i v=>∃ e,es[i]? = some e/\v=e.key) (fun i h=>h.IsKeyIter I d i es.size ep/\oz h d es ep) where
 sub:=fun b hb=>by simp at hb;simp[hb]
 frame:=fun _ _ _ st hk=>⟨st.1.at fun o e=>hk I (by simp) o e,st.2.at fun o e=>hk d (by simp) o e⟩
 item:=fun i s Q E hi st hQ=>Bw st.1 st.2 hi fun h' a b=>hQ _ h' s.toks ⟨es[i],by simp[hi],rfl⟩ ⟨a,st.2.at fun o e=>b.extBut d o sN e⟩ fun c o hb e=>b.extBut c o (fun h=>hb (by simp[h])) e
 done:=fun s Q E st hQ=>Cg hh st.1 st.2 fun h' he'=>hQ h' s.toks fun b o hb e=>he' b o (fun h=>hb (by simp[h])) e
 self:=fun _ _ _ _ st hQ=>wpAny_pyIter_keyiter st.1 hQ
theorem Dq (lo:(d == sysModules)=false):PySem.W.KdlSrc prog w "dict" d d es.size (fun i v=>∃ e,es[i]? = some e/\v=e.key) (fun h=>oz h d es ep) where
 type:=fun _ x=>x.typ
 there:=fun _ x=>⟨x.lt,x.lt⟩
 keep:=fun _ _ x hk=>x.at fun o e=>hk d (.inl rfl) o e
 notList:=by decide
 notTuple:=by decide
 hint:=fun _ _ _ _ x hq=>PySem.W.kdl_hint_dict x.typ hq
 iter:=fun _ _ hh x=>⟨_,_,(fun _ _ hq=>Bu lo x hq),yO hh _ (i3 x.lt),⟨⟨_,pd _ rfl,rfl,rfl⟩,x.at fun o e=>jv _ e⟩⟩
end
theorem Paired.n0{α β:Type}{R:α->β->Prop}{bs:List β}(h:Paired R [] bs):bs=[]:=by cases h;rfl
theorem Paired.c{α β:Type}{R:α->β->Prop}{a:α}{as:List α}{bs:List β}(h:Paired R (a :: as) bs):∃ b cs,bs=b :: cs/\R a b/\Paired R as cs:=by
 cases h with
 |cons r t=>exact⟨_,_,rfl,r,t⟩
def kY(H:Hp)(ys:List V)(ks:List (List Key)):Prop:=Paired (fun(v:V) (k:List Key)=>∃ b,v=.ref b/\H b=some (.tup (k.map kV))) ys ks
section
variable {X:Cx}
def wW:List V->Hp->VK->Prop:=fun xs H Q=>match xs with
 |[.ref p]=>∃ ah,Rd H p (.dT ah)/\∀ ys l,kY H ys (ah.map (·.1))->H l=none->Q (.ref l) (upd H l (.lst ys))
 |_=>False
theorem Ef (h:Paired (fun(p:List Key × V) (q:List Key × Addr × Value)=>p.1=q.1/\H q.2.1=some (.tup (p.1.map kV))/\RelV p.2 q.2.2) ah xs) :
  kY H (xs.map fun q=>.ref q.2.1) (ah.map (·.1))/\Vals (xs.map fun q=>.ref q.2.1) ((xs.map (entryOfKey (tupleKind (qE prog w)))).map (·.key)):=by
 induction h with
 |nil=>exact⟨.nil,.nil⟩
 |cons r t ih=>exact⟨.cons ⟨_,rfl,r.2.1⟩ ih.1,.cons rfl ih.2⟩
theorem yh (hc:X.calm=true):h8 X (.type "list") wW:=by
 intro pins s σ H xs us Q I r h;unfold wW at h;split at h
 ·rename_i p;obtain⟨ah,e,q⟩:=h;obtain⟨u,rfl,ru⟩:=Vals.one r;cases ru;obtain⟨z,y,ps,rel,o,es,ep,h1,h2,h3,h4,h5⟩:=(show fw X.prog X.w H s.heap p (.dT ah) from I.rd e)
  obtain⟨ta,va⟩:=Ef (prog:=X.prog) (w:=X.w) rel;have hlen:es.size=ah.length:=by have:=congrArg List.length h4;rw[tv,da] at this;rw[this];exact rel.length.symm
  refine PySem.W.kdl_call (Dq (es:=es) (ep:=ep) y) (I.ok.hd hc) ⟨o,h1,h2,h3⟩ (by lia) fun h' tk acc c kp eo Px=>?_;have hv:acc.toList=(ps.map (entryOfKey (tupleKind (qE X.prog X.w)))).map (·.key):=by
   apply List.ext_getElem?;intro i;by_cases hi:i<es.size
   ·have KS:i<acc.size:=by rw[Px.1];exact hi
    obtain⟨en,e1,e2⟩:=Px.2 i acc[i] (by simp[KS]);rw[<- h4,vj,DE,DE,e1];simp[KS,e2]
   ·rw[<- h4,vj,DE,DE,He (by rw[Px.1];lia),He (by lia)];rfl
  refine⟨.ref s.heap.objs.size,_,I.laid (t':=tk) kp (cK _) (show fw X.prog X.w _ h' _ (.lst (ps.map fun q=>.ref q.2.1)) from⟨?_,acc.toList,c,?_,?_⟩),rfl,q _ _ ta (I.aE.fresh (cK _))⟩
  ·rw[da,<- rel.length];exact z
  ·rw[hv];exact va
  ·rw[Array.toArray_toList];exact eo
 ·exact h.elim
end
end L2
namespace EF
open PySem PyProof.Rows
def R(r:Value->Int)(xs:Array Keyed)(i:Nat):Int:=match xs[i]? with
 |some p=>r p.1
 |none=>0
theorem vp(h:xs[i]? = ys[j]?):R r xs i=R r ys j:=by unfold R;rw[h]
def Cmp(prog:Program)(w:World)(A:Around)(s:Shared)(κ:SortKind)(r:Value->Int)(P:Value->Prop):Prop :=
 ∀ x y,P x->P y->∀ (Q:Bool->Shared->Prop) (E:Value->Shared->Prop),Q (decide (r x<r y)) s->wpAny (model prog w) A (keyLt' κ x y) Q E s
def AllP(P:Value->Prop)(xs:Array Keyed):Prop:=∀ p∈xs.toList,P p.1
theorem AllP.perm{P:Value->Prop}(h:AllP P xs)(hp:ys.Perm xs):AllP P ys:=fun p hm=>h p ((Array.perm_iff_toList_perm.mp hp).mem_iff.mp hm)
theorem AllP.at{P:Value->Prop}{xs:Array Keyed}(h:AllP P xs){i:Nat}{p:Keyed}(e:xs[i]? = some p):P p.1:=h p (by
 obtain⟨hi,rfl⟩:=DC.mp e;simp)
structure sP(lo hi:Nat)(st hW:SortSt):Prop where
 kind:kindOf hW=kindOf st
 failed:failedOf hW=failedOf st
 pend:pendingOf hW=pendingOf st
 perm:(arrOf hW).Perm (arrOf st)
 out:∀ k,k<lo\/hi<=k->(arrOf hW)[k]? = (arrOf st)[k]?
theorem sP.refl(lo hi:Nat)(st:SortSt):sP lo hi st st:=⟨rfl,rfl,rfl,Array.Perm.refl _,fun _ _=>rfl⟩
theorem sP.trans{lo hi:Nat}{a b c:SortSt}(h:sP lo hi a b)(g:sP lo hi b c):sP lo hi a c :=
 ⟨g.kind.trans h.kind,g.failed.trans h.failed,g.pend.trans h.pend,g.perm.trans h.perm,fun k hk=>(g.out k hk).trans (h.out k hk)⟩
theorem sP.mono{lo hi U1 ub:Nat}{a b:SortSt}(h:sP lo hi a b)(h1:U1<=lo)(h2:hi<=ub):sP U1 ub a b :=
 ⟨h.kind,h.failed,h.pend,h.perm,fun k hk=>h.out k (by lia)⟩
theorem sP.size{lo hi:Nat}{a b:SortSt}(h:sP lo hi a b):(arrOf b).size=(arrOf a).size:=h.perm.size_eq
def Up(r:Value->Int)(xs:Array Keyed)(lo hi:Nat):Prop:=∀ i j,lo<=i->i<=j->j<hi->R r xs i<=R r xs j
def zX:Bool->Keyed->Array Keyed->Nat->Nat->Nat->StateT SortSt Sem (Option Nat):=sortPriv% PySem.Builtin.gallop
abbrev Le(r:Value->Int)(x y:Keyed):Prop:=r x.1<=r y.1
structure MI(r:Value->Int)(a b out:Array Keyed)(ia ib:Nat):Prop where
 ha:ia<=a.size
 hb:ib<=b.size
 perm:out.toList.Perm (a.toList.take ia++b.toList.take ib)
 up:out.toList.Pairwise (Le r)
 la:∀ x∈out.toList,∀ i,ia<=i->i<a.size->r x.1<=R r a i
 lb:∀ x∈out.toList,∀ j,ib<=j->j<b.size->r x.1<=R r b j
section
variable {r:Value->Int}{a b out:Array Keyed}
def Dg(r:Value->Int)(a b out:Array Keyed):Prop:=out.toList.Perm (a.toList++b.toList)/\out.toList.Pairwise (Le r)
theorem MI.whole(M:MI r a b out a.size b.size):Dg r a b out:=by refine⟨?_,M.up⟩;have h:=M.perm;rw[zi (by simp),zi (by simp)] at h;exact h
theorem MI.start(hA:Up r a 0 a.size)(hB:Up r b 0 b.size):MI r a b #[] 0 0:=⟨i5 _,i5 _,by simp,by simp,fun x hx=>by simp at hx,fun x hx=>by simp at hx⟩
end
def rG:Nat->StateT SortSt Sem Unit:=sortPriv% PySem.Builtin.setMinGallop
def Mg(st hW:SortSt):Prop:=∃ g,hW=SortSt.mk' (kindOf st) (arrOf st) (pendingOf st) g (failedOf st)
theorem Mg.refl(st:SortSt):Mg st st:=⟨gallopOf st,rfl⟩
theorem Mg.kind{st hW:SortSt}(h:Mg st hW):kindOf hW=kindOf st:=by obtain⟨g,rfl⟩:=h;rfl
theorem Mg.set{st hW:SortSt}(h:Mg st hW)(g:Nat):Mg st (SortSt.mk' (kindOf hW) (arrOf hW) (pendingOf hW) g (failedOf hW)):=by obtain⟨g',rfl⟩:=h;exact⟨g,rfl⟩
theorem Mg.trans{a b c:SortSt}(h:Mg a b)(g:Mg b c):Mg a c:=by obtain⟨x,rfl⟩:=h;obtain⟨y,rfl⟩:=g;exact⟨y,rfl⟩
abbrev SM:=StateT SortSt Sem
section
variable {prog:Program}{w:World}{A:Around}{s:Shared}{κ:SortKind}{r:Value->Int}{P:Value->Prop}{a b:Array Keyed}
structure MC(prog:Program)(w:World)(A:Around)(s:Shared)(κ:SortKind)(r:Value->Int)(P:Value->Prop)(a b:Array Keyed):Prop where
 C:Cmp prog w A s κ r P
 pa:AllP P a
 pb:AllP P b
 hA:Up r a 0 a.size
 hB:Up r b 0 b.size
 hl:∀ i,i<a.size->R r b 0<=R r a i
 hg:∀ j,j<b.size->R r b j<=R r a (a.size-1)
end
abbrev Ge(r:Value->Int)(x y:Keyed):Prop:=r y.1<=r x.1
structure MH(r:Value->Int)(a b out:Array Keyed)(na nb:Nat):Prop where
 ha:na<=a.size
 hb:nb<=b.size
 perm:out.toList.Perm (a.toList.drop na++b.toList.drop nb)
 down:out.toList.Pairwise (Ge r)
 ga:∀ x∈out.toList,∀ i,i<na->R r a i<=r x.1
 gb:∀ x∈out.toList,∀ j,j<nb->R r b j<=r x.1
section
variable {r:Value->Int}{a b out:Array Keyed}
theorem MH.whole(M:MH r a b out 0 0):Dg r a b out.reverse:=by
 refine⟨?_,?_⟩
 ·have h:=M.perm;rw[GV,GV] at h;rw[Array.toList_reverse];exact(List.reverse_perm _).trans h
 ·rw[Array.toList_reverse,List.pairwise_reverse];exact M.down
theorem MH.start:MH r a b #[] a.size b.size:=⟨cK _,cK _,by simp,by simp,fun x hx=>by simp at hx,fun x hx=>by simp at hx⟩
end
abbrev S3:=Option (Array Keyed) × Nat × Nat × Array Keyed × Nat × Nat × Nat
def EG(a b out:Array Keyed)(na nb:Nat):Array Keyed:=a.extract 0 na++b.extract 0 nb++out.reverse
def U2(a b out:Array Keyed)(na nb:Nat):Array Keyed:=b.extract 0 nb++a.extract 0 na++out.reverse
def U3(a b:Array Keyed)(mg ac bc na nb:Nat)(out:Array Keyed):SM (ForInStep S3):=elem' a (na-1) >>= fun p =>
 if (na-1 == 0)=true then pure (.done (some (EG a b (out.push p) (na-1) nb),na-1,nb,out.push p,mg,ac,bc))
 else if (decide (ac<7) && decide (bc<7))=true then pure (.done (none,na-1,nb,out.push p,mg,ac,bc)) else pure (.yield (none,na-1,nb,out.push p,mg,ac,bc))
def KS(a b:Array Keyed)(mg ac bc na nb:Nat)(out:Array Keyed):SM (ForInStep S3):=elem' a (na-1) >>= fun p=>zX true p b 0 nb (nb-1) >>= fun x=>match x with
 |some k=>if nb-k>0 then
   if (k == 1)=true then pure (.done (some (U2 a b (out++(b.extract k nb).reverse) na k),na,k,out++(b.extract k nb).reverse,mg,ac,nb-k))
   else if (k == 0)=true then pure (.done (some (EG a b (out++(b.extract k nb).reverse) na k),na,k,out++(b.extract k nb).reverse,mg,ac,nb-k))
   else U3 a b mg ac (nb-k) na k (out++(b.extract k nb).reverse)
  else U3 a b mg ac (nb-k) na nb out
 |_=>pure (.done (some (EG a b out na nb),na,nb,out,mg,ac,bc))
def U4(a b:Array Keyed)(mg ac bc na nb:Nat)(out:Array Keyed):SM (ForInStep S3):=elem' b (nb-1) >>= fun p =>
 if (nb-1 == 1)=true then pure (.done (some (U2 a b (out.push p) na (nb-1)),na,nb-1,out.push p,mg,ac,bc)) else KS a b mg ac bc na (nb-1) (out.push p)
def KW(a b:Array Keyed)(mg ac bc na nb:Nat)(out:Array Keyed):SM (ForInStep S3):=rG mg >>= fun _=>elem' b (nb-1) >>= fun p=>zX false p a 0 na (na-1) >>= fun x=>match x with
 |some k=>if na-k>0 then
   if (k == 0)=true then pure (.done (some (EG a b (out++(a.extract k na).reverse) k nb),k,nb,out++(a.extract k na).reverse,mg,na-k,bc))
   else U4 a b mg (na-k) bc k nb (out++(a.extract k na).reverse)
  else U4 a b mg (na-k) bc na nb out
 |_=>pure (.done (some (EG a b out na nb),na,nb,out,mg,ac,bc))
def wr(p:Nat)(m:List Keyed)(n:Nat)(xs:Array Keyed):Array Keyed:=(m.zipIdx n).foldl (fun a (q:Keyed × Nat)=>a.setIfInBounds (p+q.2) q.1) xs
def Runs(r:Value->Int)(xs:Array Keyed):List (Nat × Nat × Nat)->Nat->Nat->Prop
 |[],a,b=>a=b
 | (s,n,_) :: rest,a,b=>s=a/\1<=n/\Up r xs s (s+n)/\Runs r xs rest (s+n) b
section
variable {r:Value->Int}{xs ys:Array Keyed}
theorem Runs.le:∀ {ps:List (Nat × Nat × Nat)} {a b:Nat},Runs r xs ps a b->a+ps.length<=b
 |[],a,b,h=>by simp only[Runs] at h;simp;lia
 | (s,n,p) :: rest,a,b,h=>by obtain⟨rfl,h1,_,h3⟩:=h;have:=Runs.le h3;simp only[ox];lia
theorem Runs.append:∀ {ps qs:List (Nat × Nat × Nat)} {a b:Nat},Runs r xs (ps++qs) a b↔∃ c,Runs r xs ps a c/\Runs r xs qs c b
 |[],qs,a,b=>by simp[Runs]
 | (s,n,p) :: rest,qs,a,b=>by
  simp only[vk,Runs];constructor
  ·rintro⟨h1,h2,h3,h4⟩;obtain⟨c,h5,h6⟩:=Runs.append.mp h4;exact⟨c,⟨h1,h2,h3,h5⟩,h6⟩
  ·rintro⟨c,⟨h1,h2,h3,h5⟩,h6⟩;exact⟨h1,h2,h3,Runs.append.mpr ⟨c,h5,h6⟩⟩
theorem Up.congr(h:Up r xs a b)(e:∀ k,a<=k->k<b->ys[k]? = xs[k]?):Up r ys a b:=fun i j h1 h2 h3=>by rw[vp (e i h1 (by lia)),vp (e j (by lia) h3)];exact h i j h1 h2 h3
theorem Runs.congr:∀ {ps:List (Nat × Nat × Nat)} {a b:Nat},Runs r xs ps a b->(∀ k,a<=k->k<b->ys[k]? = xs[k]?)->Runs r ys ps a b
 |[],a,b,h,_=>h
 | (s,n,p) :: rest,a,b,h,e=>by obtain⟨rfl,h1,h2,h3⟩:=h;have l:=h3.le;exact⟨rfl,h1,h2.congr fun k u v=>e k u (by lia),Runs.congr h3 fun k u v=>e k (by walk_at "s4") v⟩
end
section
variable {κ:SortKind}{r:Value->Int}{P:Value->Prop}
theorem AllP.extract(h:AllP P xs)(i j:Nat):AllP P (xs.extract i j):=fun p hp=>h p (by
 rw[Array.toList_extract,List.extract_eq_drop_take] at hp;exact CH (CL hp))
theorem uo(h:i+k<j)(hj:j<=xs.size):R r (xs.extract i j) k=R r xs (i+k):=by apply vp;rw[NM,if_pos (by lia)]
theorem Up.extract(h:Up r xs i j)(Py:i<=j)(hj:j<=xs.size):Up r (xs.extract i j) 0 (xs.extract i j).size:=fun a b _ h2 h3=>by
 have e:(xs.extract i j).size=j-i:=by simp only[Array.size_extract];lia
 rw[e] at h3;rw[uo (by lia) hj,uo (by lia) hj];exact h _ _ (by lia) (by lia) (by lia)
structure St(r:Value->Int)(κ:SortKind)(K0:Array Keyed)(st:SortSt)(ps:List (Nat × Nat × Nat))(lo:Nat):Prop where
 kind:kindOf st=κ
 failed:failedOf st=none
 perm:(arrOf st).Perm K0
 pend:pendingOf st=ps.toArray
 runs:Runs r (arrOf st) ps 0 lo
theorem St.size{K0:Array Keyed}{st:SortSt}{ps:List (Nat × Nat × Nat)}{lo:Nat}(h:St r κ K0 st ps lo):(arrOf st).size=K0.size:=h.perm.size_eq
end
end EF
namespace L2
open PySem PySem.Spec PyProof.Rows
def Pz:Key->Key->Bool
 |.inl i,.inl j=>decide (i<j)
 |.inr x,.inr y=>yA x y
 |_,_=>false
def U5:List Key->List Key->Bool
 |a :: as,b :: bs=>if a=b then U5 as bs else Pz a b
 |_,_=>false
def PB:Key->Bool
 |.inl _=>true
 |.inr _=>false
def bw'(k:List Key):List Bool:=k.map PB
theorem oh{x y:Str}(h:x.cps.toList=y.cps.toList):x=y:=by cases x;cases y;simp only at h;rw[Array.toList_inj.mp h]
def PC:V->Option Key
 |.int i=>some (.inl i)
 |.str x=>some (.inr x)
 |_=>none
theorem JT(k:Key):PC (kV k)=some k:=by cases k<;>rfl
theorem Cy:∀ k:List Key,(k.map kV).filterMap PC=k
 |[]=>rfl
 |a :: as=>by rw[hV,sd,JT,Cy as]
def Bd(H:Hp):Value->List Key
 |.ref b=>match H b with
  |some (.tup xs)=>xs.filterMap PC
  |_=>[]
 |_=>[]
theorem xF(h:H b=some (.tup (k.map kV))):Bd H (.ref b)=k:=by simp only[Bd,h];exact Cy k
section
variable {X:Cx}{pins:List (Addr × Obj)}{σ:St}{H:Hp}{s:Shared}
theorem Inv.tup(I:Inv X pins σ H s)(h:H b=some (.tup xs)):∃ its:List Value,Vals xs its/\IsTup s.heap b its.toArray:=(I.aE b _ h).2
end
theorem kY.mem(h:kY H ys ks)(y:V)(hy:y∈ys):∃ b k,y=.ref b/\H b=some (.tup (k.map kV))/\k∈ks:=by
 induction ys generalizing ks with
 |nil=>cases hy
 |cons z ys ih =>
  obtain⟨k,ks,rfl,⟨b,rfl,g⟩,t⟩:=Paired.c h;rcases eK.mp hy with rfl|hy
  ·exact⟨b,_,rfl,g,fo⟩
  ·obtain⟨b,k,e,g,m⟩:=ih t hy;exact⟨b,k,e,g,dz _ m⟩
theorem kY.keys(h:kY H ys ks)(hv:Vals ys vs):vs.map (Bd H)=ks/\∀ v∈vs,∃ b k,v=.ref b/\H b=some (.tup (k.map kV))/\k∈ks:=by
 induction ys generalizing ks vs with
 |nil=>rw[Paired.n0 hv,show ks=[] from Paired.n0 h];exact⟨rfl,by simp⟩
 |cons y ys ih =>
  obtain⟨k,ks,rfl,⟨b,rfl,g⟩,t⟩:=Paired.c h;obtain⟨v,vs,rfl,rfl,rs⟩:=Paired.c hv;obtain⟨e,m⟩:=ih t rs;refine⟨by rw[hV,xF g,e],fun v hv=>?_⟩;rcases eK.mp hv with rfl|hv
  ·exact⟨b,k,rfl,g,fo⟩
  ·obtain⟨b',k',e1,e2,e3⟩:=m v hv;exact⟨b',k',e1,e2,dz _ e3⟩
theorem kY.of{H:Hp}{ks:List (List Key)}(vs:List Value)(h:∀ v∈vs,∃ b k,v=Value.ref b/\H b=some (.tup (k.map kV))/\k∈ks):∃ zs,kY H zs (vs.map (Bd H))/\Vals zs vs:=by
 induction vs with
 |nil=>exact⟨[],.nil,.nil⟩
 |cons v vs ih =>obtain⟨zs,a,c⟩:=ih fun u hu=>h u (dz _ hu);obtain⟨b,k,rfl,e,_⟩:=h v fo;exact⟨.ref b :: zs,.cons ⟨b,rfl,by rw[xF e];exact e⟩ a,.cons rfl c⟩
end L2
namespace EF
open PySem PyProof.Rows
end EF
namespace L2
open PySem PySem.Spec PyProof.Rows
end L2
namespace L2.Q
open PySem PySem.Spec PyProof.Rows
inductive D where
 |non|bl (b:Bool)|int (i:Int)|str (x:Str)
 |list (xs:List D)|tup (xs:List D)|dK (ah:List (Key × D))|dT (ah:List (List Key × D))
mutual
/-- nothing in it can be changed -/
def D.flat:D->Bool
 |.list _=>false
 |.dK _=>false
 |.dT _=>false
 |.tup xs=>ck xs
 |_=>true
def ck:List D->Bool
 |[]=>true
 |x :: xs=>x.flat && ck xs
end
theorem uE:∀ {xs:List D},ck xs=true↔∀ x∈xs,x.flat=true
 |[]=>by simp[ck]
 |x :: xs=>by simp[ck,uE (xs:=xs)]
theorem iQ:ck (xs++ys)=(ck xs && ck ys):=by
 induction xs with
 |nil=>simp[ck]
 |cons x xs ih=>simp[ck,ih,Bool.and_assoc]
def EH:Key->Bool
 |.inl _=>true
 |.inr x=>decide (x.length<=sizeLine)
def K2(ah:List (Key × D)):Prop:=ah.length<=sizeLine/\∀ p∈ah,EH p.1=true
def Lc(ah:List (List Key × D)):Prop:=ah.length<=sizeLine/\∀ p∈ah,p.1.length<=sizeLine/\∀ k∈p.1,EH k=true
mutual
inductive Rep(K:PySem.W.Frag)(H:Hp):D->V->Prop
 |non:Rep K H .non .non
 |bl (b:Bool):Rep K H (.bl b) (.bl b)
 |int (i:Int):Rep K H (.int i) (.int i)
 |str {x:Str}:x.length<=sizeLine->Rep K H (.str x) (.str x)
 |list {a:Addr} {vs:List V} {ds:List D}:vs.length<=sizeLine->dk K H a vs->aS K H ds vs->Rep K H (.list ds) (.ref a)
 |tup {a:Addr} {vs:List V} {ds:List D}:vs.length<=sizeLine->H a=some (.tup vs)->aS K H ds vs->Rep K H (.tup ds) (.ref a)
 |dK {a:Addr} {vs:List V} {ah:List (Key × D)}:K2 ah->Rd H a (.dK ((ah.map (·.1)).zip vs))->aS K H (ah.map (·.2)) vs->Rep K H (.dK ah) (.ref a)
 |dT {a:Addr} {vs:List V} {ah:List (List Key × D)}:Lc ah->Rd H a (.dT ((ah.map (·.1)).zip vs))->aS K H (ah.map (·.2)) vs->Rep K H (.dT ah) (.ref a)
inductive aS(K:PySem.W.Frag)(H:Hp):List D->List V->Prop
 |nil:aS K H [] []
 |cons {d:D} {v:V} {ds:List D} {vs:List V}:Rep K H d v->aS K H ds vs->aS K H (d :: ds) (v :: vs)
end
theorem Rep.ind{K:PySem.W.Frag}{H:Hp}{m1:D->V->Prop}{m2:List D->List V->Prop}(h0:m1 .non .non)(hb:∀ b,m1 (.bl b) (.bl b))(hi:∀ i,m1 (.int i) (.int i))(hs:∀ x,x.length<=sizeLine->m1 (.str x) (.str x))(hl:∀ a vs ds,vs.length<=sizeLine->dk K H a vs->aS K H ds vs->m2 ds vs->m1 (.list ds) (.ref a)) (ht:∀ a vs ds,vs.length<=sizeLine->H a=some (.tup vs)->aS K H ds vs->m2 ds vs->m1 (.tup ds) (.ref a))(hk:∀ a vs ah,K2 ah->Rd H a (.dK ((ah.map (·.1)).zip vs))->aS K H (ah.map (·.2)) vs->m2 (ah.map (·.2)) vs->m1 (.dK ah) (.ref a)) (hT:∀ a vs ah,Lc ah->Rd H a (.dT ((ah.map (·.1)).zip vs))->aS K H (ah.map (·.2)) vs->m2 (ah.map (·.2)) vs->m1 (.dT ah) (.ref a))(hn:m2 [] []) (hc:∀ d v ds vs,Rep K H d v->aS K H ds vs->m1 d v->m2 ds vs->m2 (d :: ds) (v :: vs)):(∀ {d v},Rep K H d v->m1 d v)/\∀ {ds vs},aS K H ds vs->m2 ds vs :=
 ⟨fun r=>Rep.rec (motive_1:=fun d v _=>m1 d v) (motive_2:=fun ds vs _=>m2 ds vs) h0 hb hi (fun h=>hs _ h) (fun z s r ih=>hl _ _ _ z s r ih) (fun z s r ih=>ht _ _ _ z s r ih) (fun z s r ih=>hk _ _ _ z s r ih) (fun z s r ih=>hT _ _ _ z s r ih) hn (fun r s a b=>hc _ _ _ _ r s a b) r,
  fun r=>aS.rec (motive_1:=fun d v _=>m1 d v) (motive_2:=fun ds vs _=>m2 ds vs) h0 hb hi (fun h=>hs _ h) (fun z s r ih=>hl _ _ _ z s r ih) (fun z s r ih=>ht _ _ _ z s r ih) (fun z s r ih=>hk _ _ _ z s r ih) (fun z s r ih=>hT _ _ _ z s r ih) hn (fun r s a b=>hc _ _ _ _ r s a b) r⟩
theorem ng.k'(e:Rd H a (.dK ah)):ng H a (kV k) (nc ah k):=.inl ⟨ah,k,e,rfl,rfl⟩
theorem ng.t'(e:Rd H a (.dT ah))(eb:H b=some (.tup (k.map kV))):ng H a (.ref b) (nc ah k):=.inr ⟨ah,k,b,e,rfl,eb,rfl⟩
theorem ay.rd(s:ay H H')(h:Rd H a u):Rd H' a u:=h.imp (s _ _) fun⟨o,e⟩=>⟨o,s _ _ e⟩
theorem Rep.Hd{K:PySem.W.Frag}(s:ay H H'):(∀ {d:D} {v:V},Rep K H d v->Rep K H' d v)/\∀ {ds:List D} {vs:List V},aS K H ds vs->aS K H' ds vs :=
 Rep.ind .non .bl .int (fun _ h=>.str h) (fun _ _ _ z h _ ih=>.list z (s.lst h) ih) (fun _ _ _ z h _ ih=>.tup z (s _ _ h) ih) (fun _ _ _ kk h _ ih=>.dK kk (ay.rd s h) ih) (fun _ _ _ kk h _ ih=>.dT kk (ay.rd s h) ih) .nil fun _ _ _ _ _ _ a b=>.cons a b
theorem Rep.same{K:PySem.W.Frag}(s:ay H H')(r:Rep K H d v):Rep K H' d v:=(Rep.Hd s).1 r
theorem aS.same{K:PySem.W.Frag}(s:ay H H')(r:aS K H ds vs):aS K H' ds vs:=(Rep.Hd s).2 r
theorem aS.ind{K:PySem.W.Frag}{H:Hp}{m:List D->List V->Prop}(hn:m [] [])(hc:∀ d v ds vs,Rep K H d v->aS K H ds vs->m ds vs->m (d :: ds) (v :: vs)):∀ {ds vs},aS K H ds vs->m ds vs :=
 fun r=>(Rep.ind (m1:=fun _ _=>True) (m2:=m) trivial (fun _=>trivial) (fun _=>trivial) (fun _ _=>trivial) (fun _ _ _ _ _ _ _=>trivial) (fun _ _ _ _ _ _ _=>trivial) (fun _ _ _ _ _ _ _=>trivial) (fun _ _ _ _ _ _ _=>trivial) hn fun d v ds vs r s _ b=>hc d v ds vs r s b).2 r
theorem aS.length{K:PySem.W.Frag}(r:aS K H ds vs):ds.length=vs.length :=
 aS.ind (m:=fun ds vs=>ds.length=vs.length) rfl (fun _ _ _ _ _ _ ih=>by rw[ox,ox,ih]) r
theorem aS.append{K:PySem.W.Frag}(r:aS K H ds vs)(t:aS K H es ws):aS K H (ds++es) (vs++ws) :=
 aS.ind (m:=fun ds vs=>aS K H (ds++es) (vs++ws)) t (fun _ _ _ _ h _ ih=>.cons h ih) r
theorem aS.get{K:PySem.W.Frag}{H:Hp}{ds:List D}{vs:List V}{i:Nat}{d:D}(r:aS K H ds vs)(e:ds[i]? = some d):∃ v,vs[i]? = some v/\Rep K H d v :=
 aS.ind (m:=fun ds vs=>∀ i d,ds[i]? = some d->∃ v,vs[i]? = some v/\Rep K H d v) (fun i d e=>by simp at e) (fun _ _ _ _ h _ ih i d e=>by
  cases i with
  |zero=>simp at e;subst e;exact⟨_,rfl,h⟩
  |succ i =>
   obtain⟨v,e1,r⟩:=ih i d (by simpa using e);exact⟨v,by simpa using e1,r⟩) r i d e
theorem aS.EI{K:PySem.W.Frag}{H:Hp}{ds:List D}{vs:List V}{i:Nat}{v:V}(r:aS K H ds vs)(e:vs[i]? = some v):∃ d,ds[i]? = some d/\Rep K H d v :=
 aS.ind (m:=fun ds vs=>∀ i v,vs[i]? = some v->∃ d,ds[i]? = some d/\Rep K H d v) (fun i d e=>by simp at e) (fun _ _ _ _ h _ ih i d e=>by
  cases i with
  |zero=>simp at e;subst e;exact⟨_,rfl,h⟩
  |succ i =>
   obtain⟨v,e1,r⟩:=ih i d (by simpa using e);exact⟨v,by simpa using e1,r⟩) r i v e
theorem aS.drop{K:PySem.W.Frag}(n:Nat)(r:aS K H ds vs):aS K H (ds.drop n) (vs.drop n) :=
 aS.ind (m:=fun ds vs=>∀ n,aS K H (ds.drop n) (vs.drop n)) (fun n=>by rw[List.drop_nil,List.drop_nil];exact .nil) (fun _ _ _ _ h hs ih n=>by
  cases n with
  |zero=>exact .cons h hs
  |succ n=>exact ih n) r n
theorem aS.n0{K:PySem.W.Frag}(h:aS K H [] vs):vs=[]:=by cases h;rfl
theorem aS.c{K:PySem.W.Frag}(h:aS K H (d :: ds) vs):∃ u us,vs=u :: us/\Rep K H d u/\aS K H ds us:=by
 cases h with
 |cons r rs=>exact⟨_,_,rfl,r,rs⟩
theorem aS.take{K:PySem.W.Frag}(n:Nat)(r:aS K H ds vs):aS K H (ds.take n) (vs.take n) :=
 aS.ind (m:=fun ds vs=>∀ n,aS K H (ds.take n) (vs.take n)) (fun n=>by rw[List.take_nil,List.take_nil];exact .nil) (fun _ _ _ _ h hs ih n=>by
  cases n with
  |zero=>exact .nil
  |succ n=>exact .cons h (ih n)) r n
mutual
/-- what is owned: a tree whose lists and fg' stand at As,fh' fi';its leaves shared (fl: and flat) -/
inductive bP(K:PySem.W.Frag)(Hs H:Hp)(fl:Bool):D->V->List Addr->Prop
 |sh {d:D} {v:V}:(fl=true->d.flat=true)->Rep K Hs d v->bP K Hs H fl d v []
 |list {a:Addr} {vs:List V} {ds:List D} {As:List Addr}:vs.length<=sizeLine->H a=some (.lst vs)->aF K Hs H fl ds vs As->bP K Hs H fl (.list ds) (.ref a) (a :: As)
 |tup {a:Addr} {vs:List V} {ds:List D} {As:List Addr}:vs.length<=sizeLine->Hs a=some (.tup vs)->ck ds=false->aF K Hs H fl ds vs As->bP K Hs H fl (.tup ds) (.ref a) As
 |dK {a:Addr} {vs:List V} {ah:List (Key × D)} {As:List Addr}:K2 ah->H a=some (.dK ((ah.map (·.1)).zip vs))->aF K Hs H fl (ah.map (·.2)) vs As->bP K Hs H fl (.dK ah) (.ref a) (a :: As)
 |dT {a:Addr} {vs:List V} {ah:List (List Key × D)} {As:List Addr}:Lc ah->H a=some (.dT ((ah.map (·.1)).zip vs))->aF K Hs H fl (ah.map (·.2)) vs As->bP K Hs H fl (.dT ah) (.ref a) (a :: As)
inductive aF(K:PySem.W.Frag)(Hs H:Hp)(fl:Bool):List D->List V->List Addr->Prop
 |nil:aF K Hs H fl [] [] []
 |cons {d:D} {v:V} {ds:List D} {vs:List V} {As Bs:List Addr}:bP K Hs H fl d v As->aF K Hs H fl ds vs Bs->aF K Hs H fl (d :: ds) (v :: vs) (As++Bs)
end
def Own(H:Hp)(a:Addr):Prop:=(∃ vs,H a=some (.lst vs))\/(∃ ah,H a=some (.dK ah))\/∃ ah,H a=some (.dT ah)
section
variable {K:PySem.W.Frag}{Hs ai H H':Hp}{fl:Bool}
theorem Own.ne(h:Own H a):H a≠none:=by rcases h with⟨_,e⟩|⟨_,e⟩|⟨_,e⟩<;>rw[e]<;>exact fun z=>nomatch z
theorem Own.C_(h:Own H a):H a≠some (.tup vs):=by rcases h with⟨_,e⟩|⟨_,e⟩|⟨_,e⟩<;>rw[e]<;>exact fun z=>nomatch z
theorem bP.ind{m1:D->V->List Addr->Prop}{m2:List D->List V->List Addr->Prop}(hs:∀ d v,(fl=true->d.flat=true)->Rep K Hs d v->m1 d v [])(hl:∀ a vs ds As,vs.length<=sizeLine->H a=some (.lst vs)->aF K Hs H fl ds vs As->m2 ds vs As->m1 (.list ds) (.ref a) (a :: As)) (ht:∀ a vs ds As,vs.length<=sizeLine->Hs a=some (.tup vs)->ck ds=false->aF K Hs H fl ds vs As->m2 ds vs As->m1 (.tup ds) (.ref a) As)(hk:∀ a vs ah As,K2 ah->H a=some (.dK ((ah.map (·.1)).zip vs))->aF K Hs H fl (ah.map (·.2)) vs As->m2 (ah.map (·.2)) vs As->m1 (.dK ah) (.ref a) (a :: As)) (hT:∀ a vs ah As,Lc ah->H a=some (.dT ((ah.map (·.1)).zip vs))->aF K Hs H fl (ah.map (·.2)) vs As->m2 (ah.map (·.2)) vs As->m1 (.dT ah) (.ref a) (a :: As))(hn:m2 [] [] []) (hc:∀ d v ds vs As Bs,bP K Hs H fl d v As->aF K Hs H fl ds vs Bs->m1 d v As->m2 ds vs Bs->m2 (d :: ds) (v :: vs) (As++Bs)):(∀ {d v As},bP K Hs H fl d v As->m1 d v As)/\∀ {ds vs As},aF K Hs H fl ds vs As->m2 ds vs As :=
 ⟨fun r=>bP.rec (motive_1:=fun d v As _=>m1 d v As) (motive_2:=fun ds vs As _=>m2 ds vs As) (fun f r=>hs _ _ f r) (fun z s r ih=>hl _ _ _ _ z s r ih) (fun z s n r ih=>ht _ _ _ _ z s n r ih) (fun z s r ih=>hk _ _ _ _ z s r ih) (fun z s r ih=>hT _ _ _ _ z s r ih) hn (fun r s a b=>hc _ _ _ _ _ _ r s a b) r,
  fun r=>aF.rec (motive_1:=fun d v As _=>m1 d v As) (motive_2:=fun ds vs As _=>m2 ds vs As) (fun f r=>hs _ _ f r) (fun z s r ih=>hl _ _ _ _ z s r ih) (fun z s n r ih=>ht _ _ _ _ z s n r ih) (fun z s r ih=>hk _ _ _ _ z s r ih) (fun z s r ih=>hT _ _ _ _ z s r ih) hn (fun r s a b=>hc _ _ _ _ _ _ r s a b) r⟩
theorem oB{a:Addr}{p:Prop}(h:a∈([]:List Addr)):p:=absurd h sf
theorem bP.U6:(∀ {d:D} {v:V} {As:List Addr},bP K Hs H fl d v As->∀ a∈As,Own H a)/\∀ {ds:List D} {vs:List V} {As:List Addr},aF K Hs H fl ds vs As->∀ a∈As,Own H a :=
 bP.ind (m1:=fun _ _ As=>∀ a∈As,Own H a) (m2:=fun _ _ As=>∀ a∈As,Own H a) (fun _ _ _ _ a h=>oB h) (fun _ _ _ _ _ e _ ih a h=>(eK.mp h).elim (fun z=>z ▸ .inl ⟨_,e⟩) (ih a)) (fun _ _ _ _ _ _ _ _ ih=>ih) (fun _ _ _ _ _ e _ ih a h=>(eK.mp h).elim (fun z=>z ▸ .inr (.inl ⟨_,e⟩)) (ih a)) (fun _ _ _ _ _ e _ ih a h=>(eK.mp h).elim (fun z=>z ▸ .inr (.inr ⟨_,e⟩)) (ih a)) (fun a h=>oB h) fun _ _ _ _ _ _ _ _ i1 i2 a h=>(eW.mp h).elim (i1 a) (i2 a)
theorem bP.own(r:bP K Hs H fl d v As):∀ a∈As,Own H a:=bP.U6.1 r
theorem aF.own(r:aF K Hs H fl ds vs As):∀ a∈As,Own H a:=bP.U6.2 r
theorem bP.G4(s:ay Hs ai):(∀ {d:D} {v:V} {As:List Addr},bP K Hs H fl d v As->(∀ a∈As,H' a=H a)->bP K ai H' fl d v As)/\∀ {ds:List D} {vs:List V} {As:List Addr},aF K Hs H fl ds vs As->(∀ a∈As,H' a=H a)->aF K ai H' fl ds vs As :=
 bP.ind (m1:=fun d v As=>(∀ a∈As,H' a=H a)->bP K ai H' fl d v As) (m2:=fun ds vs As=>(∀ a∈As,H' a=H a)->aF K ai H' fl ds vs As) (fun _ _ f r _=>.sh f (r.same s)) (fun _ _ _ _ z e _ ih k=>.list z ((k _ fo).trans e) (ih fun a h=>k a (dz _ h))) (fun _ _ _ _ z e n _ ih k=>.tup z (s _ _ e) n (ih k)) (fun _ _ _ _ z e _ ih k=>.dK z ((k _ fo).trans e) (ih fun a h=>k a (dz _ h))) (fun _ _ _ _ z e _ ih k=>.dT z ((k _ fo).trans e) (ih fun a h=>k a (dz _ h))) (fun _=>.nil) fun _ _ _ _ _ _ _ _ i1 i2 k=>.cons (i1 fun a h=>k a (js _ h)) (i2 fun a h=>k a (eT _ h))
theorem bP.fF(s:ay Hs ai)(r:bP K Hs H fl d v As)(k:∀ a∈As,H' a=H a):bP K ai H' fl d v As:=(bP.G4 s).1 r k
theorem aF.fF(s:ay Hs ai)(r:aF K Hs H fl ds vs As)(k:∀ a∈As,H' a=H a):aF K ai H' fl ds vs As:=(bP.G4 s).2 r k
theorem bP.grow(s:ay Hs ai)(t:ay H H')(r:bP K Hs H fl d v As):bP K ai H' fl d v As :=
 r.fF s fun a h=>by
  cases e:H a with
  |none=>exact absurd e (r.own a h).ne
  |some o=>exact t a o e
theorem aF.grow(s:ay Hs ai)(t:ay H H')(r:aF K Hs H fl ds vs As):aF K ai H' fl ds vs As :=
 r.fF s fun a h=>by
  cases e:H a with
  |none=>exact absurd e (r.own a h).ne
  |some o=>exact t a o e
theorem bP.rep2{G:Hp}(s:ay Hs G):(∀ {d:D} {v:V} {As:List Addr},bP K Hs H fl d v As->(∀ a∈As,G a=H a)->Rep K G d v)/\∀ {ds:List D} {vs:List V} {As:List Addr},aF K Hs H fl ds vs As->(∀ a∈As,G a=H a)->aS K G ds vs :=
 bP.ind (m1:=fun d v As=>(∀ a∈As,G a=H a)->Rep K G d v) (m2:=fun ds vs As=>(∀ a∈As,G a=H a)->aS K G ds vs) (fun _ _ _ r _=>r.same s) (fun _ _ _ _ z e _ ih k=>.list z (.inl (.inl ((k _ fo).trans e))) (ih fun a h=>k a (dz _ h))) (fun _ _ _ _ z e n _ ih k=>.tup z (s _ _ e) (ih k)) (fun _ _ _ _ z e _ ih k=>.dK z (.inl ((k _ fo).trans e)) (ih fun a h=>k a (dz _ h))) (fun _ _ _ _ z e _ ih k=>.dT z (.inl ((k _ fo).trans e)) (ih fun a h=>k a (dz _ h))) (fun _=>.nil) fun _ _ _ _ _ _ _ _ i1 i2 k=>.cons (i1 fun a h=>k a (js _ h)) (i2 fun a h=>k a (eT _ h))
theorem bP.rep(s:ay Hs G)(r:bP K Hs H fl d v As)(k:∀ a∈As,G a=H a):Rep K G d v:=(bP.rep2 s).1 r k
theorem aF.reps(s:ay Hs G)(r:aF K Hs H fl ds vs As)(k:∀ a∈As,G a=H a):aS K G ds vs:=(bP.rep2 s).2 r k
theorem Rep.z8(t:∀ a vs,H a=some (.tup vs)->G a=some (.tup vs)):(∀ {d:D} {v:V},Rep K H d v->d.flat=true->Rep K G d v)/\∀ {ds:List D} {vs:List V},aS K H ds vs->ck ds=true->aS K G ds vs :=
 Rep.ind (m1:=fun d v=>d.flat=true->Rep K G d v) (m2:=fun ds vs=>ck ds=true->aS K G ds vs) (fun _=>.non) (fun b _=>.bl b) (fun i _=>.int i) (fun _ h _=>.str h) (fun _ _ _ _ _ _ _ f=>by simp[D.flat] at f) (fun _ _ _ z e _ ih f=>.tup z (t _ _ e) (ih (by simpa[D.flat] using f))) (fun _ _ _ _ _ _ _ f=>by simp[D.flat] at f) (fun _ _ _ _ _ _ _ f=>by simp[D.flat] at f) (fun _=>.nil) fun _ _ _ _ _ _ i1 i2 f=>by simp only[ck,i6] at f;exact .cons (i1 f.1) (i2 f.2)
theorem Rep.kj(t:∀ a vs,H a=some (.tup vs)->G a=some (.tup vs))(r:Rep K H d v)(f:d.flat=true):Rep K G d v:=(Rep.z8 t).1 r f
theorem aS.kj(t:∀ a vs,H a=some (.tup vs)->G a=some (.tup vs))(r:aS K H ds vs)(f:ck ds=true):aS K G ds vs:=(Rep.z8 t).2 r f
theorem aS.owned(r:aS K Hs ds vs)(f:ck ds=true):aF K Hs H fl ds vs [] :=
 aS.ind (m:=fun ds vs=>ck ds=true->aF K Hs H fl ds vs []) (fun _=>.nil) (fun _ _ _ _ h _ ih f=>by
  simp only[ck,i6] at f;exact .cons (As:=[]) (.sh (fun _=>f.1) h) (ih f.2)) r f
theorem aS.Hw(r:aS K Hs ds vs):aF K Hs H false ds vs [] :=
 aS.ind (m:=fun ds vs=>aF K Hs H false ds vs []) .nil (fun _ _ _ _ h _ ih=>.cons (As:=[]) (.sh (fun z=>Bool.noConfusion z) h) ih) r
theorem bP.U7:(∀ {d:D} {v:V} {As:List Addr},bP K Hs H fl d v As->bP K Hs H false d v As)/\∀ {ds:List D} {vs:List V} {As:List Addr},aF K Hs H fl ds vs As->aF K Hs H false ds vs As :=
 bP.ind (fun _ _ _ r=>.sh (fun z=>Bool.noConfusion z) r) (fun _ _ _ _ z e _ ih=>.list z e ih) (fun _ _ _ _ z e n _ ih=>.tup z e n ih) (fun _ _ _ _ z e _ ih=>.dK z e ih) (fun _ _ _ _ z e _ ih=>.dT z e ih) .nil fun _ _ _ _ _ _ _ _ a b=>.cons a b
theorem bP.Lv(r:bP K Hs H fl d v As):bP K Hs H false d v As:=bP.U7.1 r
theorem aF.Lv(r:aF K Hs H fl ds vs As):aF K Hs H false ds vs As:=bP.U7.2 r
theorem bP.Ex(t:∀ a vs,Hs a=some (.tup vs)->G a=some (.tup vs)):(∀ {d:D} {v:V} {As:List Addr},bP K Hs H true d v As->bP K G H true d v As)/\∀ {ds:List D} {vs:List V} {As:List Addr},aF K Hs H true ds vs As->aF K G H true ds vs As :=
 bP.ind (fun _ _ f r=>.sh f (r.kj t (f rfl))) (fun _ _ _ _ z e _ ih=>.list z e ih) (fun _ _ _ _ z e n _ ih=>.tup z (t _ _ e) n ih) (fun _ _ _ _ z e _ ih=>.dK z e ih) (fun _ _ _ _ z e _ ih=>.dT z e ih) .nil fun _ _ _ _ _ _ _ _ a b=>.cons a b
theorem bP.leaves(t:∀ a vs,Hs a=some (.tup vs)->G a=some (.tup vs))(r:bP K Hs H true d v As):bP K G H true d v As:=(bP.Ex t).1 r
theorem aF.ind{m:List D->List V->List Addr->Prop}(hn:m [] [] [])(hc:∀ d v ds vs As Bs,bP K Hs H fl d v As->aF K Hs H fl ds vs Bs->m ds vs Bs->m (d :: ds) (v :: vs) (As++Bs)):∀ {ds vs As},aF K Hs H fl ds vs As->m ds vs As :=
 fun r=>(bP.ind (m1:=fun _ _ _=>True) (m2:=m) (fun _ _ _ _=>trivial) (fun _ _ _ _ _ _ _ _=>trivial) (fun _ _ _ _ _ _ _ _ _=>trivial) (fun _ _ _ _ _ _ _ _=>trivial) (fun _ _ _ _ _ _ _ _=>trivial) hn fun d v ds vs As Bs r s _ b=>hc d v ds vs As Bs r s b).2 r
theorem aF.append(r:aF K Hs H fl ds vs As)(t:aF K Hs H fl es ws Bs):aF K Hs H fl (ds++es) (vs++ws) (As++Bs) :=
 aF.ind (m:=fun ds vs As=>aF K Hs H fl (ds++es) (vs++ws) (As++Bs)) t (fun _ _ _ _ _ _ h _ ih=>by
  rw[A6];exact .cons h ih) r
theorem aF.n0(h:aF K Hs H fl [] vs As):vs=[]/\As=[]:=by cases h;exact⟨rfl,rfl⟩
theorem aF.c(h:aF K Hs H fl (d :: ds) vs As):∃ u us A B,vs=u :: us/\As=A++B/\bP K Hs H fl d u A/\aF K Hs H fl ds us B:=by
 cases h with
 |cons r rs=>exact⟨_,_,_,_,rfl,rfl,r,rs⟩
theorem aF.length(r:aF K Hs H fl ds vs As):ds.length=vs.length :=
 aF.ind (m:=fun ds vs _=>ds.length=vs.length) rfl (fun _ _ _ _ _ _ _ _ ih=>by rw[ox,ox,ih]) r
end
inductive Sl where
 /-- shared;owned;owned and walked by a loop just now (at a) -/
 |sh (d:D)|ow (fl:Bool) (d:D)|lk (a:Addr) (fl:Bool) (d:D)
 /-- an exception,at a -/
 |xc (a:Addr)
abbrev Env:=List (Option Sl)
inductive SR(K:PySem.W.Frag)(Hs H:Hp):Env->St->List Addr->Prop
 |nil:SR K Hs H [] [] []
 |non {ρ:Env} {σ:St} {ae:List Addr} {o:Option V}:SR K Hs H ρ σ ae->SR K Hs H (none :: ρ) (o :: σ) ae
 |sh {ρ:Env} {σ:St} {ae:List Addr} {d:D} {v:V}:Rep K Hs d v->SR K Hs H ρ σ ae->SR K Hs H (some (.sh d) :: ρ) (some v :: σ) ae
 |xc {ρ:Env} {σ:St} {ae:List Addr} {a:Addr}:SR K Hs H ρ σ ae->SR K Hs H (some (.xc a) :: ρ) (some (.ref a) :: σ) ae
 |ow {ρ:Env} {σ:St} {ae As:List Addr} {fl:Bool} {d:D} {v:V}:As≠[]->bP K Hs H fl d v As->SR K Hs H ρ σ ae->SR K Hs H (some (.ow fl d) :: ρ) (some v :: σ) (As++ae)
 |lk {ρ:Env} {σ:St} {ae As:List Addr} {a:Addr} {fl:Bool} {d:D}:As≠[]->bP K Hs H fl d (.ref a) As->SR K Hs H ρ σ ae->SR K Hs H (some (.lk a fl d) :: ρ) (some (.ref a) :: σ) (As++ae)
structure Wf(Hs H:Hp):Prop where
 sub:ay Hs H
 gE:∀ a vs,H a=some (.tup vs)->Hs a=some (.tup vs)
structure cS(K:PySem.W.Frag)(Hs:Hp)(ρ:Env)(σ:St)(H:Hp)(ae:List Addr):Prop where
 sr:SR K Hs H ρ σ ae
 wf:Wf Hs H
 kz:ae.Nodup
 own:∀ a∈ae,Hs a=none
structure eu(Hs H ai H':Hp):Prop where
 all:ay H H'
 sh:ay Hs ai
 wf:Wf ai H'
 new:∀ a,ai a≠none->Hs a≠none\/H a=none
section
variable {K:PySem.W.Frag}{Hs H ai H' U8 U9:Hp}
theorem eu.refl(w:Wf Hs H):eu Hs H Hs H:=⟨ay.refl _,ay.refl _,w,fun _ h=>.inl h⟩
theorem eu.trans(a:eu Hs H ai H')(b:eu ai H' U8 U9):eu Hs H U8 U9 :=
 ⟨a.all.trans b.all,a.sh.trans b.sh,b.wf,fun c h=>by
  rcases b.new c h with h|h
  ·exact a.new c h
  ·exact .inr (a.all.free h)⟩
theorem eu.lS(g:eu Hs H ai H')(h:Hs a=none)(h':H a≠none):ai a=none:=by
 cases e:ai a with
 |none=>rfl
 |some o =>
  rcases g.new a (by rw[e];exact fun z=>nomatch z) with z|z
  ·exact absurd h z
  ·exact absurd z h'
theorem SR.own{ρ:Env}{σ:St}{ae:List Addr}(s:SR K Hs H ρ σ ae):∀ a∈ae,Own H a:=by
 induction s with
 |nil=>exact fun a h=>oB h
 |non _ ih=>exact ih
 |sh _ _ ih=>exact ih
 |xc _ ih=>exact ih
 |ow _ r _ ih=>exact fun a h=>(eW.mp h).elim (r.own a) (ih a)
 |lk _ r _ ih=>exact fun a h=>(eW.mp h).elim (r.own a) (ih a)
theorem SR.fF(s:ay Hs ai)(r:SR K Hs H ρ σ ae):(∀ a∈ae,H' a=H a)->SR K ai H' ρ σ ae:=by
 induction r with
 |nil=>exact fun _=>.nil
 |non _ ih=>exact fun k=>.non (ih k)
 |sh h _ ih=>exact fun k=>.sh (h.same s) (ih k)
 |xc _ ih=>exact fun k=>.xc (ih k)
 |ow ne h _ ih=>exact fun k=>.ow ne (h.fF s fun a m=>k a (js _ m)) (ih fun a m=>k a (eT _ m))
 |lk ne h _ ih=>exact fun k=>.lk ne (h.fF s fun a m=>k a (js _ m)) (ih fun a m=>k a (eT _ m))
theorem cS.grow(r:cS K Hs ρ σ H ae)(g:eu Hs H ai H'):cS K ai ρ σ H' ae :=
 ⟨r.sr.fF g.sh fun a h=>by
  cases e:H a with
  |none=>exact absurd e (r.sr.own a h).ne
  |some o=>exact g.all a o e,g.wf,r.kz,fun a h=>g.lS (r.own a h) (r.sr.own a h).ne⟩
theorem SR.length(s:SR K Hs H ρ σ ae):ρ.length=σ.length:=by
 induction s with
 |nil=>rfl
 |non _ ih=>exact congrArg (· + 1) ih
 |sh _ _ ih=>exact congrArg (· + 1) ih
 |xc _ ih=>exact congrArg (· + 1) ih
 |ow _ _ _ ih=>exact congrArg (· + 1) ih
 |lk _ _ _ ih=>exact congrArg (· + 1) ih
def Cd(K:PySem.W.Frag)(Hs H:Hp)(ae:List Addr)(sl:Sl)(v:V):Prop:=match sl with
 |.sh d=>Rep K Hs d v
 |.ow fl d=>∃ As,As≠[]/\bP K Hs H fl d v As/\∀ a∈As,a∈ae
 |.lk a fl d=>∃ As,As≠[]/\bP K Hs H fl d v As/\v=.ref a/\∀ a∈As,a∈ae
 |.xc a=>v=.ref a
theorem Cd.mono(h:Cd K Hs H ae sl v)(m:∀ a∈ae,a∈bX):Cd K Hs H bX sl v:=by
 cases sl with
 |sh d=>exact h
 |xc a=>exact h
 |ow fl d =>obtain⟨As,ne,r,q⟩:=h;exact⟨As,ne,r,fun a ha=>m a (q a ha)⟩
 |lk a fl d =>obtain⟨As,ne,r,e,q⟩:=h;exact⟨As,ne,r,e,fun a ha=>m a (q a ha)⟩
theorem SR.get{ρ:Env}{σ:St}{ae:List Addr}{i:Nat}{sl:Sl}(s:SR K Hs H ρ σ ae)(e:ρ[i]? = some (some sl)):∃ v,σ[i]? = some (some v)/\Cd K Hs H ae sl v:=by
 induction s generalizing i with
 |nil=>simp at e
 |non s ih =>
  cases i with
  |zero=>simp at e
  |succ i=>exact ih e
 |sh r s ih =>
  cases i with
  |zero=>simp at e;subst e;exact⟨_,rfl,r⟩
  |succ i=>exact ih e
 |xc s ih =>
  cases i with
  |zero=>simp at e;subst e;exact⟨_,rfl,rfl⟩
  |succ i=>exact ih e
 |ow ne r s ih =>
  cases i with
  |zero=>simp at e;subst e;exact⟨_,rfl,_,ne,r,fun a m=>js _ m⟩
  |succ i =>obtain⟨v,e1,h⟩:=ih e;exact⟨v,e1,h.mono fun a m=>eT _ m⟩
 |lk ne r s ih =>
  cases i with
  |zero=>simp at e;subst e;exact⟨_,rfl,_,ne,r,rfl,fun a m=>js _ m⟩
  |succ i =>obtain⟨v,e1,h⟩:=ih e;exact⟨v,e1,h.mono fun a m=>eT _ m⟩
end
inductive Md where
 |sh|ow (fl:Bool)|bo
def RM(K:PySem.W.Frag)(Hs H:Hp):Md->D->V->List Addr->Prop
 |.sh,d,v,As=>As=[]/\Rep K Hs d v
 |.ow fl,d,v,As=>bP K Hs H fl d v As/\As≠[]
 |.bo,d,v,As=>As=[]/\Rep K H d v
inductive nh(K:PySem.W.Frag)(Hs H:Hp):List (Md × D)->List V->List Addr->Prop
 |nil:nh K Hs H [] [] []
 |cons {m:Md} {d:D} {v:V} {ps:List (Md × D)} {vs:List V} {As Bs:List Addr}:RM K Hs H m d v As->nh K Hs H ps vs Bs->nh K Hs H ((m,d) :: ps) (v :: vs) (As++Bs)
section
variable {K:PySem.W.Frag}{Hs H ai H':Hp}
theorem RM.own{m:Md}{d:D}{v:V}{As:List Addr}(r:RM K Hs H m d v As):∀ a∈As,Own H a:=by
 cases m with
 |sh=>obtain⟨rfl,_⟩:=r;exact fun a h=>oB h
 |ow fl=>exact bP.own r.1
 |bo=>obtain⟨rfl,_⟩:=r;exact fun a h=>oB h
theorem RM.grow(r:RM K Hs H m d v As)(g:eu Hs H ai H'):RM K ai H' m d v As:=by
 cases m with
 |sh=>exact⟨r.1,r.2.same g.sh⟩
 |ow fl=>exact⟨bP.grow g.sh g.all r.1,r.2⟩
 |bo=>exact⟨r.1,r.2.same g.all⟩
theorem RM.rep(w:Wf Hs H)(r:RM K Hs H m d v As):Rep K H d v:=by
 cases m with
 |sh=>exact r.2.same w.sub
 |ow fl=>exact bP.rep w.sub r.1 fun _ _=>rfl
 |bo=>exact r.2
theorem RM.flat(w:Wf Hs H)(r:RM K Hs H m d v As)(f:d.flat=true):Rep K Hs d v:=(r.rep w).kj w.gE f
theorem nh.own{ps:List (Md × D)}{vs:List V}{As:List Addr}(r:nh K Hs H ps vs As):∀ a∈As,Own H a:=by
 induction r with
 |nil=>exact fun a h=>oB h
 |cons r _ ih=>exact fun a h=>(eW.mp h).elim (r.own a) (ih a)
theorem nh.grow(g:eu Hs H ai H'){ps:List (Md × D)}(r:nh K Hs H ps vs As):nh K ai H' ps vs As:=by
 induction r with
 |nil=>exact .nil
 |cons r _ ih=>exact .cons (r.grow g) ih
theorem nh.reps(w:Wf Hs H){ps:List (Md × D)}(r:nh K Hs H ps vs As):aS K H (ps.map (·.2)) vs:=by
 induction r with
 |nil=>exact .nil
 |cons r _ ih=>exact .cons (r.rep w) ih
end
abbrev WE:=Env->(Md->D->Prop)->Prop
abbrev WT:=Env->(Bool->Prop)->Prop
abbrev WA:=Env->(List (Md × D)->Prop)->Prop
structure m5 where
 nx:Env->Prop
 rt:Md->D->Prop
 bk:Env->Prop:=fun _=>False
 ct:Env->Prop:=fun _=>False
abbrev WS:=m5->Env->Prop
def dU(ai H:Hp)(As:List Addr):Prop:=As.Nodup/\∀ a∈As,ai a=none/\H a=none
def oD(K:PySem.W.Frag)(t:WE):TE:=fun σ H Qv=>∃ Hs ρ ae Q,cS K Hs ρ σ H ae/\t ρ Q /\
 ∀ v H' ai m d As,eu Hs H ai H'->RM K ai H' m d v As->dU ai H As->Q m d->Qv v H'
def ui(K:PySem.W.Frag)(t:WT):TT:=fun σ H Qv=>∃ Hs ρ ae Q,cS K Hs ρ σ H ae/\t ρ Q/\∀ b H' ai,eu Hs H ai H'->Q b->Qv b H'
def LB(K:PySem.W.Frag)(t:WA):TA:=fun σ H Qv=>∃ Hs ρ ae Q,cS K Hs ρ σ H ae/\t ρ Q /\
 ∀ vs H' ai ps As,eu Hs H ai H'->nh K ai H' ps vs As->dU ai H As->Q ps->Qv vs H'
def sQ(K:PySem.W.Frag)(L:Str->Hp->Prop)(t:WS):TS:=fun D σ H=>∃ Hs ρ ae E,cS K Hs ρ σ H ae/\t E ρ /\ (∀ bE H' ai b9 bX,ay Hs ai->cS K ai b9 bE H' bX->E.nx b9->D.nx bE H') /\ (∀ bE H' ai b9 bX,ay Hs ai->cS K ai b9 bE H' bX->E.bk b9->D.bk bE H') /\ (∀ bE H' ai b9 bX,ay Hs ai->cS K ai b9 bE H' bX->E.ct b9->D.ct bE H') /\ (∀ v H' ai m d As,ay Hs ai->Wf ai H'->RM K ai H' m d v As->As.Nodup->(∀ a∈As,ai a=none)->E.rt m d->D.rt v H') /\
 ∀ n H',ay Hs H'->E.rt (.ow false) (.str n)->L n H'
theorem iM{K:PySem.W.Frag}{L:Str->Hp->Prop}{t:WS}{D:Ends}{σ:St}{H:Hp}{G:Prop}(x:sQ K L t D σ H)(k:∀ Hs ρ ae E,cS K Hs ρ σ H ae->t E ρ -> (∀ bE H' ai b9 bX,ay Hs ai->cS K ai b9 bE H' bX->E.nx b9->D.nx bE H') -> (∀ bE H' ai b9 bX,ay Hs ai->cS K ai b9 bE H' bX->E.bk b9->D.bk bE H') -> (∀ bE H' ai b9 bX,ay Hs ai->cS K ai b9 bE H' bX->E.ct b9->D.ct bE H') -> (∀ v H' ai m d As,ay Hs ai->Wf ai H'->RM K ai H' m d v As->As.Nodup->(∀ a∈As,ai a=none)->E.rt m d->D.rt v H') -> (∀ n H',ay Hs H'->E.rt (.ow false) (.str n)->L n H')->G):G :=
 by
 obtain⟨Hs,ρ,ae,E,sr,h,k1,k2,k3,k4,kx⟩:=x;exact k Hs ρ ae E sr h k1 k2 k3 k4 kx
theorem jw{K:PySem.W.Frag}{L:Str->Hp->Prop}{t:WS}{D:Ends}{σ:St}{H:Hp}{G:Prop}(x:sQ K L t D σ H)(k:∀ Hs ρ ae E,cS K Hs ρ σ H ae->t E ρ -> (∀ bE H' ai b9 bX,ay Hs ai->cS K ai b9 bE H' bX->E.nx b9->D.nx bE H') -> (∀ bE H' ai b9 bX,ay Hs ai->cS K ai b9 bE H' bX->E.bk b9->D.bk bE H') -> (∀ bE H' ai b9 bX,ay Hs ai->cS K ai b9 bE H' bX->E.ct b9->D.ct bE H') -> (∀ v H' ai m d As,ay Hs ai->Wf ai H'->RM K ai H' m d v As->As.Nodup->(∀ a∈As,ai a=none)->E.rt m d->D.rt v H')->G):G :=
 iM x fun Hs ρ ae E sr h k1 k2 k3 k4 _=>k Hs ρ ae E sr h k1 k2 k3 k4
theorem gX{α β γ δ:Type _}{A B C:α->β->γ->δ->Prop}{G:Prop}(x:∃ a b c d,A a b c d/\B a b c d/\C a b c d)(k:∀ a b c d,A a b c d->B a b c d->C a b c d->G):G :=
 by
 obtain⟨a,b,c,d,p,q,r⟩:=x;exact k a b c d p q r
abbrev QE(X:Cx)(K:PySem.W.Frag)(e:Expr)(t:WE):Prop:=PE X e (oD K t)
abbrev QT(X:Cx)(K:PySem.W.Frag)(e:Expr)(t:WT):Prop:=PT X e (ui K t)
abbrev QW(X:Cx)(K:PySem.W.Frag)(e:Expr)(t:WT):Prop:=PW X e (ui K t)
abbrev QA(X:Cx)(K:PySem.W.Frag)(es:List Expr)(t:WA):Prop:=PA X es (LB K t)
abbrev QS(X:Cx)(K:PySem.W.Frag)(L:Str->Hp->Prop)(st:Stmt)(t:WS):Prop:=PS X st (sQ K L t)
abbrev lT(X:Cx)(K:PySem.W.Frag)(L:Str->Hp->Prop)(st:List Stmt)(t:WS):Prop:=kK X st (sQ K L t)
abbrev L0:Str->Hp->Prop:=fun _ _=>True
end L2.Q
namespace L2.Q
open PySem PySem.Spec PyProof.Rows
structure Kt{α:Type}(f:α->Prop):Type where
def bp{α:Type}(a:α){f:α->Prop}(_:Kt f):Prop:=f a
mutual
def D.py:D->PyData
 |.non=>.none
 |.bl b=>.bool b
 |.int i=>.int i
 |.str x=>.str x
 |.list xs=>.list (oI xs)
 |.tup xs=>.tuple (oI xs)
 |.dK _=>.none
 |.dT _=>.none
def oI:List D->List PyData
 |[]=>[]
 |x :: xs=>x.py :: oI xs
end
def dy:Nat->D->Bool
 |_,.non=>true
 |_,.bl _=>true
 |_,.int _=>true
 |_,.str x=>PyData.strOk x
 |n+1,.list xs=>xs.all (dy n)
 |n+1,.tup xs=>xs.all (dy n)
 |_,_=>false
def jS(x y:D):Bool:=PyData.eqv x.py y.py
def D.ty:D->String
 |.non => "NoneType"
 |.bl _ => "bool"
 |.int _ => "int"
 |.str _ => "str"
 |.list _ => "list"
 |.tup _ => "tuple"
 |.dK _ => "dict"
 |.dT _ => "dict"
def D.key1:D->Option Key
 |.int i=>some (.inl i)
 |.str x=>some (.inr x)
 |_=>none
def pX:List D->Option (List Key)
 |[]=>some []
 |x :: xs=>match x.key1,pX xs with
  |some k,some ks=>some (k :: ks)
  |_,_=>none
section
variable {κ:Type}[DecidableEq κ]{β:Type}
def kQ(ah:List (κ × β))(k:κ):Option β:=(ah.find? fun kv=>decide (kv.1=k)).map (·.2)
end
theorem Rep.EJ{K:PySem.W.Frag}:(∀ {d:D} {v:V},Rep K H d v->∀ n,dy n d=true->L2.Rep K H d.py v)/\∀ {ds:List D} {vs:List V},aS K H ds vs->∀ n,(∀ d∈ds,dy n d=true)->L2.aS K H (oI ds) vs :=
 Rep.ind (m1:=fun d v=>∀ n,dy n d=true->L2.Rep K H d.py v) (m2:=fun ds vs=>∀ n,(∀ d∈ds,dy n d=true)->L2.aS K H (oI ds) vs) (fun _ _=>.none) (fun b _ _=>.bool b) (fun i _ _=>.int i) (fun _ _ _ _=>.str _) (fun _ _ _ _ h _ ih n o=>by
   cases n with
   |zero=>simp[dy] at o
   |succ n=>exact .list h (ih n (by simpa[dy] using o)))
  (fun _ _ _ _ h _ ih n o=>by
   cases n with
   |zero=>simp[dy] at o
   |succ n=>exact .tuple (.inl (.inl h)) (ih n (by simpa[dy] using o)))
  (fun _ _ _ _ _ _ _ n o=>by cases n<;>simp[dy] at o) (fun _ _ _ _ _ _ _ n o=>by cases n<;>simp[dy] at o) (fun _ _=>.nil)
  fun _ _ _ _ _ _ i1 i2 n o=>.cons (i1 n (o _ fo)) (i2 n fun d m=>o d (dz _ m))
theorem Rep.l2{K:PySem.W.Frag}(r:Rep K H d v)(o:dy n d=true):L2.Rep K H d.py v:=Rep.EJ.1 r n o
theorem zJ(ih:∀ d,dy n d=true->d.py.canLay0=true/\d.py.depth<=n)(xs:List D)(h:∀ x∈xs,dy n x=true):PyData.canLayAll0 (oI xs)=true/\PyData.depthAll (oI xs)<=n:=by
 induction xs with
 |nil=>exact⟨rfl,i5 _⟩
 |cons x xs ih2 =>have h1:=ih x (h x fo);have h2:=ih2 fun y hy=>h y (dz _ hy);simp only[oI,PyData.canLayAll0,PyData.depthAll,h1.1,h2.1,Bool.and_self,true_and];lia
theorem wZ(n:Nat):∀ (d:D),dy n d=true->d.py.canLay0=true/\d.py.depth<=n:=by
 have st:∀ (n:Nat) (x:Str),dy n (.str x)=true->(D.str x).py.canLay0=true/\(D.str x).py.depth<=n:=fun n x h=>by
  have h:PyData.strOk x=true:=by cases n<;>simpa[dy] using h
  exact⟨by simpa[D.py,PyData.canLay0] using h,i5 _⟩
 induction n with
 |zero =>
  intro d h
  cases d with
  |str x=>exact st _ x h
  |non=>exact⟨rfl,i5 _⟩
  |bl _=>exact⟨rfl,i5 _⟩
  |int _=>exact⟨rfl,i5 _⟩
  |_=>simp[dy] at h
 |succ n ih =>
  intro d h
  cases d with
  |str x=>exact st _ x h
  |non=>exact⟨rfl,i5 _⟩
  |bl _=>exact⟨rfl,i5 _⟩
  |int _=>exact⟨rfl,i5 _⟩
  |list xs =>
   have h:∀ x∈xs,dy n x=true:=by simpa[dy] using h
   have:=zJ ih xs h;simp only[D.py,PyData.canLay0,PyData.depth];exact⟨this.1,by lia⟩
  |tup xs =>
   have h:∀ x∈xs,dy n x=true:=by simpa[dy] using h
   have:=zJ ih xs h;simp only[D.py,PyData.canLay0,PyData.depth];exact⟨this.1,by lia⟩
  |dK _=>simp[dy] at h
  |dT _=>simp[dy] at h
mutual
def D.nb:D->Bool
 |.bl _=>false
 |.list xs=>rh xs
 |.tup xs=>rh xs
 |.dK _=>false
 |.dT _=>false
 |_=>true
def rh:List D->Bool
 |[]=>true
 |x :: xs=>x.nb && rh xs
end
mutual
theorem vf:∀ (x y:D),x.nb=true->y.nb=true->(jS x y=true↔x=y)
 |.non,y,_,hy=>by cases y<;>simp_all [jS,D.py,PyData.eqv,D.nb]
 |.bl _,y,hx,_=>by simp[D.nb] at hx
 |.int i,y,_,hy=>by cases y<;>simp_all [jS,D.py,PyData.eqv,D.nb]
 |.str i,y,_,hy=>by cases y<;>simp_all [jS,D.py,PyData.eqv,D.nb]
 |.dK _,y,hx,_=>by simp[D.nb] at hx
 |.dT _,y,hx,_=>by simp[D.nb] at hx
 |.list xs,y,hx,hy=>by
  cases y with
  |list ys =>have:=rR xs ys (by simpa[D.nb] using hx) (by simpa[D.nb] using hy);simp only[jS,D.py,PyData.eqv,D.list.injEq];exact this
  |_=>simp_all [jS,D.py,PyData.eqv,D.nb]
 |.tup xs,y,hx,hy=>by
  cases y with
  |tup ys =>have:=rR xs ys (by simpa[D.nb] using hx) (by simpa[D.nb] using hy);simp only[jS,D.py,PyData.eqv,D.tup.injEq];exact this
  |_=>simp_all [jS,D.py,PyData.eqv,D.nb]
theorem rR:∀ (xs ys:List D),rh xs=true->rh ys=true->(PyData.eqvAll (oI xs) (oI ys)=true↔xs=ys)
 |[],[],_,_=>by simp[oI,PyData.eqvAll]
 |[],_ :: _,_,_=>by simp[oI,PyData.eqvAll]
 |_ :: _,[],_,_=>by simp[oI,PyData.eqvAll]
 |x :: xs,y :: ys,hx,hy=>by simp only[rh,i6] at hx hy;have h1:=vf x y hx.1 hy.1;have h2:=rR xs ys hx.2 hy.2;simp only[oI,PyData.eqvAll,i6,List.cons.injEq];exact and_congr h1 h2
end
section
variable {K:PySem.W.Frag}{H:Hp}
theorem Rep.key(r:Rep K H d v)(h:d.key1=some k):v=kV k:=by cases r<;>simp[D.key1] at h<;>subst h<;>rfl
theorem aS.keys(r:aS K H ds vs)(h:pX ds=some ks):vs=ks.map kV:=by
 induction ds generalizing vs ks with
 |nil=>simp[pX] at h;subst h;exact r.n0
 |cons d ds ih =>
  obtain⟨u,us,rfl,r,rs⟩:=r.c;unfold pX at h
  cases e1:d.key1 with
  |none=>rw[e1] at h;simp at h
  |some k =>
   cases e2:pX ds with
   |none=>rw[e1,e2] at h;simp at h
   |some ks' =>rw[e1,e2] at h;simp at h;subst h;rw[hV,r.key e1,ih rs e2]
theorem Rep.EK(r:Rep K H (.tup ds) v)(h:pX ds=some ks):∃ b,v=.ref b/\H b=some (.tup (ks.map kV)):=by
 cases r with
 |tup _ e rs=>exact⟨_,rfl,by rw[e,rs.keys h]⟩
end
section
variable {κ:Type}[DecidableEq κ]{K:PySem.W.Frag}{H:Hp}
theorem zip_get{k:κ}{ah:List (κ × D)}{vs:List V}(h:aS K H (ah.map (·.2)) vs):match kQ ah k with
  |some d=>∃ v,nc ((ah.map (·.1)).zip vs) k=some v/\Rep K H d v
  |none=>nc ((ah.map (·.1)).zip vs) k=none:=by
 induction ah generalizing vs with
 |nil=>rfl
 |cons p ah ih =>
  obtain⟨u,us,rfl,r,rs⟩:=aS.c (d:=p.2) h;by_cases e:p.1=k
  ·have e1:kQ (p :: ah) k=some p.2:=by simp[kQ,e]
   rw[e1];exact⟨_,by simp only[hV,List.zip_cons_cons];exact IZ e,r⟩
  ·have e1:kQ (p :: ah) k=kQ ah k:=by simp[kQ,e]
   rw[e1];have:=ih rs;simp only[hV,List.zip_cons_cons,I0 (p:=(p.1,_)) e];exact this
end
section
variable {K:PySem.W.Frag}{Hs H:Hp}
theorem BU(w:Wf Hs H)(hp:H p=none)(ho:∀ vs,o≠.tup vs):eu Hs H Hs (upd H p o) :=
 ⟨(ay.refl H).upd hp,ay.refl _,⟨w.sub.upd hp,fun a vs e=>by
  by_cases h:a=p
  ·subst h;rw[gg] at e;exact absurd (Option.some.inj e) (ho vs)
  ·rw[eS h] at e;exact w.gE a vs e⟩,fun _ h=>.inl h⟩
theorem AB(w:Wf Hs H)(hp:H p=none):eu Hs H (upd Hs p (.tup vs)) (upd H p (.tup vs)) :=
 ⟨(ay.refl H).upd hp,(ay.refl Hs).upd (w.sub.free hp),⟨fun a o e=>by
  by_cases h:a=p
  ·subst h;rw[gg] at e ⊢;exact e
  ·rw[eS h] at e ⊢;exact w.sub a o e,fun a vs e=>by
  by_cases h:a=p
  ·subst h;rw[gg] at e ⊢;exact e
  ·rw[eS h] at e ⊢;exact w.gE a vs e⟩,fun a h=>by
  by_cases e:a=p
  ·subst e;exact .inr hp
  ·rw[eS e] at h;exact .inl h⟩
theorem dU.nil:dU Hs H []:=⟨mz,fun a h=>nomatch h⟩
theorem dU.of(s:ay H H')(f:dU Hs H' As):dU Hs H As:=⟨f.1,fun a h=>⟨(f.2 a h).1,s.free (f.2 a h).2⟩⟩
abbrev Fin(K:PySem.W.Frag)(Hs H:Hp)(Qd:Md->D->Prop)(Qv:VK):Prop:=∀ v H' ai m d As,eu Hs H ai H'->RM K ai H' m d v As->dU ai H As->Qd m d->Qv v H'
theorem Fin.after(f:Fin K Hs H Qd Qv)(g:eu Hs H ai H'):Fin K ai H' Qd Qv:=fun v H2 ax m d As g2 r fr q=>f v H2 ax m d As (g.trans g2) r (fr.of g.all) q
theorem Fin.sh(f:Fin K Hs H Qd Qv)(w:Wf Hs H)(r:Rep K Hs d v)(q:Qd .sh d):Qv v H:=f v H Hs .sh d [] (eu.refl w) ⟨rfl,r⟩ dU.nil q
theorem Fin.flat(f:Fin K Hs H Qd Qv)(w:Wf Hs H)(r:Rep K H d v)(hf:d.flat=true)(q:Qd .sh d):Qv v H:=f.sh w (r.kj w.gE hf) q
theorem Fin.bo(f:Fin K Hs H Qd Qv)(w:Wf Hs H)(r:Rep K H d v)(q:Qd .bo d):Qv v H:=f v H Hs .bo d [] (eu.refl w) ⟨rfl,r⟩ dU.nil q
def kA(m:Md)(d:D):Md:=match m with
 |.sh=>.sh
 |_=>bif d.flat then .sh else .bo
theorem Fin.kA(f:Fin K Hs H Qd Qv)(w:Wf Hs H)(r:Rep K H d v)(rs:m=.sh->Rep K Hs d v)(q:Qd (kA m d) d):Qv v H:=by
 cases m with
 |sh=>exact f.sh w (rs rfl) q
 |ow fl =>
  cases hf:d.flat with
  |true=>exact f.flat w r hf (by simpa[Q.kA,hf] using q)
  |false=>exact f.bo w r (by simpa[Q.kA,hf] using q)
 |bo =>
  cases hf:d.flat with
  |true=>exact f.flat w r hf (by simpa[Q.kA,hf] using q)
  |false=>exact f.bo w r (by simpa[Q.kA,hf] using q)
theorem Fin.lst(f:Fin K Hs H Qd Qv)(w:Wf Hs H)(hz:ds.length<=sizeLine)(r:aS K H ds vs)(hf:ck ds=true)(q:Qd (.ow true) (.list ds)):∀ p,H p=none->Qv (.ref p) (upd H p (.lst vs)):=fun p hp =>
 f _ _ Hs (.ow true) (.list ds) [p] (BU w hp fun _ z=>nomatch z) ⟨.list (by rw[<- r.length];exact hz) gg ((r.kj w.gE hf).owned hf),by simp⟩ ⟨by simp,fun a h=>by
  obtain rfl:a=p:=by simpa using h
  exact⟨w.sub.free hp,hp⟩⟩ q
theorem Fin.LD(f:Fin K Hs H Qd Qv)(w:Wf Hs H)(hz:ds.length<=sizeLine)(r:aS K Hs ds vs)(q:Qd (.ow false) (.list ds)):∀ p,H p=none->Qv (.ref p) (upd H p (.lst vs)):=fun p hp =>
 f _ _ Hs (.ow false) (.list ds) [p] (BU w hp fun _ z=>nomatch z) ⟨.list (by rw[<- r.length];exact hz) gg r.Hw,by simp⟩ ⟨by simp,fun a h=>by
  obtain rfl:a=p:=by simpa using h
  exact⟨w.sub.free hp,hp⟩⟩ q
theorem Fin.tup(f:Fin K Hs H Qd Qv)(w:Wf Hs H)(hz:ds.length<=sizeLine)(r:aS K H ds vs)(hf:ck ds=true)(q:Qd .sh (.tup ds)):∀ p,H p=none->Qv (.ref p) (upd H p (.tup vs)):=fun p hp =>
 f _ _ (upd Hs p (.tup vs)) .sh (.tup ds) [] (AB w hp) ⟨rfl,.tup (by rw[<- r.length];exact hz) gg ((r.kj w.gE hf).same ((ay.refl Hs).upd (w.sub.free hp)))⟩ dU.nil q
end
section
variable {X:Cx}{K:PySem.W.Frag}
theorem PE.imp(h:PE X e te)(i:∀ σ H Q,pT σ H Q->te σ H Q):PE X e pT:=fun pins s σ H Q I q=>h pins s σ H Q I (i σ H Q q)
theorem PT.imp(h:PT X e te)(i:∀ σ H Q,pT σ H Q->te σ H Q):PT X e pT:=fun pins s σ H Q I q=>h pins s σ H Q I (i σ H Q q)
theorem PW.imp(h:PW X e te)(i:∀ σ H Q,pT σ H Q->te σ H Q):PW X e pT:=fun wh pins s σ H Q I q=>h wh pins s σ H Q I (i σ H Q q)
theorem PA.imp(h:PA X e te)(i:∀ σ H Q,pT σ H Q->te σ H Q):PA X e pT:=fun p pins s σ H Q I q=>h p pins s σ H Q I (i σ H Q q)
def EL:Option (Option Sl)->(Md->D->Prop)->Prop
 |some (some (.sh d)),Q=>Q .sh d
 |some (some (.ow _ d)),Q=>Q .bo d
 |some (some (.lk _ _ d)),Q=>Q .bo d
 |_,_=>False
def ag(i:Nat):WE:=fun ρ Q=>EL ρ[i]? Q
theorem HY(h:PE X e (sv i)):QE X K e (ag i):=by
 refine PE.imp h fun σ H Qv hx=>gX hx fun Hs ρ ae Q sr h f=>?_;unfold ag at h
 cases e:ρ[i]? with
 |none=>rw[e] at h;exact h.elim
 |some o =>
  cases o with
  |none=>rw[e] at h;exact h.elim
  |some sl =>
   obtain⟨v,e1,r⟩:=sr.sr.get e;rw[e] at h
   cases sl with
   |sh d=>exact⟨v,e1,Fin.sh f sr.wf r h⟩
   |xc a=>exact h.elim
   |ow fl d =>obtain⟨As,_,r,_⟩:=r;exact⟨v,e1,Fin.bo f sr.wf (r.rep sr.wf.sub fun _ _=>rfl) h⟩
   |lk a fl d =>obtain⟨As,_,r,_⟩:=r;exact⟨v,e1,Fin.bo f sr.wf (r.rep sr.wf.sub fun _ _=>rfl) h⟩
theorem qv (i:Nat) (hN:X.N[i]? = some x:=by rfl) (hv:DJ X.env.scope x:=by first|exact Or.inl rfl|exact Or.inr (Or.inl rfl)|exact Or.inr (Or.inr rfl)) (hd:(x == ("__debug__" : Str))=false:=by decide) (jI:(x == ("__classdict__" : Str))=false:=by decide):QE X K (.Name x pos) (ag i):=HY (TK hN hv hd jI)
def wC(d:D):WE:=fun _ Q=>Q .sh d
theorem xP(h:PE X e (tC v))(r:∀ H,Rep K H d v):QE X K e (wC d) :=
 PE.imp h fun σ H Qv hx=>gX hx fun Hs ρ ae Q sr h f=>Fin.sh f sr.wf (r _) h
theorem au{i j pos}:QE X K (.Constant (.int i) j pos) (wC (.int i)):=xP YB fun _=>.int i
theorem aA{i j pos}(h:i.length<=sizeLine:=by decide):QE X K (.Constant (.str i) j pos) (wC (.str i)):=xP YF fun _=>.str h
theorem hJ{i j pos}:QE X K (.Constant (.bool i) j pos) (wC (.bl i)):=xP YC fun _=>.bl i
theorem BZ{j pos}:QE X K (.Constant .none j pos) (wC .non):=xP YD fun _=>.non
theorem PD (h:ED X.mg x z) (hg:Gl X x:=by rfl) (hd:(x == ("__debug__" : Str))=false:=by decide) (hz:z.length<=sizeLine:=by decide):QE X K (.Name x pos) (wC (.str z)):=xP (JK h hg hd) fun _=>.str hz
theorem LG (h:BQ X.mg x i) (hg:Gl X x:=by rfl) (hd:(x == ("__debug__" : Str))=false:=by decide):QE X K (.Name x pos) (wC (.int i)):=xP (Jw h hg hd) fun _=>.int i
abbrev W2:=Md->D->Md->D->(Md->D->Prop)->Prop
abbrev W1:=Md->D->(Md->D->Prop)->Prop
def hZ(K:PySem.W.Frag)(r:R2)(f:W2):Prop:=∀ Hs H m x v As n y u Bs Qd Qv,Wf Hs H->RM K Hs H m x v As->RM K Hs H n y u Bs->f m x n y Qd->Fin K Hs H Qd Qv->r v u H Qv
def U_(K:PySem.W.Frag)(r:V->Hp->VK->Prop)(f:W1):Prop:=∀ Hs H m x v As Qd Qv,Wf Hs H->RM K Hs H m x v As->f m x Qd->Fin K Hs H Qd Qv->r v H Qv
def av(f:W2)(ta tb:WE):WE:=fun ρ Q=>ta ρ fun m x=>tb ρ fun n y=>f m x n y Q
def cv(f:W1)(ta:WE):WE:=fun ρ Q=>ta ρ fun m x=>f m x Q
variable {a b:Expr}{ta tb tc:WE}{pos:Pos}
theorem oU(br:hZ K r f)(σ:St)(H:Hp)(Qv:VK)(h:oD K (av f ta tb) σ H Qv):DU r (oD K ta) (oD K tb) σ H Qv:=by obtain⟨Hs,ρ,ae,Q,sr,h,fin⟩:=h;refine⟨Hs,ρ,ae,_,sr,h,fun v H1 aw m x As g1 r1 f1 q1=>⟨aw,ρ,ae,_,sr.grow g1,q1,fun u H2 ax n y Bs g2 r2 f2 q2=>?_⟩⟩;exact br ax H2 m x v As n y u Bs Q Qv g2.wf (r1.grow g2) r2 q2 (Fin.after fin (g1.trans g2))
theorem AF(ho:cy X (binaryOp op) r)(br:hZ K r f)(ha:QE X K a ta)(hb:QE X K b tb):QE X K (.BinOp a op b pos) (av f ta tb):=PE.imp (Oo ho ha hb) (oU br)
theorem by'(ho:Iy X (unaryOp op) r)(br:U_ K r f)(ha:QE X K a ta):QE X K (.UnaryOp op a pos) (cv f ta):=by refine PE.imp (Zt ho ha) fun σ H Qv hx=>gX hx fun Hs ρ ae Q sr h fin=>?_;exact⟨Hs,ρ,ae,_,sr,h,fun v H1 aw m x As g1 r1 f1 q1=>br aw H1 m x v As Q Qv g1.wf r1 q1 (Fin.after fin g1)⟩
theorem kh(ho:cy X (compareOp op) r)(br:hZ K r f)(ha:QE X K a ta)(hb:QE X K b tb)(hm:behindInMarks op b=false):QE X K (.Compare a [op] [b] pos) (av f ta tb):=PE.imp (ZN ho ha hb hm) (oU br)
def wB(t:WE):WT:=fun ρ Q=>t ρ fun _ x=>match x with
 |.bl b=>Q b
 |_=>False
theorem BW(σ:St)(H:Hp)(Qv:Bool->Hp->Prop)(h:ui K (wB t) σ H Qv):Ou (oD K t) σ H Qv:=by
 obtain⟨Hs,ρ,ae,Q,sr,h,fin⟩:=h;refine⟨Hs,ρ,ae,_,sr,h,fun v H1 aw m x As g1 r1 f1 q1=>?_⟩;have r:=r1.rep g1.wf
 cases r with
 |bl b=>exact⟨b,rfl,fin b H1 aw g1 q1⟩
 |_=>exact q1.elim
theorem aM(ho:cy X (compareOp op) r)(br:hZ K r f)(ha:QE X K a ta)(hb:QE X K b tb)(hm:behindInMarks op b=false):QT X K (.Compare a [op] [b] pos) (wB (av f ta tb)):=by
 refine PT.imp (ZO ho ha hb hm) fun σ H Qv h=>?_;obtain⟨Hs,ρ,ae,Q,sr,h,fin⟩:=h;refine oU br σ H _ ⟨Hs,ρ,ae,_,sr,h,fun v H1 aw m x As g1 r1 f1 q1=>?_⟩;have r:=r1.rep g1.wf
 cases r with
 |bl b=>exact⟨b,rfl,fin b H1 aw g1 q1⟩
 |_=>exact q1.elim
theorem cN(h:QE X K a t)(he:∀ whole,isTrue a X.env whole=(do let v <- whole;standAt a.pos;holding [v] (truthy v)):=by intro _;rfl):QT X K a (wB t):=PT.imp (YH h he) BW
def iJ(f g:W2)(ta tb tc:WE):WE:=fun ρ Q=>ta ρ fun m x=>tb ρ fun n y=>f m x n y fun _ z=>match z with
 |.bl k=>if k=true then tc ρ fun l w=>g n y l w Q else Q .sh (.bl false)
 |_=>False
end
end L2.Q
namespace L2.Q
open PySem PySem.Spec PyProof.Rows
section
variable {X:Cx}{K:PySem.W.Frag}{a b c:Expr}{ta tb tc:WE}{pos:Pos}
theorem qw(br:hZ K r f)(ER:hZ K r' g)(σ:St)(H:Hp)(Qv:VK)(h:oD K (iJ f g ta tb tc) σ H Qv):Ov r r' (oD K ta) (oD K tb) (oD K tc) σ H Qv:=by
 obtain⟨Hs,ρ,ae,Q,sr,h,fin⟩:=h;refine⟨Hs,ρ,ae,_,sr,h,fun v H1 aw m x As g1 r1 f1 q1=>⟨aw,ρ,ae,_,sr.grow g1,q1,fun u H2 ax n y Bs g2 r2 f2 q2=>?_⟩⟩;refine br ax H2 m x v As n y u Bs _ _ g2.wf (r1.grow g2) r2 q2 fun z H3 g7 m3 d3 As3 g3 r3 f3 q3=>?_;have rr:=r3.rep g3.wf
 cases rr with
 |bl k =>
  refine⟨k,rfl,?_⟩;have Va:Fin K g7 H3 Q Qv:=Fin.after fin ((g1.trans g2).trans g3)
  cases k with
  |false=>exact Va.sh g3.wf (.bl false) q3
  |true =>refine⟨g7,ρ,ae,_,((sr.grow g1).grow g2).grow g3,q3,fun w H4 sR l z As4 g4 r4 f4 q4=>?_⟩;exact ER sR H4 n y u Bs l z w As4 Q Qv g4.wf ((r2.grow g3).grow g4) r4 q4 (Fin.after Va g4)
 |_=>exact q3.elim
theorem DR(ho:cy X (compareOp op) r)(ly:cy X (compareOp op') r')(br:hZ K r f)(ER:hZ K r' g)(ha:QE X K a ta)(hb:QE X K b tb)(hc:QE X K c tc)(hm:lastMarks [op,op'] [b,c]=false:=by with_unfolding_all rfl):QE X K (.Compare a [op,op'] [b,c] pos) (iJ f g ta tb tc):=PE.imp (ZP ho ly ha hb hc hm) (qw br ER)
theorem kJ(ho:cy X (compareOp op) r)(ly:cy X (compareOp op') r')(br:hZ K r f)(ER:hZ K r' g)(ha:QE X K a ta)(hb:QE X K b tb)(hc:QE X K c tc)(hm:lastMarks [op,op'] [b,c]=false:=by with_unfolding_all rfl):QT X K (.Compare a [op,op'] [b,c] pos) (wB (iJ f g ta tb tc)):=by
 refine PT.imp (ZQ ho ly ha hb hc hm) fun σ H Qv h=>?_;obtain⟨Hs,ρ,ae,Q,sr,h,fin⟩:=h;refine qw br ER σ H _ ⟨Hs,ρ,ae,_,sr,h,fun v H1 aw m x As g1 r1 f1 q1=>?_⟩;have r:=r1.rep g1.wf
 cases r with
 |bl b=>exact⟨b,rfl,fin b H1 aw g1 q1⟩
 |_=>exact q1.elim
def LH(t u:WT):WT:=fun ρ Q=>t ρ fun c=>if c=true then u ρ Q else Q false
def ja(t u:WT):WT:=fun ρ Q=>t ρ fun c=>if c=true then Q true else u ρ Q
def ic(t:WT):WT:=fun ρ Q=>t ρ fun c=>Q (!c)
variable {tA tB:WT}{rest:List Expr}
theorem rA{t u:WT}{f:Bool->TT}{σ:St}{H:Hp}{Qv:Bool->Hp->Prop}{G:Bool->(Bool->Prop)->Env->Prop}(h:ui K (fun ρ Q=>t ρ fun c=>G c Q ρ) σ H Qv)(i:∀ c H1 aw ρ ae Q,cS K aw ρ σ H1 ae->G c Q ρ->(∀ b H' ai,eu aw H1 ai H'->Q b->Qv b H')->f c σ H1 Qv):ui K t σ H fun c H1=>f c σ H1 Qv:=by
 obtain⟨Hs,ρ,ae,Q,sr,h,fin⟩:=h;exact⟨Hs,ρ,ae,_,sr,h,fun c H1 aw g1 q1=>i c H1 aw ρ ae Q (sr.grow g1) q1 fun b H' ai g2=>fin b H' ai (g1.trans g2)⟩
theorem yE(ha:QT X K a tA):QW X K (.BoolOp .And [a] pos) tA:=pw_and1 ha
theorem eF(ha:QT X K a tA):QW X K (.BoolOp .Or [a] pos) tA:=pw_or1 ha
theorem Cz(ha:QT X K a tA)(hb:QW X K (.BoolOp .And (b :: rest) pos) tB):QW X K (.BoolOp .And (a :: b :: rest) pos) (LH tA tB):=by
 refine PW.imp (pw_and ha hb) fun σ H Qv h=>?_;refine rA (u:=tB) (f:=fun c σ H1 Q=>if c=true then ui K tB σ H1 Q else Q false H1) h fun c H1 aw ρ ae Q sr q fin=>?_
 cases c with
 |true=>exact⟨aw,ρ,ae,Q,sr,q,fin⟩
 |false=>exact fin false H1 aw (eu.refl sr.wf) q
theorem gm(ha:QT X K a tA)(hb:QW X K (.BoolOp .Or (b :: rest) pos) tB):QW X K (.BoolOp .Or (a :: b :: rest) pos) (ja tA tB):=by
 refine PW.imp (pw_or ha hb) fun σ H Qv h=>?_;refine rA (u:=tB) (f:=fun c σ H1 Q=>if c=true then Q true H1 else ui K tB σ H1 Q) h fun c H1 aw ρ ae Q sr q fin=>?_
 cases c with
 |true=>exact fin true H1 aw (eu.refl sr.wf) q
 |false=>exact⟨aw,ρ,ae,Q,sr,q,fin⟩
theorem kR(h:QW X K a tA):QT X K a tA:=h _
theorem cB(ha:QT X K a tA):QT X K (.UnaryOp .Not a pos) (ic tA):=by refine PT.imp (YM ha) fun σ H Qv h=>?_;exact rA (u:=tA) (f:=fun c σ H1 Q=>Q (!c) H1) h fun c H1 aw ρ ae Q sr q fin=>fin _ H1 aw (eu.refl sr.wf) q
def iK(ta tb:WE):WE:=fun ρ Q=>ta ρ fun _ x=>match x with
 |.bl c=>if c=true then tb ρ Q else Q .sh (.bl false)
 |_=>False
def EV(ta tb:WE):WE:=fun ρ Q=>ta ρ fun _ x=>match x with
 |.bl c=>if c=true then Q .sh (.bl true) else tb ρ Q
 |_=>False
def BK(ta:WE):WE:=fun ρ Q=>ta ρ fun _ x=>match x with
 |.bl c=>Q .sh (.bl (!c))
 |_=>False
theorem mZ{op}(h:QE X K a ta):QE X K (.BoolOp op [a] pos) ta:=YS h
theorem jU(ha:QE X K a ta)(hb:QE X K (.BoolOp .And (b :: rest) pos) tb):QE X K (.BoolOp .And (a :: b :: rest) pos) (iK ta tb):=by
 refine PE.imp (YT ha hb) fun σ H Qv hx=>gX hx fun Hs ρ ae Q sr h fin=>?_;refine⟨Hs,ρ,ae,_,sr,h,fun v H1 aw m x As g1 r1 f1 q1=>?_⟩;have r:=r1.rep g1.wf
 cases r with
 |bl c =>
  refine⟨c,rfl,?_⟩
  cases c with
  |true=>exact⟨aw,ρ,ae,Q,sr.grow g1,q1,Fin.after fin g1⟩
  |false=>exact Fin.sh (Fin.after fin g1) g1.wf (.bl false) q1
 |_=>exact q1.elim
theorem Vb(ha:QE X K a ta)(hb:QE X K (.BoolOp .Or (b :: rest) pos) tb):QE X K (.BoolOp .Or (a :: b :: rest) pos) (EV ta tb):=by
 refine PE.imp (YV ha hb) fun σ H Qv hx=>gX hx fun Hs ρ ae Q sr h fin=>?_;refine⟨Hs,ρ,ae,_,sr,h,fun v H1 aw m x As g1 r1 f1 q1=>?_⟩;have r:=r1.rep g1.wf
 cases r with
 |bl c =>
  refine⟨c,rfl,?_⟩
  cases c with
  |true=>exact Fin.sh (Fin.after fin g1) g1.wf (.bl true) q1
  |false=>exact⟨aw,ρ,ae,Q,sr.grow g1,q1,Fin.after fin g1⟩
 |_=>exact q1.elim
theorem Ju(ha:QE X K a ta):QE X K (.UnaryOp .Not a pos) (BK ta):=by
 refine PE.imp (YW ha) fun σ H Qv hx=>gX hx fun Hs ρ ae Q sr h fin=>?_;refine⟨Hs,ρ,ae,_,sr,h,fun v H1 aw m x As g1 r1 f1 q1=>?_⟩;have r:=r1.rep g1.wf
 cases r with
 |bl c=>exact⟨c,rfl,Fin.sh (Fin.after fin g1) g1.wf (.bl _) q1⟩
 |_=>exact q1.elim
def bB':D->Option Bool
 |.non=>some false
 |.bl b=>some b
 |.int i=>some (i != 0)
 |.str x=>some ((x.length:Int) != 0)
 |.list xs=>some !xs.isEmpty
 |.tup xs=>some !xs.isEmpty
 |.dK ah=>none
 |.dT ah=>none
end
def eH:W2:=fun m x n y Q=>match x,y with
 |.int i,.int j=>Q .sh (.int (i+j))
 |.str i,.str j=>i.length+j.length<=sizeLine/\Q .sh (.str (i++j))
 |.list xs,.list ys=>xs.length+ys.length<=sizeLine/\((ck xs=true/\ck ys=true/\Q (.ow true) (.list (xs++ys)))\/(m=.sh/\n=.sh/\Q (.ow false) (.list (xs++ys))))
 |.tup xs,.tup ys=>xs≠[]/\xs.length+ys.length<=sizeLine/\ck xs=true/\ck ys=true/\Q .sh (.tup (xs++ys))
 |_,_=>False
def B1(P:Int->Int->(Md->D->Prop)->Prop):W2:=fun _ x _ y Q=>match x,y with
 |.int i,.int j=>P i j Q
 |_,_=>False
def PF(P:Int->Int->(Md->D->Prop)->Prop)(S:Str->Str->(Md->D->Prop)->Prop):W2:=fun _ x _ y Q=>match x,y with
 |.int i,.int j=>P i j Q
 |.str i,.str j=>S i j Q
 |_,_=>False
def xt:W2:=B1 fun i j Q=>Q .sh (.int (i-j))
def xv:W2:=B1 fun i j Q=>BI i j/\Q .sh (.int (i*j))
def nI:W2:=B1 fun i j Q=>(0<j/\j<1073741824)/\Q .sh (.int (i / j))
def fS:W2:=B1 fun i j Q=>0<j/\Q .sh (.int (i % j))
def yB:W2:=PF (fun i j Q=>Q .sh (.bl (decide (i<j)))) fun i j Q=>Q .sh (.bl (yA i j))
def pV:W2:=PF (fun i j Q=>Q .sh (.bl (decide (i<=j)))) fun i j Q=>Q .sh (.bl (!yA j i))
def PH:W2:=B1 fun i j Q=>Q .sh (.bl (decide (j<i)))
def eL:W2:=fun _ x _ y Q=>match x,y with
 |.int i,.int j=>Q .sh (.bl (decide (i=j)))
 |.str i,.str j=>Q .sh (.bl (decide (i=j)))
 |.bl i,.bl j=>Q .sh (.bl (decide (i=j)))
 |_,_=>dy 12 x=true/\dy 12 y=true/\Q .sh (.bl (jS x y))
def nK:W2:=fun _ x _ y Q=>match x,y with
 |.int i,.int j=>Q .sh (.bl (!decide (i=j)))
 |.str i,.str j=>Q .sh (.bl (!decide (i=j)))
 |.bl i,.bl j=>Q .sh (.bl (!decide (i=j)))
 |_,_=>dy 12 x=true/\dy 12 y=true/\Q .sh (.bl (!jS x y))
def D.isN:D->Bool
 |.non=>true
 |_=>false
def jk:D->Bool
 |.non=>true
 |.bl _=>true
 |.int _=>true
 |.str _=>true
 |_=>false
def inD(x:D)(ys:List D):Bool:=ys.any fun y=>jS y x
def uj(neg:Bool):W2:=fun _ x _ y Q=>match y with
 |.str j=>match x with
  |.str i=>Q .sh (.bl (if neg then !pS i j else pS i j))
  |_=>False
 |.list ys=>jk x=true/\ys.all jk=true/\Q .sh (.bl (if neg then !inD x ys else inD x ys))
 |.tup ys=>jk x=true/\ys.all jk=true/\Q .sh (.bl (if neg then !inD x ys else inD x ys))
 |.dK ah=>∃ k,x.key1=some k/\Q .sh (.bl (if neg then !(kQ ah k).isSome else (kQ ah k).isSome))
 |.dT ah=>match x with
  |.tup xs=>∃ ks,pX xs=some ks/\Q .sh (.bl (if neg then !(kQ ah ks).isSome else (kQ ah ks).isSome))
  |_=>False
 |_=>False
section
variable {K:PySem.W.Frag}
theorem hZ.sF(h:∀ Hs H m x v As n y u Bs Qd Qv,Wf Hs H->RM K Hs H m x v As->RM K Hs H n y u Bs->f m x n y Qd->Fin K Hs H Qd Qv->r v u H Qv):hZ K r f:=h
theorem zy(f:Fin K Hs H Qd Qv)(w:Wf Hs H)(h:x.length<=sizeLine)(q:Qd .sh (.str x)):Qv (.str x) H:=f.sh w (.str h) q
theorem bQ(i j:Str):(i++j).length=i.length+j.length:=by show((i++j).cps.size)=_;show(i.cps++j.cps).size=_;simp[Str.length]
theorem Hx:hZ K (fun x y H Q=>BJ K x y H Q\/OG K x y H Q) eH:=by
 intro Hs H m x v As n y u Bs Qd Qv w rx ry h f;have r1:=rx.rep w;have r2:=ry.rep w;unfold eH at h
 cases r1 with
 |int i=>cases r2 with
  |int j=>exact .inl (f.sh w (.int _) h)
  |_=>exact h.elim
 |str hi=>cases r2 with
  |str hj=>exact .inl ⟨h.1,zy f w (by rw[bQ];exact h.1) h.2⟩
  |_=>exact h.elim
 |list z1 s1 q1=>cases r2 with
  |list z2 s2 q2 =>
   have l1:=q1.length;have l2:=q2.length;have hz:=h.1;rcases h.2 with⟨f1,f2,q⟩|⟨rfl,rfl,q⟩
   ·refine .inl ⟨_,_,s1,s2,by lia,?_⟩;exact f.lst w (by rw[kg];exact hz) (q1.append q2) (by rw[iQ,f1,f2];rfl) q
   ·obtain⟨_,rx⟩:=rx;obtain⟨_,ry⟩:=ry
    cases rx with
    |list z1' s1' Vc=>cases ry with
     |list z2' s2' Vd =>have l1:=Vc.length;have l2:=Vd.length;refine .inl ⟨_,_,ay.seq w.sub s1',ay.seq w.sub s2',by lia,?_⟩;exact f.LD w (by rw[kg];exact hz) (Vc.append Vd) q
  |_=>exact h.elim
 |tup t1 s1 q1=>cases r2 with
  |tup t2 s2 q2 =>
   have l1:=q1.length;have l2:=q2.length;obtain⟨sN,hz,f1,f2,q⟩:=h;refine .inr ⟨_,_,_,_,rfl,rfl,.inl (.inl s1),.inl (.inl s2),?_,by lia,?_⟩
   ·intro e;subst e;exact sN (List.length_eq_zero_iff.mp l1)
   ·refine⟨fun e=>?_,fun _=>f.tup w (by rw[kg];exact hz) (q1.append q2) (by rw[iQ,f1,f2];rfl) q⟩;subst e;cases q2;rw[kX] at q;exact f.flat w (.tup t1 s1 q1) (by simpa[D.flat] using f1) q
  |_=>exact h.elim
 |_=>exact h.elim
theorem Cr{H:Hp}{x y:D}{v u:V}{m n:Md}{P:Int->Int->(Md->D->Prop)->Prop}{S:Str->Str->(Md->D->Prop)->Prop}{Q:Md->D->Prop}{G:Prop}(r1:Rep K H x v)(r2:Rep K H y u)(h:PF P S m x n y Q)(k:∀ i j,v=.int i->u=.int j->P i j Q->G)(ks:∀ i j,v=.str i->u=.str j->S i j Q->G):G:=by
 cases r1 with
 |int i=>cases r2 with
  |int j=>exact k i j rfl rfl h
  |_=>exact h.elim
 |str hi=>cases r2 with
  |str hj=>exact ks _ _ rfl rfl h
  |_=>exact h.elim
 |_=>exact h.elim
theorem nZ{H:Hp}{x y:D}{v u:V}{m n:Md}{P:Int->Int->(Md->D->Prop)->Prop}{Q:Md->D->Prop}{G:Prop}(r1:Rep K H x v)(r2:Rep K H y u)(h:B1 P m x n y Q)(k:∀ i j,v=.int i->u=.int j->P i j Q->G):G:=by
 cases r1 with
 |int i=>cases r2 with
  |int j=>exact k i j rfl rfl h
  |_=>exact h.elim
 |_=>exact h.elim
theorem Gj:hZ K Fy xt:=by
 intro Hs H m x v As n y u Bs Qd Qv w rx ry h f;exact nZ (rx.rep w) (ry.rep w) h fun i j e1 e2 q=>by subst e1 e2;exact f.sh w (.int _) q
theorem Ha:hZ K Fx xv:=by
 intro Hs H m x v As n y u Bs Qd Qv w rx ry h f;exact nZ (rx.rep w) (ry.rep w) h fun i j e1 e2 q=>by subst e1 e2;exact⟨q.1,f.sh w (.int _) q.2⟩
theorem Hl:hZ K D_ nI:=by
 intro Hs H m x v As n y u Bs Qd Qv w rx ry h f;exact nZ (rx.rep w) (ry.rep w) h fun i j e1 e2 q=>by subst e1 e2;exact⟨q.1,f.sh w (.int _) q.2⟩
theorem G6:hZ K Ej fS:=by
 intro Hs H m x v As n y u Bs Qd Qv w rx ry h f;exact nZ (rx.rep w) (ry.rep w) h fun i j e1 e2 q=>by subst e1 e2;exact⟨q.1,f.sh w (.int _) q.2⟩
theorem JR:hZ K Pm PH:=by
 intro Hs H m x v As n y u Bs Qd Qv w rx ry h f;exact nZ (rx.rep w) (ry.rep w) h fun i j e1 e2 q=>by subst e1 e2;exact f.sh w (.bl _) q
theorem yP:hZ K Pk yB:=by
 intro Hs H m x v As n y u Bs Qd Qv w rx ry h f;exact Cr (rx.rep w) (ry.rep w) h (fun i j e1 e2 q=>by
  subst e1 e2;exact f.sh w (.bl _) q) fun i j e1 e2 q=>by
  subst e1 e2;exact f.sh w (.bl _) q
theorem qd:hZ K Pl pV:=by
 intro Hs H m x v As n y u Bs Qd Qv w rx ry h f;exact Cr (rx.rep w) (ry.rep w) h (fun i j e1 e2 q=>by
  subst e1 e2;exact f.sh w (.bl _) q) fun i j e1 e2 q=>by
  subst e1 e2;exact f.sh w (.bl _) q
theorem eq_data(w:Wf Hs H)(rx:Rep K H x v)(ry:Rep K H y u)(f:Fin K Hs H Qd Qv)(h:dy 12 x=true/\dy 12 y=true/\Qd .sh (.bl (jS x y))):Pp K v u H Qv:=by obtain⟨h1,h2,q⟩:=h;have l1:=wZ 12 x h1;have l2:=wZ 12 y h2;exact⟨x.py,y.py,rx.l2 h1,ry.l2 h2,l1.1,l2.1,by lia,f.sh w (.bl _) q⟩
theorem ne_data(w:Wf Hs H)(rx:Rep K H x v)(ry:Rep K H y u)(f:Fin K Hs H Qd Qv)(h:dy 12 x=true/\dy 12 y=true/\Qd .sh (.bl (!jS x y))):Pq K v u H Qv:=by obtain⟨h1,h2,q⟩:=h;have l1:=wZ 12 x h1;have l2:=wZ 12 y h2;exact⟨x.py,y.py,rx.l2 h1,ry.l2 h2,l1.1,l2.1,by lia,f.sh w (.bl _) q⟩
theorem cA:hZ K (Kk K) eL:=by
 intro Hs H m x v As n y u Bs Qd Qv w rx ry h f;have r1:=rx.rep w;have r2:=ry.rep w;have d:=fun h=>eq_data (Qd:=Qd) (Qv:=Qv) w r1 r2 f h
 cases r1 with
 |int i=>cases r2 with
  |int j=>exact f.sh w (.bl _) h
  |_=>exact d h
 |str i=>cases r2 with
  |str j=>exact f.sh w (.bl _) h
  |_=>exact d h
 |bl i=>cases r2 with
  |bl j=>exact f.sh w (.bl _) h
  |_=>exact d h
 |_=>exact d h
theorem sU:hZ K (Kn K) nK:=by
 intro Hs H m x v As n y u Bs Qd Qv w rx ry h f;have r1:=rx.rep w;have r2:=ry.rep w;have d:=fun h=>ne_data (Qd:=Qd) (Qv:=Qv) w r1 r2 f h
 cases r1 with
 |int i=>cases r2 with
  |int j=>exact f.sh w (.bl _) h
  |_=>exact d h
 |str i=>cases r2 with
  |str j=>exact f.sh w (.bl _) h
  |_=>exact d h
 |bl i=>cases r2 with
  |bl j=>exact f.sh w (.bl _) h
  |_=>exact d h
 |_=>exact d h
theorem nY(r:Rep K H x v)(h:jk x=true):sF v=true:=by cases r<;>first|rfl|(simp[jk] at h)
theorem Dt(r:Rep K H x v)(s:Rep K H y u)(h:jk x=true)(g:jk y=true):w8 v u=jS x y:=by cases r<;>simp[jk] at h<;>cases s<;>simp[jk] at g<;>rfl
theorem Hb(r:Rep K H x v)(h:jk x=true)(rs:aS K H ys us)(g:ys.all jk=true):us.all sF=true/\IU v us=inD x ys:=by
 induction ys generalizing us with
 |nil=>rw[rs.n0];exact⟨rfl,rfl⟩
 |cons y ys ih =>
  obtain⟨u,us,rfl,s,ss⟩:=rs.c;simp only[vv,i6] at g;obtain⟨e1,e2⟩:=ih ss g.2;refine⟨by simp only[vv,nY s g.1,e1,Bool.and_self],?_⟩;unfold IU inD at *
  rw[vw,vw,e2,Dt s r g.1 h]
theorem uQ{κ:Type}[DecidableEq κ]{H:Hp}{k:κ}{ah:List (κ × D)}{vs:List V}(r:aS K H (ah.map (·.2)) vs):(nc ((ah.map (·.1)).zip vs) k).isSome=(kQ ah k).isSome:=by
 have:=zip_get (k:=k) r;split at this
 ·rename_i e;obtain⟨v,e1,_⟩:=this;rw[e1,e];rfl
 ·rename_i e;rw[this,e];rfl
theorem Bf:hZ K (KG K neg) (uj neg):=by
 intro Hs H m x v As n y u Bs Qd Qv w rx ry h f;have r1:=rx.rep w;have r2:=ry.rep w
 cases r2 with
 |str j=>cases r1 with
  |str i=>exact f.sh w (.bl _) h
  |_=>exact h.elim
 |list z s q =>
  obtain⟨h1,h2,h3⟩:=h;obtain⟨e1,e2⟩:=Hb r1 h1 q h2;have h4:=nY r1 h1;have g:IX K neg v (.ref _) H Qv:=⟨_,_,rfl,.inl s,h4,e1,by rw[e2];exact f.sh w (.bl _) h3⟩
  cases r1<;>exact .inr g
 |tup _ s q =>
  obtain⟨h1,h2,h3⟩:=h;obtain⟨e1,e2⟩:=Hb r1 h1 q h2;have h4:=nY r1 h1;have g:IX K neg v (.ref _) H Qv:=⟨_,_,rfl,.inr (.inl (.inl s)),h4,e1,by rw[e2];exact f.sh w (.bl _) h3⟩
  cases r1<;>exact .inr g
 |dK kk e q =>obtain⟨k,hk,h3⟩:=h;have ev:=r1.key hk;subst ev;have eg:=uQ (k:=k) q;cases k<;>exact .inl ⟨_,ng.k' e,by rw[eg];exact f.sh w (.bl _) h3⟩
 |dT kk e q =>
  cases r1 with
  |tup t1 e1 q1 =>obtain⟨ks,hk,h3⟩:=h;obtain⟨b,eb,e2⟩:=Rep.EK (.tup t1 e1 q1) hk;cases eb;have eg:=uQ (k:=ks) q;exact .inl ⟨_,ng.t' e e2,by rw[eg];exact f.sh w (.bl _) h3⟩
  |_=>exact h.elim
 |_=>exact h.elim
end
section
variable {X:Cx}{K:PySem.W.Frag}{a b:Expr}{ta tb:WE}{pos:Pos}
theorem Jb(hK:X.K=K:=by rfl):cy X (binaryOp .Add) (fun x y H Q=>BJ K x y H Q\/OG K x y H Q):=by subst hK;exact vh.or al'
theorem bW(ha:QE X K a ta)(hb:QE X K b tb)(hK:X.K=K:=by rfl):QE X K (.BinOp a .Add b pos) (av eH ta tb):=AF (Jb hK) Hx ha hb
theorem xU(ha:QE X K a ta)(hb:QE X K b tb):QE X K (.BinOp a .Sub b pos) (av xt ta tb):=AF Dy Gj ha hb
theorem yg(ha:QE X K a ta)(hb:QE X K b tb):QE X K (.BinOp a .Mult b pos) (av xv ta tb):=AF Fo Ha ha hb
theorem lE(ha:QE X K a ta)(hb:QE X K b tb):QE X K (.BinOp a .FloorDiv b pos) (av nI ta tb):=AF Fb Hl ha hb
theorem dO(ha:QE X K a ta)(hb:QE X K b tb):QE X K (.BinOp a .Mod b pos) (av fS ta tb):=AF DX G6 ha hb
def EW:W1:=fun _ x Q=>match x with
 |.int i=>Q .sh (.int (-i))
 |_=>False
theorem Gs:U_ K (rU fun i=>.int (-i)) EW:=by
 intro Hs H m x v As Qd Qv w rx h f;have r1:=rx.rep w
 cases r1 with
 |int i=>exact⟨i,rfl,f.sh w (.int _) h⟩
 |_=>exact h.elim
theorem Gr(ha:QE X K a ta):QE X K (.UnaryOp .USub a pos) (cv EW ta):=by' ZD Gs ha
end
def aI:WA:=fun _ Q=>Q []
def ak(te:WE)(t:WA):WA:=fun ρ Q=>te ρ fun m x=>t ρ fun ps=>Q ((m,x) :: ps)
def qa:Md × D->Bool
 | (.sh,_)=>true
 | (_,d)=>d.flat
def AG:Md × D->Bool
 | (.bo,d)=>d.flat
 |_=>true
def yT:Md × D->Bool
 | (.ow true,_)=>true
 | (_,d)=>d.flat
def yd(ps:List (Md × D)):Md:=bif ps.all qa then .sh else bif ps.all AG then .ow (ps.all yT) else .bo
def Dr(ps:List (Md × D)):Md:=bif ps.all AG then .ow (ps.all yT) else .bo
def ip(t:WA):WE:=fun ρ Q=>t ρ fun ps=>ps.length<=sizeLine/\Q (yd ps) (.tup (ps.map (·.2)))
def fT(t:WA):WE:=fun ρ Q=>t ρ fun ps=>ps.length<=sizeLine/\Q (Dr ps) (.list (ps.map (·.2)))
section
variable {X:Cx}{K:PySem.W.Frag}{e:Expr}{es:List Expr}{te:WE}{t:WA}{pos:Pos}{Hs H:Hp}
theorem aq:QA X K [] aI:=PA.imp lI fun σ H Qv hx=>gX hx fun Hs ρ ae Q sr h f=>f [] H Hs [] [] (eu.refl sr.wf) .nil dU.nil h
theorem dU.app(f1:dU aw H As)(o:∀ a∈As,H1 a≠none)(f2:dU ax H1 Bs)(s:ay H H1)(k:∀ a,aw a=none->H1 a≠none->ax a=none):dU ax H (As++Bs) :=
 ⟨hU.mpr ⟨f1.1,f2.1,fun a ha b hb e=>by subst e;exact o a ha (f2.2 a hb).2⟩,fun a h=>by
  rcases eW.mp h with h|h
  ·exact⟨k a (f1.2 a h).1 (o a h),(f1.2 a h).2⟩
  ·exact⟨(f2.2 a h).1,s.free (f2.2 a h).2⟩⟩
theorem aa(ha:QE X K e te)(hr:QA X K es t)(hs:starEach (e :: es) X.env=(false,eval e X.env) :: starEach es X.env:=by rfl):QA X K (e :: es) (ak te t):=by refine PA.imp (iA ha hr hs) fun σ H Qv hx=>gX hx fun Hs ρ ae Q sr h f=>?_;refine⟨Hs,ρ,ae,_,sr,h,fun v H1 aw m x As g1 r1 f1 q1=>⟨aw,ρ,ae,_,sr.grow g1,q1,fun vs H2 ax ps Bs g2 r2 f2 q2=>?_⟩⟩;exact f (v :: vs) H2 ax _ _ (g1.trans g2) (.cons (r1.grow g2) r2) (f1.app (fun a h=>(r1.own a h).ne) f2 g1.all fun a h1 h2=>g2.lS h1 h2) q2
theorem nh.sh(w:Wf Hs H){ps:List (Md × D)}(r:nh K Hs H ps vs As):ps.all qa=true->aS K Hs (ps.map (·.2)) vs:=by
 induction r with
 |nil=>exact fun _=>.nil
 |@cons m d v ps vs As Bs r rs ih =>
  intro h;simp only[vv,i6] at h;refine .cons ?_ (ih h.2)
  cases m with
  |sh=>exact r.2
  |ow fl=>exact r.flat w h.1
  |bo=>exact r.flat w h.1
theorem nh.ow(w:Wf Hs H){ps:List (Md × D)}(r:nh K Hs H ps vs As):ps.all AG=true->(fl=true->ps.all yT=true)->∃ Bs,Bs.Sublist As/\(ps.all qa=false->Bs≠[])/\aF K Hs H fl (ps.map (·.2)) vs Bs:=by
 induction r with
 |nil=>exact fun _ _=>⟨[],vn _,(fun z=>Bool.noConfusion z),.nil⟩
 |@cons m d v ps vs A1 Cs r rs ih =>
  intro h hf;simp only[vv,i6] at h hf;obtain⟨Bs,sb,ne,q⟩:=ih h.2 fun z=>(hf z).2;have sk:([]++Bs).Sublist (A1++Cs):=by simpa using sb.trans (kF _ _)
  have vF:d.flat=true->qa (m,d)=true->∃ Bs,Bs.Sublist (A1++Cs)/\(((m,d) :: ps).all qa=false->Bs≠[])/\aF K Hs H fl (((m,d) :: ps).map (·.2)) (v :: vs) Bs:=fun hd ho =>
   ⟨[]++Bs,sk,fun z=>ne (by rw[vv,ho] at z;simpa using z),.cons (.sh (fun _=>hd) (r.flat w hd)) q⟩
  cases m with
  |sh=>exact⟨[]++Bs,sk,fun z=>ne (by simpa[qa] using z),.cons (.sh (fun z=>(hf z).1) r.2) q⟩
  |bo=>exact vF h.1 h.1
  |ow b =>
   cases hd:d.flat with
   |true=>exact vF hd hd
   |false =>
    refine⟨A1++Bs,sb.append_left _,fun _ z=>r.2 (CD.mp z).1,.cons ?_ q⟩
    cases fl with
    |false=>exact bP.Lv r.1
    |true =>
     have:=(hf rfl).1
     cases b with
     |true=>exact r.1
     |false=>simp[yT,hd] at this
theorem rQ:∀ {ps:List (Md × D)},ck (ps.map (·.2))=true->ps.all qa=true
 |[],_=>rfl
 | (m,d) :: ps,h=>by simp only[hV,ck,i6] at h;simp only[vv,i6];exact⟨by cases m<;>simp[qa,h.1],rQ h.2⟩
theorem eQ{x1}(h:QA X K es t):QE X K (.Tuple es x1 pos) (ip t):=by
 refine PE.imp (IE h) fun σ H Qv hx=>gX hx fun Hs ρ ae Q sr h f=>?_;refine⟨Hs,ρ,ae,_,sr,h,fun vs H1 aw ps As g1 r1 f1 q1=>?_⟩;obtain⟨hz,q⟩:=q1;have rl:=(r1.reps g1.wf)
 have hl:=rl.length;rw[da] at hl;refine⟨by lia,fun p hp=>?_⟩;have g2:=AB (vs:=vs) g1.wf hp;have fin:=Fin.after f g1;unfold yd at q
 cases h1:ps.all qa with
 |true =>rw[h1] at q;exact fin _ _ _ .sh _ [] g2 ⟨rfl,.tup (by lia) gg ((r1.sh g1.wf h1).same g2.sh)⟩ dU.nil q
 |false =>
  rw[h1] at q
  cases h2:ps.all AG with
  |false =>rw[h2] at q;exact fin _ _ _ .bo _ [] g2 ⟨rfl,.tup (by lia) gg (rl.same g2.all)⟩ dU.nil q
  |true =>
   rw[h2] at q;obtain⟨Bs,sb,nz,ro⟩:=r1.ow (fl:=ps.all yT) g1.wf h2 fun z=>z;have sN:ck (ps.map (·.2))=false:=by
    cases hf:ck (ps.map (·.2)) with
    |false=>rfl
    |true=>rw[rQ hf] at h1;cases h1
   have own:=ro.own;refine f _ _ _ (.ow _) _ Bs (g1.trans g2) ⟨.tup (by lia) gg sN (ro.grow g2.sh g2.all),nz h1⟩ ⟨sb.nodup f1.1,fun a ha=>⟨?_,(f1.2 a (sb.subset ha)).2⟩⟩ q;exact g2.lS (f1.2 a (sb.subset ha)).1 (own a ha).ne
theorem dq(h:QA X K es t):QE X K (.List es pos) (fT t):=by
 refine PE.imp (ZZ h) fun σ H Qv hx=>gX hx fun Hs ρ ae Q sr h f=>?_;refine⟨Hs,ρ,ae,_,sr,h,fun vs H1 aw ps As g1 r1 f1 q1=>?_⟩;obtain⟨hz,q⟩:=q1;have rl:=(r1.reps g1.wf)
 have hl:=rl.length;rw[da] at hl;refine⟨by lia,fun p hp=>?_⟩;have g2:=BU (o:=.lst vs) g1.wf hp fun _ z=>nomatch z;have fin:=Fin.after f g1;unfold Dr at q
 cases h2:ps.all AG with
 |false =>rw[h2] at q;exact fin _ _ _ .bo _ [] g2 ⟨rfl,.list (by lia) (.inl (.inl gg)) (rl.same g2.all)⟩ dU.nil q
 |true =>
  rw[h2] at q;obtain⟨Bs,sb,nz,ro⟩:=r1.ow (fl:=ps.all yT) g1.wf h2 fun z=>z;have own:=ro.own;refine f _ _ _ (.ow _) _ (p :: Bs) (g1.trans g2) ⟨.list (by lia) gg (ro.grow g2.sh g2.all),by simp⟩ ⟨mx.mpr ⟨fun m=>(own p m).ne hp,sb.nodup f1.1⟩,fun a ha=>?_⟩ q;rcases eK.mp ha with rfl|ha
  ·exact⟨g1.wf.sub.free hp,g1.all.free hp⟩
  ·exact⟨g2.lS (f1.2 a (sb.subset ha)).1 (own a ha).ne,(f1.2 a (sb.subset ha)).2⟩
end
theorem aS.eB{K:PySem.W.Frag}(r:aS K H ds vs)(h:eB ds i=some d):∃ v,L2.eB vs i=some v/\Rep K H d v:=by
 unfold L2.eB at *
 rw[<- r.length]
 cases e:sD ds.length i with
 |none=>rw[e] at h;cases h
 |some j =>rw[e] at h;exact r.get h
def dn:W2:=fun m x _ y Q=>match x with
 |.list xs=>match y with
  |.int i=>∃ d,eB xs i=some d/\bp d (f:=fun d=>Q (kA m d) d) ⟨⟩
  |_=>False
 |.tup xs=>match y with
  |.int i=>∃ d,eB xs i=some d/\bp d (f:=fun d=>Q (kA m d) d) ⟨⟩
  |_=>False
 |.str z=>match y with
  |.int i=>∃ c,eB z.cps.toList i=some c/\Q .sh (.str ⟨#[c]⟩)
  |_=>False
 |.dK ah=>∃ k d,y.key1=some k/\kQ ah k=some d/\bp d (f:=fun d=>Q (kA m d) d) ⟨⟩
 |.dT ah=>match y with
  |.tup ys=>∃ ks d,pX ys=some ks/\kQ ah ks=some d/\bp d (f:=fun d=>Q (kA m d) d) ⟨⟩
  |_=>False
 |_=>False
def PJ(K:PySem.W.Frag):R2:=fun x y H Q=>Ki K x y H Q\/∃ a v,x=.ref a/\ng H a y (some v)/\Q v H
theorem yr(c:Nat):(⟨#[c]⟩:Str).length<=sizeLine:=by show 1<=sizeLine;decide
theorem RM.here{K:PySem.W.Frag}(w:Wf Hs H)(r:RM K Hs H m d v As):(m=.sh/\Rep K Hs d v)\/(m≠.sh/\Rep K H d v):=by
 cases m with
 |sh=>exact .inl ⟨rfl,r.2⟩
 |ow fl=>exact .inr ⟨(fun z=>nomatch z),r.rep w⟩
 |bo=>exact .inr ⟨(fun z=>nomatch z),r.2⟩
section
variable {X:Cx}{K:PySem.W.Frag}
theorem Im:hZ K (PJ K) dn:=by
 intro Hs H m x v As n y u Bs Qd Qv w rx ry h f;have r2:=ry.rep w;have core:∀ G:Hp,ay G H->(∀ d v,Rep K G d v->Rep K H d v/\(m=.sh->Rep K Hs d v))->Rep K G x v->PJ K v u H Qv:=by
  intro G sg up r1
  cases r1 with
  |list z s q =>
   cases r2 with
   |int i =>obtain⟨d,e,h⟩:=h;obtain⟨v',e',r'⟩:=q.eB e;obtain⟨u1,u2⟩:=up _ _ r';exact .inl (.inl ⟨_,v',ay.seq sg s,e',f.kA w u1 u2 h⟩)
   |_=>exact h.elim
  |tup _ s q =>
   cases r2 with
   |int i =>obtain⟨d,e,h⟩:=h;obtain⟨v',e',r'⟩:=q.eB e;obtain⟨u1,u2⟩:=up _ _ r';exact .inl (.inr ⟨_,v',.inl (.inl (sg _ _ s)),e',f.kA w u1 u2 h⟩)
   |_=>exact h.elim
  |str hz =>
   cases r2 with
   |int i =>obtain⟨c,e,h⟩:=h;exact .inl ⟨hz,c,e,f.sh w (.str (yr c)) h⟩
   |_=>exact h.elim
  |dK kk s q =>obtain⟨k,d,hk,hg,h⟩:=h;have ev:=r2.key hk;subst ev;have z:=zip_get (k:=k) q;rw[hg] at z;obtain⟨v',e',r'⟩:=z;obtain⟨u1,u2⟩:=up _ _ r';exact .inr ⟨_,v',rfl,by rw[<- e'];exact ng.k' (ay.rd sg s),f.kA w u1 u2 h⟩
  |dT kk s q =>
   cases r2 with
   |tup t2 e2 q2 =>obtain⟨ks,d,hk,hg,h⟩:=h;obtain⟨b,eb,e3⟩:=Rep.EK (.tup t2 e2 q2) hk;cases eb;have z:=zip_get (k:=ks) q;rw[hg] at z;obtain⟨v',e',r'⟩:=z;obtain⟨u1,u2⟩:=up _ _ r';exact .inr ⟨_,v',rfl,by rw[<- e'];exact ng.t' (ay.rd sg s) e3,f.kA w u1 u2 h⟩
   |_=>exact h.elim
  |_=>exact h.elim
 rcases rx.here w with⟨hm,r⟩|⟨hm,r⟩
 ·exact core Hs w.sub (fun d v q=>And.intro (q.same w.sub) fun _=>q) r
 ·exact core H (ay.refl H) (fun d v q=>And.intro q fun z=>absurd z hm) r
theorem bF'(hu:X.A.units+64<cLine)(hK:X.K=K:=by rfl):pz X (PJ K):=by subst hK;refine pz.or CK ?_;intro value slice pins s σ H x y v u Q I rx ry h hs;obtain⟨a,w,rfl,g,q⟩:=h;cases rx;exact tail_any (aJ' I g) F.slot_dict_getitem.lookup (aF' (by lia) I g ry fun w' s3 I3 mS=>⟨w,H,I3,mS,q⟩) hs
variable {a b:Expr}{ta tb:WE}{pos:Pos}
theorem eI(hu:X.A.units+64<cLine)(ha:QE X K a ta)(hb:QE X K b tb)(hs:IQ b:=by exact fun _ _=>rfl)(hK:X.K=K:=by rfl):QE X K (.Subscript a b pos) (av dn ta tb):=PE.imp (OO (bF' hu hK) ha hb hs) (oU Im)
end
def fi{α:Type}(xs:List α)(lo hi:Option Int):List α:=(xs.drop (HT.bG xs.length 0 lo)).take (HT.bG xs.length xs.length hi-HT.bG xs.length 0 lo)
abbrev WO:=Env->(Option Int->Prop)->Prop
def cI:WO:=fun _ Q=>Q none
def fW(t:WE):WO:=fun ρ Q=>t ρ fun _ x=>match x with
 |.int i=>Q (some i)
 |_=>False
def EX(m:Md)(x:D)(lo hi:Option Int)(Q:Md->D->Prop):Prop:=match x with
 |.str z=>Q .sh (.str (iE z lo hi))
 |.list xs=>(ck xs=true/\Q (.ow true) (.list (fi xs lo hi)))\/(m=.sh/\Q (.ow false) (.list (fi xs lo hi)))
 |.tup xs=>ck xs=true/\¬ (HT.bG xs.length 0 lo=0/\HT.bG xs.length xs.length hi=xs.length)/\Q .sh (.tup (fi xs lo hi))
 |_=>False
def kS(te:WE)(tl th:WO):WE:=fun ρ Q=>te ρ fun m x=>tl ρ fun lo=>th ρ fun hi=>EX m x lo hi Q
def tpO(K:PySem.W.Frag)(t:WO):TO:=fun σ H Qv=>∃ Hs ρ ae Q,cS K Hs ρ σ H ae/\t ρ Q/\∀ o H' ai,eu Hs H ai H'->Q o->Qv o H'
abbrev QO(X:Cx)(K:PySem.W.Frag)(e:Option Expr)(t:WO):Prop:=PO X e (tpO K t)
theorem Bm(z:Str)(lo hi:Option Int):(iE z lo hi).length<=z.length:=by unfold iE Str.length;simp only[hR,n5,qB,tv];lia
theorem su{α:Type}(xs:List α)(lo hi:Option Int):(fi xs lo hi).length<=xs.length:=by unfold fi;rw[n5,qB];lia
theorem uP{lo hi:Option Int}(h:ck xs=true):ck (fi xs lo hi)=true:=by
 rw[uE] at *
 intro x hx;exact h x (CH (CL hx))
section
variable {X:Cx}{K:PySem.W.Frag}{e:Expr}{lo hi:Option Expr}{te:WE}{tl th:WO}{pos p2:Pos}
theorem dI:QO X K none cI:=fun pins s σ H Q I h=>ag' pins s σ H Q I (by
 obtain⟨Hs,ρ,ae,Qd,sr,h,f⟩:=h;exact f none H Hs (eu.refl sr.wf) h)
theorem cO(h:QE X K e te):QO X K (some e) (fW te):=fun pins s σ H Q I hh=>ah' h pins s σ H Q I (by
 obtain⟨Hs,ρ,ae,Qd,sr,h,f⟩:=hh;refine⟨Hs,ρ,ae,_,sr,h,fun v H1 aw m x As g1 r1 f1 q1=>?_⟩;have r:=r1.rep g1.wf
 cases r with
 |int i=>exact⟨i,rfl,f _ H1 aw g1 q1⟩
 |_=>exact q1.elim)
theorem pq{lo hi:Option Int}(r:aS K H ds vs):aS K H (fi ds lo hi) (wq vs lo hi):=by unfold fi wq;rw[r.length];exact(r.drop _).take _
theorem bH'(hK:X.K=K:=by rfl):ua X (fun x lo hi H Q=>Pn K x lo hi H Q\/Uv K x lo hi H Q):=by
 subst hK;intro pins s σ H x v vl vu lo hi sl Q I rx hs pl pu h;rcases h with h|h
 ·exact Gp pins s σ H x v vl vu lo hi sl Q I rx hs pl pu h
 ·exact ak' pins s σ H x v vl vu lo hi sl Q I rx hs pl pu h
theorem dg(he:QE X K e te)(hl:QO X K lo tl)(hh:QO X K hi th)(hK:X.K=K:=by rfl):QE X K (.Subscript e (.Slice lo hi none p2) pos) (kS te tl th):=by
 refine PE.imp (aj' (bH' hK) he hl hh) fun σ H Qv hx=>gX hx fun Hs ρ ae Q sr h f=>?_;refine⟨Hs,ρ,ae,_,sr,h,fun v H1 aw m x As g1 r1 f1 q1=>⟨aw,ρ,ae,_,sr.grow g1,q1,fun l H2 ax g2 q2=>⟨ax,ρ,ae,_,(sr.grow g1).grow g2,q2,fun u H3 g7 g3 q3=>?_⟩⟩⟩;have r3:=(r1.grow g2).grow g3;have fin:Fin K g7 H3 Q Qv:=Fin.after f ((g1.trans g2).trans g3);have rr:=r3.rep g3.wf
 cases rr with
 |str hz=>exact .inl ⟨hz,fin.sh g3.wf (.str (fE (Bm _ _ _) hz)) q3⟩
 |list z s q =>
  have hz:=q.length;rcases q3 with⟨hf,q3⟩|⟨rfl,q3⟩
  ·exact .inl ⟨_,s,fin.lst g3.wf (fE (su _ _ _) (by lia)) (pq q) (uP hf) q3⟩
  ·obtain⟨_,r3⟩:=r3
   cases r3 with
   |list z' s' q' =>have hz:=q'.length;exact .inl ⟨_,ay.seq g3.wf.sub s',fin.LD g3.wf (fE (su _ _ _) (by lia)) (pq q') q3⟩
 |tup z s q =>have hz:=q.length;obtain⟨hf,hn,q3⟩:=q3;exact .inr ⟨_,_,rfl,.inl (.inl s),by rw[<- hz];exact hn,fin.tup g3.wf (fE (su _ _ _) (by lia)) (pq q) (uP hf) q3⟩
 |_=>exact q3.elim
end
def gp:W1:=fun _ x Q=>match x with
 |.str z=>Q .sh (.int z.length)
 |.list xs=>Q .sh (.int xs.length)
 |.tup xs=>Q .sh (.int xs.length)
 |.dK ah=>Q .sh (.int ah.length)
 |.dT ah=>Q .sh (.int ah.length)
 |_=>False
def kB(T:String):W1:=fun _ x Q=>Q .sh (.bl (BO x.ty T))
def uk(K:PySem.W.Frag)(r:List V->Hp->VK->Prop)(f:W1):Prop:=∀ Hs H m x v As Qd Qv,Wf Hs H->RM K Hs H m x v As->f m x Qd->Fin K Hs H Qd Qv->r [v] H Qv
section
variable {X:Cx}{K:PySem.W.Frag}{e:Expr}{te:WE}{pos p:Pos}{x:Str}{id T:String}
theorem qy(br:uk K r f)(σ:St)(H:Hp)(Qv:VK)(h:oD K (cv f te) σ H Qv):OD r (Ue (oD K te) Ud) σ H Qv:=by obtain⟨Hs,ρ,ae,Q,sr,h,fin⟩:=h;exact⟨Hs,ρ,ae,_,sr,h,fun v H1 aw m x As g1 r1 f1 q1=>br aw H1 m x v As Q Qv g1.wf r1 q1 (Fin.after fin g1)⟩
theorem aP(hc:h8 X (.builtin id) r)(br:uk K r f)(hg:Gl X x)(hm:X.mg x=none)(hv:bootBuiltins x=some (.builtin id))(he:QE X K e te)(hs:starEach [e] X.env=(false,eval e X.env) :: starEach [] X.env:=by rfl) (hn:x ≠ "__name__" := by decide) (fz:(x == ("__debug__" : Str))=false:=by decide):QE X K (.Call (.Name x p) [e] [] pos) (cv f te) :=
 PE.imp (D1 hc hg hm hv (iA he lI hs) hn fz hs) (qy br)
theorem dw(hc:h8 X (.type T) r)(br:uk K r f)(hg:Gl X x)(hm:X.mg x=none)(hv:bootBuiltins x=some (.type T))(he:QE X K e te)(hs:starEach [e] X.env=(false,eval e X.env) :: starEach [] X.env:=by rfl) (hn:x ≠ "__name__" := by decide) (fz:(x == ("__debug__" : Str))=false:=by decide):QE X K (.Call (.Name x p) [e] [] pos) (cv f te) :=
 PE.imp (Ur hc hg hm hv (iA he lI hs) hn fz hs) (qy br)
theorem Fe(hd:(d == sysModules)=false)(x:oz s.heap d es ep)(Ve:(es.size:Int)<2 ^ 63)(h:∀ t t',Q (.int es.size t) { s with toks:=t' }):wpAny (model prog w) A (call (.builtin "len") [.ref d]) Q E s:=by
 refine Calls.call_function_entry kind_len plain_len entry_len (args_len1 _) ?_;have mt:MeetsIn prog w (Builtin.«dict.__len__» ⟨[.ref d],[]⟩) (fun _ R s=>oz s.heap d es ep/\R (.ok (.ret (.int es.size s.toks))) { s with toks:=s.toks+1 }):=.of_wp fun A R s dc=>by obtain⟨hm,h⟩:=dc;obtain⟨o,ho,hc,KP⟩:=hm;show wpAny _ _ (dictSize d >>= _) _ _ s;unfold dictSize;refine bS (bS (wpAny_dictEntries ho KP (dv ?_)));show wpAny _ _ (Builtin.Dict.pendingCount d >>= _) _ _ s;refine bS (wpAny_pendingCount_other hd ?_);refine wpAny_ret_mkInt ?_;rw[Nat.add_zero];exact h
 unfold Builtin.«len»;refine bS (m:=oneArg "len" _) (dv ?_);refine bS (m:=callSpecial? (.ref d) (Str.ofString "__len__")) (wpAny_callSpecial?_slot (name:=Str.ofString "__len__") x.typ F.slot_dict_len (call_meetsIn F.slot_dict_len x.typ F.entry_dict_len (F.args_dict_len_1 _) mt ⟨x,?_⟩))
 show wpAny _ _ _ _ _ { s with toks:=s.toks+1 };refine bS (wpAny_holding (dv ?_));refine bS (wpAny_letGo ?_);show wpAny _ _ (if ((es.size:Nat):Int)<0 then _ else _) _ _ _;rw[if_neg (by lia)];show wpAny _ _ (if ((es.size:Nat):Int) >= 2 ^ 63 then _ else _) _ _ _;rw[if_neg (by lia)];exact bS (wpAny_mkInt (dv ⟨_,rfl,h _ _⟩))
theorem aB (hK:X.K=K:=by rfl):h8 X (.builtin "len") (fun xs H Q=>Kb K xs H Q\/∃ a ah,xs=[.ref a]/\Rd H a (.dT ah)/\Q (.int ah.length) H):=by
 subst hK;intro pins s σ H xs us Q I r h;rcases h with h|⟨a,ah,rfl,ha,q⟩
 ·exact yG pins s σ H xs us Q I r h
 ·obtain⟨u,rfl,ru⟩:=Vals.one r;cases ru;obtain⟨z,hd,ys,rel,o,es,ep,h1,h2,h3,h4,h5⟩:=(show fw X.prog X.w H s.heap a (.dT ah) from I.rd ha)
  have hl:es.size=ah.length:=by have:=congrArg List.length h4;rw[tv,da] at this;rw[this];exact rel.length.symm
  exact Fe hd ⟨o,h1,h2,h3⟩ (by rw[sizeLine_eq] at z;lia) fun t t'=>⟨.int ah.length,H,I.tok _,⟨t,by rw[hl]⟩,q⟩
theorem b_:uk K (fun xs H Q=>Kb K xs H Q\/∃ a ah,xs=[.ref a]/\Rd H a (.dT ah)/\Q (.int ah.length) H) gp:=by
 intro Hs H m x v As Qd Qv w rx h f;have r1:=rx.rep w
 cases r1 with
 |str hz=>exact .inl ⟨hz,f.sh w (.int _) h⟩
 |list z s q=>exact .inl (.inl ⟨_,s,by rw[<- q.length];exact f.sh w (.int _) h⟩)
 |tup _ s q=>exact .inl (.inr (.inl ⟨_,.inl (.inl s),by rw[<- q.length];exact f.sh w (.int _) h⟩))
 |dK kk s q=>exact .inl (.inr (.inr ⟨_,s,by
   have:=q.length;rw[da] at this;rw[List.length_zip,da,<- this,Nat.min_self];exact f.sh w (.int _) h⟩))
 |dT kk s q=>exact .inr ⟨_,_,rfl,s,by
   have:=q.length;rw[da] at this;rw[List.length_zip,da,<- this,Nat.min_self];exact f.sh w (.int _) h⟩
 |_=>exact h.elim
end
section
variable {X:Cx}{K:PySem.W.Frag}{e e2:Expr}{te:WE}{pos p:Pos}{T:String}
theorem y_ (hK:X.K=K:=by rfl):h8 X (.builtin "isinstance") (fun xs H Q=>∃ x d T,xs=[x,.ty T]/\Rep K H d x/\Pj T=true/\Q (.bl (BO d.ty T)) H):=by
 subst hK;intro pins s σ H xs us Q I r h;obtain⟨x,d,T,rfl,rd,hT,q⟩:=h;obtain⟨u,v,rfl,ru,rv⟩:=Vals.two r;obtain rfl:v=Value.type T:=rv;have hb:T∈["str", "int", "bool", "list", "tuple", "dict"]:=by simpa[Pj] using hT
 have fin:∀ tk,EP X pins σ Q (.bool (BO d.ty T)) { s with toks:=tk }:=fun tk=>⟨.bl (BO d.ty T),H,I.tok tk,rfl,q⟩
 cases rd with
 |non=>exact DV I ru .non (lZ X.K _ T (by simp) hb) fin
 |bl b=>exact DV I ru (.bl b) (lZ X.K _ T (by simp) hb) fin
 |int i=>exact DV I ru (.int i) (lZ X.K _ T (by simp) hb) fin
 |str y=>exact DV I ru (.str _) (lZ X.K _ T (by simp) hb) fin
 |list z s' q' =>cases ru;obtain⟨its,_,pl,_⟩:=I.list s';obtain⟨o,h1,h2,_⟩:=pl.isList;exact PySem.W.kia_one PySem.W.kitx_list I.gS ⟨o,h1,h2⟩ (lZ X.K "list" T (by simp) hb) (fun z=>nomatch z) fin
 |tup _ s' q'=>exact DV I ru (.tup s') (lZ X.K _ T (by simp) hb) fin
 |dK _ s' q' =>cases ru;obtain⟨_,_,vs,_,p⟩:=I.rd s';obtain⟨o,es,ep,h1,h2,_⟩:=p;exact PySem.W.kia_one PySem.W.kitx_dict I.gS ⟨o,h1,h2.1⟩ (lZ X.K "dict" T (by simp) hb) (fun z=>nomatch z) fin
 |dT _ s' q' =>cases ru;obtain⟨_,_,xs,_,o,es,ep,h1,h2,_⟩:=I.rd s';exact PySem.W.kia_one PySem.W.kitx_dict I.gS ⟨o,h1,h2.1⟩ (lZ X.K "dict" T (by simp) hb) (fun z=>nomatch z) fin
theorem gU (hm:X.mg "isinstance" = none) (he:QE X K e te) (ht:PE X e2 (tC (.ty T))) (hT:Pj T=true:=by rfl) (hg:Gl X "isinstance" := by rfl) (hK:X.K=K:=by rfl) (hs:starEach (e :: [e2]) X.env=(false,eval e X.env) :: starEach [e2] X.env:=by rfl) (nE:starEach (e2 :: []) X.env=(false,eval e2 X.env) :: starEach [] X.env:=by rfl) (gy:(backTo pos (starEach [e2] X.env)).any (·.1)=false:=by rfl) :
  QE X K (.Call (.Name "isinstance" p) [e,e2] [] pos) (cv (kB T) te):=by
 refine PE.imp (D1 (y_ hK) hg hm ik (iA he (iA ht lI nE) hs) (by decide) (by decide) hs gy) fun σ H Qv hx=>gX hx fun Hs ρ ae Q sr h f=>?_;refine⟨Hs,ρ,ae,_,sr,h,fun v H1 aw m x As g1 r1 f1 q1=>⟨v,x,T,rfl,r1.rep g1.wf,hT,Fin.sh (Fin.after f g1) g1.wf (.bl _) q1⟩⟩
end
def uS:Key->D
 |.inl i=>.int i
 |.inr x=>.str x
def xX:W1:=fun m x Q=>match x with
 |.list xs=>(ck xs=true/\Q (.ow true) (.list xs))\/(m=.sh/\Q (.ow false) (.list xs))
 |.tup xs=>(ck xs=true/\Q (.ow true) (.list xs))\/(m=.sh/\Q (.ow false) (.list xs))
 |.dT ah=>Q (.ow true) (.list (ah.map fun kv=>.tup (kv.1.map uS)))
 |_=>False
section
variable {X:Cx}{K:PySem.W.Frag}
theorem wA:∀ {ks:List Key},(∀ k∈ks,EH k=true)->aS K H (ks.map uS) (ks.map kV)
 |[],_=>.nil
 |k :: ks,h=>by
  refine .cons ?_ (wA fun j m=>h j (dz _ m));have:=h k fo
  cases k with
  |inl i=>exact .int i
  |inr x=>exact .str (by simpa[EH] using this)
theorem tL:∀ (ks:List Key),ck (ks.map uS)=true
 |[]=>rfl
 |k :: ks=>by simp only[hV,ck,tL ks,Bool.and_true];cases k<;>rfl
theorem Bt(t:kY H ys ks)(h:∀ l∈ks,l.length<=sizeLine/\∀ k∈l,EH k=true):aS K H (ks.map fun l=>.tup (l.map uS)) ys:=by
 induction ys generalizing ks with
 |nil=>rw[show ks=[] from Paired.n0 t];exact .nil
 |cons y ys ih =>obtain⟨k,ks,rfl,⟨b,rfl,e⟩,t2⟩:=Paired.c t;exact .cons (.tup (by rw[da];exact(h _ fo).1) e (wA (h _ fo).2)) (ih t2 fun l m=>h l (dz _ m))
theorem uz:∀ (ks:List (List Key)),ck (ks.map fun l=>.tup (l.map uS))=true
 |[]=>rfl
 |l :: ks=>by simp only[hV,ck,uz ks,Bool.and_true,D.flat,tL]
theorem qF (hc:X.calm=true:=by rfl) (hK:X.K=K:=by rfl):h8 X (.type "list") (fun xs H Q=>(∃ p ys,xs=[.ref p]/\(dk K H p ys\/gI K H p ys)/\∀ l,H l=none->Q (.ref l) (upd H l (.lst ys)))\/wW xs H Q):=by subst hK;exact aA'.or (yh hc)
theorem zE:uk K (fun xs H Q=>(∃ p ys,xs=[.ref p]/\(dk K H p ys\/gI K H p ys)/\∀ l,H l=none->Q (.ref l) (upd H l (.lst ys)))\/wW xs H Q) xX:=by
 intro Hs H m x v As Qd Qv w rx h f;have r1:=rx.rep w
 cases r1 with
 |list z s q =>
  have hl:=q.length;rcases h with⟨hf,h⟩|⟨rfl,h⟩
  ·exact .inl ⟨_,_,rfl,.inl s,f.lst w (by lia) q hf h⟩
  ·obtain⟨_,rx⟩:=rx
   cases rx with
   |list z' s' q' =>have hl:=q'.length;exact .inl ⟨_,_,rfl,.inl (ay.seq w.sub s'),f.LD w (by lia) q' h⟩
 |tup z s q =>
  have hl:=q.length;rcases h with⟨hf,h⟩|⟨rfl,h⟩
  ·exact .inl ⟨_,_,rfl,.inr (.inl (.inl s)),f.lst w (by lia) q hf h⟩
  ·obtain⟨_,rx⟩:=rx
   cases rx with
   |tup z' s' q' =>have hl:=q'.length;exact .inl ⟨_,_,rfl,.inr (.inl (.inl (w.sub _ _ s'))),f.LD w (by lia) q' h⟩
 |@dT _ vs ah kk s q =>
  refine .inr ⟨_,s,fun ys l ht hl=>?_⟩;have hlen:=q.length;rw[da] at hlen;have e:((ah.map (·.1)).zip vs).map (·.1)=ah.map (·.1):=List.map_fst_zip (by rw[da];exact Nat.le_of_eq hlen);rw[e] at ht;have rr:=Bt (K:=K) ht (fun l m=>by
   obtain⟨p,hp,rfl⟩:=iL.mp m;exact kk.2 p hp)
  have ff:=uz (ah.map (·.1));rw[mB] at rr ff;exact f.lst w (by rw[da];exact kk.1) rr ff h l hl
 |_=>exact h.elim
end
section
variable {K:PySem.W.Frag}{Hs H:Hp}
theorem SR.Df(r:Rep K Hs d v)(i:Nat)(s:SR K Hs H ρ σ ae):∃ bX,bX.Sublist ae/\SR K Hs H (ρ.set i (some (.sh d))) (σ.set i (some v)) bX:=by
 induction s generalizing i with
 |nil=>exact⟨[],vn _,.nil⟩
 |non s ih =>
  cases i with
  |zero=>exact⟨_,List.Sublist.refl _,.sh r s⟩
  |succ i=>obtain⟨t,a,b⟩:=ih i;exact⟨t,a,.non b⟩
 |sh q s ih =>
  cases i with
  |zero=>exact⟨_,List.Sublist.refl _,.sh r s⟩
  |succ i=>obtain⟨t,a,b⟩:=ih i;exact⟨t,a,.sh q b⟩
 |xc s ih =>
  cases i with
  |zero=>exact⟨_,List.Sublist.refl _,.sh r s⟩
  |succ i=>obtain⟨t,a,b⟩:=ih i;exact⟨t,a,.xc b⟩
 |ow ne q s ih =>
  cases i with
  |zero=>exact⟨_,kF _ _,.sh r s⟩
  |succ i=>obtain⟨t,a,b⟩:=ih i;exact⟨_,a.append_left _,.ow ne q b⟩
 |lk ne q s ih =>
  cases i with
  |zero=>exact⟨_,kF _ _,.sh r s⟩
  |succ i=>obtain⟨t,a,b⟩:=ih i;exact⟨_,a.append_left _,.lk ne q b⟩
theorem tZ{As ae:List Addr}(nd:As.Nodup)(n:ae.Nodup)(dj:∀ a∈As,a∉ae):(As++ae).Nodup:=hU.mpr ⟨nd,n,fun a ha b hb e=>dj a ha (e ▸ hb)⟩
theorem je{As ae B t:List Addr}(n:(B++ae).Nodup)(dj:∀ a∈As,a∉B++ae)(a:t.Nodup)(b:∀ x∈t,x∈ae\/x∈As):(B++t).Nodup/\∀ x∈B++t,x∈B++ae\/x∈As:=by
 obtain⟨n1,n2,n3⟩:=hU.mp n;refine⟨hU.mpr ⟨n1,a,fun x hx y hy e=>?_⟩,fun x hx=>?_⟩
 ·subst e;rcases b x hy with z|z
  ·exact n3 x hx x z rfl
  ·exact dj x z (js _ hx)
 ·rcases eW.mp hx with z|z
  ·exact .inl (js _ z)
  ·exact(b x z).imp (fun z=>eT _ z) fun z=>z
theorem SR.G8{d:D}{v:V}{fl:Bool}{As:List Addr}(ne:As≠[])(r:bP K Hs H fl d v As)(nd:As.Nodup){ρ:Env}{σ:St}{ae:List Addr}(i:Nat)(s:SR K Hs H ρ σ ae):ae.Nodup->(∀ a∈As,a∉ae) ->
  ∃ bX,bX.Nodup/\(∀ a∈bX,a∈ae\/a∈As)/\SR K Hs H (ρ.set i (some (.ow fl d))) (σ.set i (some v)) bX:=by
 induction s generalizing i with
 |nil=>exact fun n _=>⟨[],mz,(fun a h=>oB h),.nil⟩
 |non s ih =>
  intro n dj
  cases i with
  |zero=>exact⟨_,tZ nd n dj,fun a h=>(eW.mp h).symm,.ow ne r s⟩
  |succ i=>obtain⟨t,a,b,c⟩:=ih i n dj;exact⟨t,a,b,.non c⟩
 |sh q s ih =>
  intro n dj
  cases i with
  |zero=>exact⟨_,tZ nd n dj,fun a h=>(eW.mp h).symm,.ow ne r s⟩
  |succ i=>obtain⟨t,a,b,c⟩:=ih i n dj;exact⟨t,a,b,.sh q c⟩
 |xc s ih =>
  intro n dj
  cases i with
  |zero=>exact⟨_,tZ nd n dj,fun a h=>(eW.mp h).symm,.ow ne r s⟩
  |succ i=>obtain⟨t,a,b,c⟩:=ih i n dj;exact⟨t,a,b,.xc c⟩
 |ow ne' q s ih =>
  intro n dj;obtain⟨n1,n2,n3⟩:=hU.mp n;have EZ:=fun a ha m=>dj a ha (eT _ m)
  cases i with
  |zero=>exact⟨_,tZ nd n2 EZ,fun a h=>(eW.mp h).symm.imp (fun z=>eT _ z) fun z=>z,.ow ne r s⟩
  |succ i=>obtain⟨t,a,b,c⟩:=ih i n2 EZ;exact⟨_,(je n dj a b).1,(je n dj a b).2,.ow ne' q c⟩
 |lk ne' q s ih =>
  intro n dj;obtain⟨n1,n2,n3⟩:=hU.mp n;have EZ:=fun a ha m=>dj a ha (eT _ m)
  cases i with
  |zero=>exact⟨_,tZ nd n2 EZ,fun a h=>(eW.mp h).symm.imp (fun z=>eT _ z) fun z=>z,.ow ne r s⟩
  |succ i=>obtain⟨t,a,b,c⟩:=ih i n2 EZ;exact⟨_,(je n dj a b).1,(je n dj a b).2,.lk ne' q c⟩
theorem SR.Dj:∀ (i:Nat),SR K Hs H ρ σ ae->∃ bX,bX.Sublist ae/\SR K Hs H (ρ.set i none) σ bX:=by
 intro i s
 induction s generalizing i with
 |nil=>exact⟨[],vn _,.nil⟩
 |non s ih =>
  cases i with
  |zero=>exact⟨_,List.Sublist.refl _,.non s⟩
  |succ i=>obtain⟨t,a,b⟩:=ih i;exact⟨t,a,.non b⟩
 |sh q s ih =>
  cases i with
  |zero=>exact⟨_,List.Sublist.refl _,.non s⟩
  |succ i=>obtain⟨t,a,b⟩:=ih i;exact⟨t,a,.sh q b⟩
 |xc s ih =>
  cases i with
  |zero=>exact⟨_,List.Sublist.refl _,.non s⟩
  |succ i=>obtain⟨t,a,b⟩:=ih i;exact⟨t,a,.xc b⟩
 |ow ne q s ih =>
  cases i with
  |zero=>exact⟨_,kF _ _,.non s⟩
  |succ i=>obtain⟨t,a,b⟩:=ih i;exact⟨_,a.append_left _,.ow ne q b⟩
 |lk ne q s ih =>
  cases i with
  |zero=>exact⟨_,kF _ _,.non s⟩
  |succ i=>obtain⟨t,a,b⟩:=ih i;exact⟨_,a.append_left _,.lk ne q b⟩
def asg:Md->D->Option Sl
 |.sh,d=>some (.sh d)
 |.ow fl,d=>some (.ow fl d)
 |.bo,d=>bif d.flat then some (.sh d) else none
theorem cS.set(i:Nat)(s:cS K Hs ρ σ H ae)(r:RM K Hs H m d v As)(nd:As.Nodup)(dj:∀ a∈As,Hs a=none/\a∉ae)(e:asg m d=some sl) :
  ∃ bX,cS K Hs (ρ.set i (some sl)) (σ.set i (some v)) H bX:=by
 have Vf:Rep K Hs d v->∃ bX,cS K Hs (ρ.set i (some (.sh d))) (σ.set i (some v)) H bX:=fun r=>by obtain⟨t,a,b⟩:=s.sr.Df r i;exact⟨t,b,s.wf,a.nodup s.kz,fun x hx=>s.own x (a.subset hx)⟩
 cases m with
 |sh=>cases e;exact Vf r.2
 |ow fl =>cases e;obtain⟨t,a,b,c⟩:=SR.G8 r.2 r.1 nd i s.sr s.kz fun a ha=>(dj a ha).2;exact⟨t,c,s.wf,a,fun x hx=>(b x hx).elim (s.own x) fun z=>(dj x z).1⟩
 |bo =>
  cases hf:d.flat with
  |true =>simp only[asg,hf,cond_true,Option.some.injEq] at e;subst e;exact Vf (r.flat s.wf hf)
  |false=>simp[asg,hf] at e
end
section
variable {X:Cx}{K:PySem.W.Frag}{e c:Expr}{te:WE}{tc:WT}{pos:Pos}{st:Stmt}{a b rest:List Stmt}{t u:WS}
theorem PS.imp{te pT:TS}(h:PS X st te)(i:∀ D σ H,pT D σ H->te D σ H):PS X st pT:=fun pins s σ H D I q=>h pins s σ H D I (i D σ H q)
theorem kK.imp{te pT:TS}(h:kK X a te)(i:∀ D σ H,pT D σ H->te D σ H):kK X a pT:=fun pins s σ H D I q=>h pins s σ H D I (i D σ H q)
def bH:WS:=fun E ρ=>E.nx ρ
def bI(t u:WS):WS:=fun E ρ=>t { E with nx:=u E } ρ
def dr(te:WE):WS:=fun E ρ=>te ρ E.rt
def eJ(i:Nat)(te:WE):WS:=fun E ρ=>te ρ fun m d=>match asg m d with
 |some sl=>E.nx (ρ.set i (some sl))
 |none=>False
def eA(c:WT)(t u:WS):WS:=fun E ρ=>c ρ fun b=>if b=true then t E ρ else u E ρ
theorem aD:lT X K L [] bH:=kK.imp TR fun D σ H hx=>jw hx fun Hs ρ ae E sr h k1 _ _ _=>k1 σ H Hs ρ ae (ay.refl _) sr h
theorem Be{D:Ends}(h:sQ K L (bI t u) D σ H):TQ (sQ K L t) (sQ K L u) D σ H:=by
 obtain⟨Hs,ρ,ae,E,sr,h,k1,k2,k3,k4,kx⟩:=h;refine⟨Hs,ρ,ae,{ E with nx:=u E },sr,h,fun bE H' ai b9 bX s PK q=>?_,k2,k3,k4,kx⟩;exact⟨ai,b9,bX,E,PK,q,fun iS H2 ax fI fk s2=>k1 iS H2 ax fI fk (s.trans s2),fun iS H2 ax fI fk s2=>k2 iS H2 ax fI fk (s.trans s2),fun iS H2 ax fI fk s2=>k3 iS H2 ax fI fk (s.trans s2),
  fun v H2 ax m d As s2=>k4 v H2 ax m d As (s.trans s2),fun n H2 s2=>kx n H2 (s.trans s2)⟩
theorem aj(h1:QS X K L st t)(h2:lT X K L rest u):lT X K L (st :: rest) (bI t u):=kK.imp (Y0 h1 h2) fun D σ H h=>Be h
theorem ao(h1:QS X K L st t):lT X K L [st] t:=TV h1
theorem aG(he:QE X K e te):QS X K L (.Return (some e) pos) (dr te):=PS.imp (zo he) fun D σ H hx=>jw hx fun Hs ρ ae E sr h k1 k2 k3 k4 =>
 ⟨Hs,ρ,ae,_,sr,h,fun v H1 aw m d As g1 r1 f1 q1=>k4 v H1 aw m d As g1.sh g1.wf r1 f1.1 (fun a ha=>(f1.2 a ha).1) q1⟩
def x_(i:Nat):WS:=fun E ρ=>match ρ[i]? with
 |some (some (.sh d))=>E.rt .sh d
 |some (some (.ow fl d))=>E.rt (.ow fl) d
 |_=>False
theorem SR.at{ρ:Env}{σ:St}{ae:List Addr}{i:Nat}{fl:Bool}{d:D}{Hs H:Hp}(s:SR K Hs H ρ σ ae)(e:ρ[i]? = some (some (.ow fl d))):∃ v As,σ[i]? = some (some v)/\As≠[]/\bP K Hs H fl d v As/\As.Sublist ae:=by
 induction s generalizing i with
 |nil=>simp at e
 |non s ih =>
  cases i with
  |zero=>simp at e
  |succ i=>exact ih e
 |sh r s ih =>
  cases i with
  |zero=>simp at e
  |succ i=>exact ih e
 |xc s ih =>
  cases i with
  |zero=>simp at e
  |succ i=>exact ih e
 |ow ne r s ih =>
  cases i with
  |zero=>simp at e;obtain⟨rfl,rfl⟩:=e;exact⟨_,_,rfl,ne,r,A5 _ _⟩
  |succ i =>obtain⟨v,As,a,b,c,d⟩:=ih e;exact⟨v,As,a,b,c,d.trans (kF _ _)⟩
 |lk ne r s ih =>
  cases i with
  |zero=>simp at e
  |succ i =>obtain⟨v,As,a,b,c,d⟩:=ih e;exact⟨v,As,a,b,c,d.trans (kF _ _)⟩
theorem uW{i:Nat}(he:PE X e (sv i)):QS X K L (.Return (some e) pos) (x_ i):=PS.imp (zo he) fun D σ H hx=>jw hx fun Hs ρ ae E sr h k1 k2 k3 k4=>by
 unfold x_ at h;split at h
 ·rename_i d e1;obtain⟨v,e2,r⟩:=sr.sr.get e1;exact⟨v,e2,k4 v H Hs .sh d [] (ay.refl _) sr.wf ⟨rfl,r⟩ mz (fun a ha=>nomatch ha) h⟩
 ·rename_i fl d e1;obtain⟨v,As,e2,ne,r,sb⟩:=sr.sr.at e1;exact⟨v,e2,k4 v H Hs (.ow fl) d As (ay.refl _) sr.wf ⟨r,ne⟩ (sb.nodup sr.kz) (fun a ha=>sr.own a (sb.subset ha)) h⟩
 ·exact h.elim
theorem aK{i:Nat}{x:Str}{pos':Pos}(hN:X.N.Nodup)(hi:X.N[i]? = some x)(hx:Loc X.env.scope x)(he:QE X K e te)(hs:swapsWith e (some (.Name x pos')) pos.line X.env=pure false:=by rfl) (hf:X.fn x=true\/X.env.scope.names.lookup x=some .local:=by first|exact .inl rfl|exact .inr rfl|assumption):QS X K L (.Assign [.Name x pos'] e pos) (eJ i te):=PS.imp (TY hN hi hx he hs hf) fun D σ H hx=>jw hx fun Hs ρ ae E sr h k1 k2 k3 k4=>by
 refine⟨Hs,ρ,ae,_,sr,h,fun v H1 aw m d As g1 r1 f1 q1=>?_⟩
 have q1:match asg m d with
  |some sl=>E.nx (ρ.set i (some sl))
  |none=>False:=q1
 cases e:asg m d with
 |none=>rw[e] at q1;exact q1.elim
 |some sl =>rw[e] at q1;obtain⟨bX,s'⟩:=(sr.grow g1).set i r1 f1.1 (fun a ha=>⟨(f1.2 a ha).1,fun m=>(sr.sr.own a m).ne (f1.2 a ha).2⟩) e;exact k1 _ H1 aw _ bX g1.sh s' q1
theorem bF(hc:QT X K c tc)(ha:lT X K L a t)(hb:lT X K L b u):QS X K L (.If c a b pos) (eA tc t u):=PS.imp (Y4 hc ha hb) fun D σ H hx=>iM hx fun Hs ρ ae E sr h k1 k2 k3 k4 kx=>by
 refine⟨Hs,ρ,ae,_,sr,h,fun k H1 aw g1 q1=>?_⟩;have Vg:∀ bE H' ai b9 bX,ay aw ai->cS K ai b9 bE H' bX->E.nx b9->D.nx bE H':=fun iS H2 ax fI fk s2=>k1 iS H2 ax fI fk (g1.sh.trans s2);have Vh:∀ bE H' ai b9 bX,ay aw ai->cS K ai b9 bE H' bX->E.bk b9->D.bk bE H':=fun iS H2 ax fI fk s2=>k2 iS H2 ax fI fk (g1.sh.trans s2);have Vi:∀ bE H' ai b9 bX,ay aw ai->cS K ai b9 bE H' bX->E.ct b9->D.ct bE H':=fun iS H2 ax fI fk s2=>k3 iS H2 ax fI fk (g1.sh.trans s2)
 cases k with
 |true=>exact⟨aw,ρ,ae,E,sr.grow g1,q1,Vg,Vh,Vi,(fun v H2 ax m d As s2=>k4 v H2 ax m d As (g1.sh.trans s2)),fun n H2 s2=>kx n H2 (g1.sh.trans s2)⟩
 |false=>exact⟨aw,ρ,ae,E,sr.grow g1,q1,Vg,Vh,Vi,(fun v H2 ax m d As s2=>k4 v H2 ax m d As (g1.sh.trans s2)),fun n H2 s2=>kx n H2 (g1.sh.trans s2)⟩
def oP(Hs H:Hp)(As:List Addr):Hp:=fun a=>if a∈As then H a else Hs a
theorem kO(n:∀ a∈As,Hs a=none):ay Hs (oP Hs H As):=fun a o e=>by unfold oP;rw[if_neg fun m=>by rw[n a m] at e;cases e];exact e
theorem Ak(w:Wf Hs H)(o:∀ a∈As,Own H a):Wf (oP Hs H As) H:=⟨fun a u e=>by
  unfold oP at e;by_cases m:a∈As
  ·rw[if_pos m] at e;exact e
  ·rw[if_neg m] at e;exact w.sub a u e,fun a vs e=>by
  unfold oP;rw[if_neg fun m=>(o a m).C_ e];exact w.gE a vs e⟩
def E2:Sl->Sl
 |.sh d=>.sh d
 |.ow _ d=>.sh d
 |.lk a fl d=>.lk a fl d
 |.xc a=>.xc a
def PL:Sl->Sl
 |.sh d=>.sh d
 |.ow _ d=>.sh d
 |.lk _ _ d=>.sh d
 |.xc a=>.xc a
def E3(i:Nat)(ρ:Env):Env:=match ρ[i]? with
 |some (some sl)=>ρ.set i (some (E2 sl))
 |_=>ρ
theorem qQ{As ae B t:List Addr}(n:(B++ae).Nodup)(a:As.Sublist ae)(c:∀ x∈As,x∉t):∀ x∈As,x∉B++t:=fun x hx m=>by
 obtain⟨n1,n2,n3⟩:=hU.mp n;rcases eW.mp m with z|z
 ·exact n3 x z x (a.subset hx) rfl
 ·exact c x hx z
theorem SR.kG(i:Nat)(s:SR K Hs H ρ σ ae):ρ[i]? = some (some (.ow fl d))->ae.Nodup ->
  ∃ (As bX:List Addr),As.Sublist ae/\bX.Sublist ae/\(∀ a∈As,a∉bX)/\∀ ai,ay Hs ai->(∀ a∈As,ai a=H a)->SR K ai H (ρ.set i (some (.sh d))) σ bX:=by
 induction s generalizing i with
 |nil=>intro e;simp at e
 |non q ih =>
  intro e n
  cases i with
  |zero=>simp at e
  |succ i =>obtain⟨As,t,a,b,c,d⟩:=ih i e n;exact⟨As,t,a,b,c,fun ai s k=>.non (d ai s k)⟩
 |sh r q ih =>
  intro e n
  cases i with
  |zero=>simp at e
  |succ i =>obtain⟨As,t,a,b,c,d⟩:=ih i e n;exact⟨As,t,a,b,c,fun ai s k=>.sh (r.same s) (d ai s k)⟩
 |xc q ih =>
  intro e n
  cases i with
  |zero=>simp at e
  |succ i =>obtain⟨As,t,a,b,c,d⟩:=ih i e n;exact⟨As,t,a,b,c,fun ai s k=>.xc (d ai s k)⟩
 |ow ne r q ih =>
  intro e n;obtain⟨n1,n2,n3⟩:=hU.mp n
  cases i with
  |zero =>simp at e;obtain⟨rfl,rfl⟩:=e;exact⟨_,_,A5 _ _,kF _ _,fun a h m=>n3 a h a m rfl,fun ai s k=>.sh (r.rep s k) (q.fF s fun _ _=>rfl)⟩
  |succ i =>obtain⟨As,t,a,b,c,d⟩:=ih i e n2;exact⟨As,_,a.trans (kF _ _),b.append_left _,qQ n a c,fun ai s k=>.ow ne (r.fF s fun _ _=>rfl) (d ai s k)⟩
 |lk ne r q ih =>
  intro e n;obtain⟨n1,n2,n3⟩:=hU.mp n
  cases i with
  |zero=>simp at e
  |succ i =>obtain⟨As,t,a,b,c,d⟩:=ih i e n2;exact⟨As,_,a.trans (kF _ _),b.append_left _,qQ n a c,fun ai s k=>.lk ne (r.fF s fun _ _=>rfl) (d ai s k)⟩
theorem cS.kG(i:Nat)(s:cS K Hs ρ σ H ae):∃ ai bX,ay Hs ai/\cS K ai (E3 i ρ) σ H bX:=by
 unfold E3;split
 ·rename_i sl e;have keep:E2 sl=sl->∃ ai bX,ay Hs ai/\cS K ai (ρ.set i (some (E2 sl))) σ H bX:=fun hs=>by
   have e2:ρ.set i (some (E2 sl))=ρ:=by
    apply List.ext_getElem?;intro j;rw[List.getElem?_set];by_cases h:i=j
    ·subst h;rw[if_pos rfl,e];have:i<ρ.length:=(kU.mp e).1;simp[this,hs]
    ·rw[if_neg h]
   rw[e2];exact⟨Hs,ae,ay.refl _,s⟩
  cases sl with
  |sh d=>exact keep rfl
  |xc a=>exact keep rfl
  |lk a fl d=>exact keep rfl
  |ow fl d =>obtain⟨As,t,a,b,c,g⟩:=SR.kG i s.sr e s.kz;have hn:∀ a∈As,Hs a=none:=fun x hx=>s.own x (a.subset hx);have ho:∀ a∈As,Own H a:=fun x hx=>s.sr.own x (a.subset hx);refine⟨oP Hs H As,t,kO hn,g _ (kO hn) fun x hx=>by unfold oP;rw[if_pos hx],Ak s.wf ho,b.nodup s.kz,fun x hx=>?_⟩;unfold oP;rw[if_neg fun m=>c x m hx];exact s.own x (b.subset hx)
 ·exact⟨Hs,ae,ay.refl _,s⟩
def tf(i:Nat)(t:WS):WS:=fun E ρ=>t E (E3 i ρ)
theorem Bc{D:Ends}(h:sQ K L (tf i t) D σ H):sQ K L t D σ H:=by
 obtain⟨Hs,ρ,ae,E,sr,h,k1,k2,k3,k4,kx⟩:=h;obtain⟨ai,bX,s,PK⟩:=sr.kG i;exact⟨ai,_,bX,E,PK,h,fun iS H2 ax fI fk s2=>k1 iS H2 ax fI fk (s.trans s2),fun iS H2 ax fI fk s2=>k2 iS H2 ax fI fk (s.trans s2),fun iS H2 ax fI fk s2=>k3 iS H2 ax fI fk (s.trans s2),
  fun v H2 ax m d As s2=>k4 v H2 ax m d As (s.trans s2),fun n H2 s2=>kx n H2 (s.trans s2)⟩
theorem mD(i:Nat)(h:QS X K L st t):QS X K L st (tf i t):=PS.imp h fun D σ H h=>Bc h
def oO(aw H1 ai H':Hp):Hp:=fun a=>match H' a with
 |some (.tup vs)=>some (.tup vs)
 |_=>match H1 a with
  |none=>ai a
  |some _=>aw a
theorem fH(w:Wf aw H1)(s:ay H1 ai)(w':Wf ai H'):eu aw H1 (oO aw H1 ai H') H':=by
 have sa:ay H1 H':=s.trans w'.sub;have tp:∀ a vs,H' a=some (.tup vs)->oO aw H1 ai H' a=some (.tup vs):=fun a vs e=>by unfold oO;rw[e]
 have nt:∀ a,(∀ vs,H' a≠some (.tup vs))->oO aw H1 ai H' a=match H1 a with
  |none=>ai a
  |some _=>aw a:=fun a h=>by
  unfold oO;split
  ·rename_i vs e;exact absurd e (h vs)
  ·rfl
 refine⟨sa,fun a o e=>?_,⟨fun a o e=>?_,tp⟩,fun a h=>?_⟩
 ·have e1:=w.sub a o e;have e2:=sa a o e1;by_cases ht:∃ vs,o=.tup vs
  ·obtain⟨vs,rfl⟩:=ht;exact tp a vs e2
  ·rw[nt a fun vs z=>ht ⟨vs,by rw[e2] at z;exact Option.some.inj z⟩,e1];exact e
 ·by_cases ht:∃ vs,H' a=some (.tup vs)
  ·obtain⟨vs,z⟩:=ht;rw[tp a vs z] at e;rw[z];exact e
  ·rw[nt a fun vs z=>ht ⟨vs,z⟩] at e
   cases q:H1 a with
   |none=>rw[q] at e;exact w'.sub a o e
   |some u =>rw[q] at e;have:=w.sub a o e;exact sa a o this
 ·cases q:H1 a with
  |none=>exact .inr rfl
  |some u =>
   refine .inl ?_;by_cases ht:∃ vs,H' a=some (.tup vs)
   ·obtain⟨vs,z⟩:=ht;have:=sa a u q;rw[z] at this;cases this;rw[w.gE a vs q];exact fun z=>nomatch z
   ·rw[nt a fun vs z=>ht ⟨vs,z⟩,q] at h;exact h
theorem za{aw H1 ai H':Hp}{a:Addr}(s:ay H1 ai)(h:ai a=none)(o:Own H' a):oO aw H1 ai H' a=none/\H1 a=none:=by
 have h1:=s.free h;refine⟨?_,h1⟩;unfold oO;split
 ·rename_i vs e;exact absurd e o.C_
 ·rw[h1];exact h
def oi:Md->D->Md
 |.ow true,_=>.ow true
 |_,d=>bif d.flat then .sh else .bo
theorem oA(w:Wf aw H1)(s:ay H1 ai)(w':Wf ai H')(r:RM K ai H' m d v As)(nd:As.Nodup)(own:∀ a∈As,ai a=none) :
  ∃ fv,RM K (oO aw H1 ai H') H' (oi m d) d v fv/\dU (oO aw H1 ai H') H1 fv:=by
 have g:=fH w s w';have other:∃ fv,RM K (oO aw H1 ai H') H' (bif d.flat then .sh else .bo) d v fv/\dU (oO aw H1 ai H') H1 fv:=by
  cases hf:d.flat with
  |true=>exact⟨[],⟨rfl,(r.rep w').kj g.wf.gE hf⟩,dU.nil⟩
  |false=>exact⟨[],⟨rfl,r.rep w'⟩,dU.nil⟩
 cases m with
 |sh=>exact other
 |bo=>exact other
 |ow fl =>
  cases fl with
  |false=>exact other
  |true=>exact⟨As,⟨bP.leaves (fun a vs e=>g.wf.gE a vs (w'.sub _ _ e)) r.1,r.2⟩,nd,fun a h=>za s (own a h) (r.own a h)⟩
abbrev dS:=List D->(Md->D->Prop)->Prop
def az(K:PySem.W.Frag)(sp:dS):Sp:=fun vs H Qv _=>∃ ds Qd,aS K H ds vs/\sp ds Qd /\
 ∀ v H' ai m d As,ay H ai->Wf ai H'->RM K ai H' m d v As->As.Nodup->(∀ a∈As,ai a=none)->Qd m d->Qv v H'
def aO(n:Nat)(ds:List D):Env:=ds.map (fun d=>some (.sh d))++List.replicate (n-ds.length) none
theorem SR.start(r:aS K H ds vs):SR K H H (ds.map (fun d=>some (.sh d))++List.replicate n none) (vs.map some++List.replicate n none) []:=by
 induction ds generalizing vs with
 |nil =>
  rw[r.n0]
  induction n with
  |zero=>exact .nil
  |succ n ih=>exact .non ih
 |cons d ds ih =>obtain⟨u,us,rfl,r,rs⟩:=r.c;exact .sh r (ih rs)
theorem yZ(h:az K sp vs H Qv E)(hp:∀ ds Q,sp ds Q->t { nx:=fun _=>Q .sh .non,rt:=Q } (aO N.length ds)) :
  sQ K L0 t { nx:=fun _ H'=>Qv .non H',rt:=Qv } (start N vs) H:=by
 obtain⟨ds,Qd,rs,hs,fin⟩:=h;have hl:=rs.length;refine⟨H,aO N.length ds,[],{ nx:=fun _=>Qd .sh .non,rt:=Qd },⟨?_,⟨ay.refl _,fun _ _ e=>e⟩,mz,fun a h=>nomatch h⟩,hp ds Qd hs,?_,?_,?_,?_,fun _ _ _ _=>trivial⟩
 ·unfold aO start;rw[hl];exact SR.start rs
 ·exact fun bE H' ai b9 bX s sr q=>fin .non H' ai .sh .non [] s sr.wf ⟨rfl,.non⟩ mz (fun a h=>nomatch h) q
 ·exact fun bE H' ai b9 bX s sr q=>q.elim
 ·exact fun bE H' ai b9 bX s sr q=>q.elim
 ·exact fun v H' ai m d As s w r nd own q=>fin v H' ai m d As s w r nd own q
theorem iN.ok{P:Program}{st:Stmt}{N ps:List Str}(F:dQ K x qual st f fd)(S:ft N ps (aT st))(len:∀ ds Q,sp ds Q->ds.length=ps.length)(wo:∀ (bT:Value) (A:Around) (outer:List PySem.Env) (s:Shared) (H:Hp) (E:XK),fe k (A.deeper (envOfC qual (aT st) s.heap.objs.size f bT))->lT (i9 fP P w K mg base N qual (aT st) f bT A outer s H E).wc K L0 (ek st) t)(hp:∀ ds Q,sp ds Q->t { nx:=fun _=>Q .sh .non,rt:=Q } (aO N.length ds)):dA P w K mg base fP (k+1) f fd ps (az K sp) :=
 F.ok S (fun vs H Q E ⟨ds,Qd,rs,hs,_⟩=>by rw[<- rs.length];exact len ds Qd hs) fun bT A outer s H vs Q E hr hs=>⟨_,wo bT A outer s H E hr,yZ hs hp⟩
def bD(sp:dS)(t:WA):WE:=fun ρ Q=>t ρ fun ps=>sp (ps.map (·.2)) fun m d=>bp (m,d) (f:=fun p=>Q (oi p.1 p.2) p.2) ⟨⟩
theorem zU{sp:dS}{t:WA}{σ:St}{H:Hp}{Qv:VK}{E:XK}(h:oD K (bD sp t) σ H Qv):zI (az K sp) [] E (LB K t) σ H Qv:=by obtain⟨Hs,ρ,ae,Q,sr,h,f⟩:=h;refine⟨Hs,ρ,ae,_,sr,h,fun vs H1 aw ps As g1 r1 f1 q1=>?_⟩;refine⟨_,_,by rw[kX];exact r1.reps g1.wf,q1,fun v H' ai m d As s w r nd own q=>?_⟩;obtain⟨fv,r',fr⟩:=oA g1.wf s w r nd own;exact Fin.after f g1 v H' _ (oi m d) d fv (fH g1.wf s w) r' fr q
theorem bO {k:Nat} {x:Str} {ps:List Str} {sp:dS} {p:Pos} {es:List Expr} {t:WA} (C:de X.prog X.w X.K X.mg X.base k x ps (az K sp)) (hr:fe k X.A) (ha:QA X K (e :: es) t) (hg:Gl X x:=by rfl) (fz:(x == ("__debug__" : Str))=false:=by decide) (he:starEach (e :: es) X.env=(false,eval e X.env) :: starEach es X.env:=by rfl) (gy:(backTo pos (starEach es X.env)).any (·.1)=false:=by rfl):QE X K (.Call (.Name x p) (e :: es) [] pos) (bD sp t):=PE.imp (Hq C hr ha hg fz he gy) fun σ H Qv h=>zU h
end
abbrev WG:=D->Env->(Env->Prop)->Prop
def PN(K:PySem.W.Frag)(g:WG):TG:=fun v σ H Qv=>∃ Hs ρ ae d Q,cS K Hs ρ σ H ae/\Rep K Hs d v/\g d ρ Q/\∀ bE b9 bX,cS K Hs b9 bE H bX->(∀ a∈bX,a∈ae)->Q b9->Qv bE H
abbrev QG(X:Cx)(K:PySem.W.Frag)(e:Expr)(g:WG):Prop:=PG X e (PN K g)
def gN(i:Nat):WG:=fun d ρ Q=>Q (ρ.set i (some (.sh d)))
abbrev AH:=List D->Env->(Env->Prop)->Prop
def bI'(K:PySem.W.Frag)(g:AH):BF:=fun vs σ H Qv=>∃ Hs ρ ae ds Q,cS K Hs ρ σ H ae/\aS K Hs ds vs/\g ds ρ Q/\∀ bE b9 bX,cS K Hs b9 bE H bX->(∀ a∈bX,a∈ae)->Q b9->Qv bE H
abbrev LJ(X:Cx)(K:PySem.W.Frag)(es:List Expr)(g:AH):Prop:=tN X es (bI' K g)
def Av:AH:=fun ds ρ Q=>ds=[]/\Q ρ
def xj(g:WG)(gs:AH):AH:=fun ds ρ Q=>match ds with
 |d :: ds=>g d ρ fun b9=>gs ds b9 Q
 |[]=>False
def gT(n:Nat)(gs:AH):WG:=fun d ρ Q=>match d with
 |.tup ds=>ds.length=n/\gs ds ρ Q
 |_=>False
section
variable {X:Cx}{K:PySem.W.Frag}{e:Expr}{es:List Expr}{g:WG}{gs:AH}{pos:Pos}
theorem PG.imp(h:PG X e t)(i:∀ v σ H Q,t' v σ H Q->t v σ H Q):PG X e t':=fun pins s σ H v u Q I r q=>h pins s σ H v u Q I r (i v σ H Q q)
theorem tN.imp(h:tN X es t)(i:∀ v σ H Q,t' v σ H Q->t v σ H Q):tN X es t':=fun pins s σ H v u Q I r q=>h pins s σ H v u Q I r (i v σ H Q q)
theorem cS.Jg(i:Nat)(s:cS K Hs ρ σ H ae)(r:Rep K Hs d v):∃ bX,(∀ a∈bX,a∈ae)/\cS K Hs (ρ.set i (some (.sh d))) (σ.set i (some v)) H bX:=by obtain⟨t,a,b⟩:=s.sr.Df r i;exact⟨t,fun x hx=>a.subset hx,b,s.wf,a.nodup s.kz,fun x hx=>s.own x (a.subset hx)⟩
theorem bK(hN:X.N.Nodup)(hi:X.N[i]? = some x)(hx:Loc X.env.scope x)(hf:X.fn x=true\/X.env.scope.names.lookup x=some .local:=by first|exact .inl rfl|exact .inr rfl|assumption):QG X K (.Name x pos) (gN i) :=
 PG.imp (Y5 hN hi hx hf) fun v σ H Qv dc=>by obtain⟨Hs,ρ,ae,d,Q,sr,r,h,k⟩:=dc;obtain⟨t,m,s⟩:=sr.Jg i r;exact k _ _ t s m h
theorem Dm:LJ X K [] Av:=tN.imp Y8 fun v σ H Qv dc=>by obtain⟨Hs,ρ,ae,ds,Q,sr,r,h,k⟩:=dc;obtain⟨rfl,h⟩:=h;cases r;exact⟨rfl,k σ ρ ae sr (fun _ z=>z) h⟩
theorem wV(h1:QG X K e g)(h2:LJ X K es gs)(hs:(assignEach (e :: es) X.env).map (·.2)=assign e X.env :: (assignEach es X.env).map (·.2):=by rfl):LJ X K (e :: es) (xj g gs) :=
 tN.imp (Y9 h1 h2 hs) fun v σ H Qv dc=>by
  obtain⟨Hs,ρ,ae,ds,Q,sr,r,h,k⟩:=dc
  cases r with
  |nil=>exact h.elim
  |cons r rs=>exact⟨_,_,rfl,Hs,ρ,ae,_,_,sr,r,h,fun iS fI fk qc m2 q2=>⟨Hs,fI,fk,_,Q,qc,rs,q2,fun tP ti bJ' sr3 m3=>k tP ti bJ' sr3 fun a h=>m2 a (m3 a h)⟩⟩
theorem G_(hc:X.calm=true)(h:LJ X K es gs)(hn:(assignEach es X.env).length=n:=by rfl)(kr:(assignEach es X.env).findIdx? (·.1)=none:=by rfl):QG X K (.Tuple es k pos) (gT n gs) :=
 PG.imp (Zb hc h hn kr) fun v σ H Qv dc=>by
  obtain⟨Hs,ρ,ae,d,Q,sr,r,h,k⟩:=dc
  cases r with
  |tup z e rs=>exact⟨_,_,rfl,.inl (.inl (sr.wf.sub _ _ e)),by rw[<- rs.length];exact h.1,Hs,ρ,ae,_,Q,sr,rs,h.2,k⟩
  |_=>exact h.elim
end
abbrev WI:=Env->(List D->Prop)->Prop
structure n6(K:PySem.W.Frag)(J:It)(ds:List D)(C:Hp->Hp->Prop):Prop where
 go:∀ i Hs H,C Hs H->Wf Hs H->i<ds.length->J.go i H
 i7:∀ i Hs H x H' d,C Hs H->Wf Hs H->ds[i]? = some d->J.i7 i H x H'->∃ ai,eu Hs H ai H'/\Rep K ai d x
 stop:∀ Hs H,C Hs H->Wf Hs H->J.stop ds.length H
abbrev yu(K:PySem.W.Frag)(Hs:Hp)(J:It)(ds:List D):Prop:=n6 K J ds fun G _=>ay Hs G
def qP(xs:List D):List D:=xs.mapIdx fun i x=>.tup [.int i,x]
def LM(xs ys:List D):List D:=List.zipWith (fun x y=>.tup [x,y]) xs ys
section
variable {K:PySem.W.Frag}{Hs:Hp}{J:It}{ds es:List D}{C C':Hp->Hp->Prop}{a b:Addr}
theorem n6.imp(S:n6 K J ds C)(h:∀ Hs H,C' Hs H->C Hs H):n6 K J ds C':=⟨fun i Hs H c=>S.go i Hs H (h _ _ c),fun i Hs H x H' d c=>S.i7 i Hs H x H' d (h _ _ c),fun Hs H c=>S.stop Hs H (h _ _ c)⟩
theorem n6.seq(rs:aS K Hs ds vs)(S:jZ J vs fun H=>ay Hs H):yu K Hs J ds where
 go:=fun i G H s w h=>S.go i H (s.trans w.sub) (by rw[<- rs.length];exact h)
 i7:=fun i G H x H' d s w h y=>by
  have hi:i<ds.length:=by
   rcases Nat.lt_or_ge i ds.length with q|q
   ·exact q
   ·rw[GL q] at h;cases h
  obtain⟨e,z⟩:=S.i7 i H x H' (s.trans w.sub) (by rw[<- rs.length];exact hi) y;subst e;obtain⟨d',ed,rd⟩:=rs.EI z;rw[h] at ed;cases ed;exact⟨G,eu.refl w,rd.same s⟩
 stop:=fun G H s w=>by rw[rs.length];exact S.stop H (s.trans w.sub)
abbrev tD(K:PySem.W.Frag)(a:Addr)(ds:List D)(C:Hp->Hp->Prop):Prop:=∀ Hs H,C Hs H->Wf Hs H->∃ vs,dk K H a vs/\aS K Hs ds vs
theorem n6.list(h:tD K a ds C):n6 K (Iq K a) ds C where
 go:=fun i G H c w hi=>by obtain⟨vs,q,rs⟩:=h G H c w;exact⟨vs,vs[i]'(by rw[<- rs.length];exact hi),q,by simp⟩
 i7:=fun i G H x H' d c w hd y=>by obtain⟨vs,q,rs⟩:=h G H c w;obtain⟨rfl,y⟩:=y;obtain⟨d',ed,rd⟩:=rs.EI (y vs q);rw[hd] at ed;cases ed;exact⟨G,eu.refl w,rd⟩
 stop:=fun G H c w=>by obtain⟨vs,q,rs⟩:=h G H c w;exact⟨vs,q,by rw[rs.length];exact cK _⟩
theorem n6.enum(h:tD K a ds C):n6 K (Pr K a) (qP ds) C where
 go:=fun i G H c w hi=>by
  obtain⟨vs,q,rs⟩:=h G H c w;have hi:i<ds.length:=by simpa[qP] using hi
  exact⟨vs,vs[i]'(by rw[<- rs.length];exact hi),q,by simp⟩
 i7:=fun i G H x H' d c w hd y=>by
  obtain⟨vs,q,rs⟩:=h G H c w;obtain⟨p,v,rfl,hp,rfl,y⟩:=y;obtain⟨d',ed,rd⟩:=rs.EI (y vs q);have:d=.tup [.int i,d']:=by simp only[qP,List.getElem?_mapIdx,ed,Option.map_some] at hd;cases hd;rfl
  subst this;have g:=AB (vs:=[.int i,v]) w hp;exact⟨_,g,.tup (vs:=[.int i,v]) z9 gg (.cons (.int _) (.cons (rd.same g.sh) .nil))⟩
 stop:=fun G H c w=>by obtain⟨vs,q,rs⟩:=h G H c w;exact⟨vs,q,by rw[qP,List.length_mapIdx,rs.length];exact cK _⟩
theorem n6.zip(h:tD K a ds C)(h2:tD K b es C):n6 K (Itz K a b) (LM ds es) C where
 go:=fun i G H c w hi=>by obtain⟨vs,q,rs⟩:=h G H c w;obtain⟨us,q2,oj⟩:=h2 G H c w;rw[LM,List.length_zipWith] at hi;have:=rs.length;have:=oj.length;exact⟨vs,us,vs[i]'(by lia),us[i]'(by lia),q,q2,by simp,by simp⟩
 i7:=fun i G H x H' d c w hd y=>by
  obtain⟨vs,q,rs⟩:=h G H c w;obtain⟨us,q2,oj⟩:=h2 G H c w;obtain⟨p,u,v,rfl,hp,rfl,y,y2⟩:=y;obtain⟨d1,ed,rd⟩:=rs.EI (y vs q);obtain⟨d2,ed2,rd2⟩:=oj.EI (y2 us q2);have:d=.tup [d1,d2]:=by simp only[LM,List.getElem?_zipWith,ed,ed2] at hd;cases hd;rfl
  subst this;have g:=AB (vs:=[u,v]) w hp;exact⟨_,g,.tup (vs:=[u,v]) z9 gg (.cons (rd.same g.sh) (.cons (rd2.same g.sh) .nil))⟩
 stop:=fun G H c w=>by obtain⟨vs,q,rs⟩:=h G H c w;obtain⟨us,q2,oj⟩:=h2 G H c w;have:=rs.length;have:=oj.length;exact⟨vs,us,q,q2,by rw[LM,List.length_zipWith];lia⟩
theorem t_(s:dk K Hs a vs)(rs:aS K Hs ds vs):tD K a ds fun G _=>ay Hs G:=fun G H c w=>⟨vs,ay.seq (c.trans w.sub) s,rs.same c⟩
end
def tpI(K:PySem.W.Frag)(wi:WI):TI:=fun σ H R=>∃ Hs ρ ae Q,cS K Hs ρ σ H ae/\wi ρ Q/\∀ J H' ai ds,eu Hs H ai H'->yu K ai J ds->ds.length<=sizeLine->Q ds->R J H'
abbrev QI(X:Cx)(K:PySem.W.Frag)(tg iter:Expr)(wi:WI):Prop:=PI X tg iter (tpI K wi)
def pZ:Md->Prop
 |.bo=>False
 |_=>True
def xM(te:WE):WI:=fun ρ Q=>te ρ fun m d=>pZ m/\match d with
 |.list xs=>Q xs
 |_=>False
def zz(te:WE):WI:=fun ρ Q=>te ρ fun m d=>pZ m/\match d with
 |.tup xs=>Q xs
 |_=>False
def LN(z:Str):List D:=z.cps.toList.map fun c=>.str ⟨#[c]⟩
def yL(te:WE):WI:=fun ρ Q=>te ρ fun _ d=>match d with
 |.str z=>Q (LN z)
 |_=>False
def mW(lo:Int)(n:Nat):List D:=(List.range n).map fun i=>.int (lo+(i:Nat))
def jm(te:WE):WI:=fun ρ Q=>te ρ fun _ d=>match d with
 |.int j=>j<=16777216/\-(2 ^ 62)<=j/\Q (mW 0 j.toNat)
 |_=>False
def wX(ta tb:WE):WI:=fun ρ Q=>ta ρ fun _ x=>tb ρ fun _ y=>match x,y with
 |.int i,.int j=>j-i<=16777216/\(-(2 ^ 62)<=i/\i<2 ^ 62/\-(2 ^ 62)<=j/\j<2 ^ 62)/\Q (mW i (j-i).toNat)
 |_,_=>False
section
variable {X:Cx}{K:PySem.W.Frag}{e e2 tg:Expr}{te E4:WE}{pos p:Pos}
theorem PI.imp(h:PI X tg iter t)(i:∀ σ H R,t' σ H R->t σ H R):PI X tg iter t':=fun pins s σ H R I q=>h pins s σ H R I (i σ H R q)
theorem jZ.imp{J:It}(s:jZ J vs c)(h:∀ H,c' H->c H):jZ J vs c':=⟨fun i H q=>s.go i H (h H q),fun i H x H' q=>s.i7 i H x H' (h H q),fun H q=>s.stop H (h H q)⟩
theorem RM.yM(g:eu Hs H aw H1)(r:RM K aw H1 m d v As)(f:dU aw H As)(h:pZ m):∃ ax,eu Hs H ax H1/\Rep K ax d v:=by
 cases m with
 |sh=>exact⟨aw,g,r.2⟩
 |bo=>exact h.elim
 |ow fl =>
  have n:∀ a∈As,aw a=none:=fun a ha=>(f.2 a ha).1;have o:=r.own;refine⟨oP aw H1 As,⟨g.all,g.sh.trans (kO n),Ak g.wf o,fun a h=>?_⟩,bP.rep (kO n) r.1 fun a ha=>by unfold oP;rw[if_pos ha]⟩;unfold oP at h;by_cases m:a∈As
  ·exact .inr (f.2 a m).2
  ·rw[if_neg m] at h;exact g.new a h
theorem Dz(he:QE X K e te)(hK:X.K=K:=by rfl):QI X K tg e (xM te):=by
 subst hK;refine PI.imp (T2 he) fun σ H R hx=>gX hx fun Hs ρ ae Q sr h k=>⟨Hs,ρ,ae,_,sr,h,fun v H1 aw m d As g1 r1 f1 q1=>?_⟩
 obtain⟨nb,q1⟩:=q1;obtain⟨ax,g2,r2⟩:=r1.yM g1 f1 nb
 cases r2 with
 |list z s rs=>exact⟨_,rfl,⟨_,ay.seq g2.wf.sub s⟩,k _ H1 ax _ g2 (.seq rs (jZ.imp (Ce X.K _ _) fun H' s'=>ay.seq s' s)) (by rw[rs.length];exact z) q1⟩
 |_=>exact q1.elim
theorem CP(he:QE X K e te)(hK:X.K=K:=by rfl):QI X K tg e (zz te):=by
 subst hK;refine PI.imp (T3 he) fun σ H R hx=>gX hx fun Hs ρ ae Q sr h k=>⟨Hs,ρ,ae,_,sr,h,fun v H1 aw m d As g1 r1 f1 q1=>?_⟩
 obtain⟨nb,q1⟩:=q1;obtain⟨ax,g2,r2⟩:=r1.yM g1 f1 nb
 cases r2 with
 |tup z s rs=>exact⟨_,rfl,⟨_,.inl (.inl (g2.wf.sub _ _ s))⟩,k _ H1 ax _ g2 (.seq rs (jZ.imp (zA X.K _ _) fun H' s'=>.inl (.inl (s' _ _ s)))) (by rw[rs.length];exact z) q1⟩
 |_=>exact q1.elim
theorem w6:∀ (l:List Nat),aS K H (l.map fun c=>.str ⟨#[c]⟩) (l.map fun c=>V.str ⟨#[c]⟩)
 |[]=>.nil
 |c :: l=>.cons (.str (yr c)) (w6 l)
theorem CW(he:QE X K e te):QI X K tg e (yL te):=by
 refine PI.imp (Ho he) fun σ H R hx=>gX hx fun Hs ρ ae Q sr h k=>⟨Hs,ρ,ae,_,sr,h,fun v H1 aw m d As g1 r1 f1 q1=>?_⟩
 have r:=r1.rep g1.wf
 cases r with
 |str hz=>exact⟨_,rfl,k _ H1 aw _ g1 (.seq (w6 _) (jZ.imp (DY _) fun _ _=>trivial)) (by rw[da,tv];exact hz) q1⟩
 |_=>exact q1.elim
theorem oY(lo:Int):∀ (l:List Nat),aS K H (l.map fun i=>.int (lo+(i:Nat))) (l.map fun i=>V.int (lo+(i:Nat)))
 |[]=>.nil
 |c :: l=>.cons (.int _) (oY lo l)
theorem jF (hm:X.mg "range" = none) (he:QE X K e te) (hg:Gl X "range" := by rfl) (hs:starEach [e] X.env=(false,eval e X.env) :: starEach [] X.env:=by rfl) (E5:starEach [e] X.env=[(false,eval e X.env)]:=by rfl):QI X K tg (.Call (.Name "range" p) [e] [] pos) (jm te):=by
 refine PI.imp (Zj hg hm (iA he lI hs) E5) fun σ H R hx=>gX hx fun Hs ρ ae Q sr h k=>⟨Hs,ρ,ae,_,sr,h,fun v H1 aw m d As g1 r1 f1 q1=>?_⟩
 have r:=r1.rep g1.wf
 cases r with
 |int j =>obtain⟨h1,h2,q1⟩:=q1;exact⟨j,rfl,h2,by lia,k _ H1 aw _ g1 (.seq (oY 0 _) (jZ.imp (zb _ _) fun _ _=>trivial)) (by rw[da,CM,sizeLine_eq];lia) q1⟩
 |_=>exact q1.elim
theorem Fv (hm:X.mg "range" = none) (he:QE X K e te) (Pt:QE X K e2 E4) (hg:Gl X "range" := by rfl) (hs:starEach (e :: [e2]) X.env=(false,eval e X.env) :: starEach [e2] X.env:=by rfl) (nE:starEach (e2 :: []) X.env=(false,eval e2 X.env) :: starEach [] X.env:=by rfl) (E5:starEach [e,e2] X.env=[(false,eval e X.env),(false,eval e2 X.env)]:=by rfl) (bO':starEach [e2] X.env=[(false,eval e2 X.env)]:=by rfl):QI X K tg (.Call (.Name "range" p) [e,e2] [] pos) (wX te E4):=by
 refine PI.imp (Zk hg hm (iA he (iA Pt lI nE) hs) E5 bO') fun σ H R hx=>gX hx fun Hs ρ ae Q sr h k=>⟨Hs,ρ,ae,_,sr,h,fun v H1 aw m d As g1 r1 f1 q1=>⟨aw,ρ,ae,_,sr.grow g1,q1,fun u H2 ax n y Bs g2 r2 f2 q2=>?_⟩⟩
 have r:=(r1.grow g2).rep g2.wf;have r':=r2.rep g2.wf
 cases r with
 |int i=>cases r' with
  |int j =>obtain⟨h1,h2,q2⟩:=q2;exact⟨i,j,rfl,h2,k _ H2 ax _ (g1.trans g2) (.seq (oY i _) (jZ.imp (zb _ _) fun _ _=>trivial)) (by rw[da,CM,sizeLine_eq];lia) q2⟩
  |_=>exact q2.elim
 |_=>cases r'<;>exact q2.elim
section
variable {X:Cx}{K:PySem.W.Frag}{e tg:Expr}{te:WE}{pos p:Pos}
def PQ(K:PySem.W.Frag)(wi:WI):TI:=fun σ H R=>∃ Hs ρ ae Q,cS K Hs ρ σ H ae/\wi ρ Q/\∀ J H' ai ds,eu Hs H ai H'->yu K H' J ds->ds.length<=sizeLine->Q ds->R J H'
abbrev AI(X:Cx)(K:PySem.W.Frag)(tg iter:Expr)(wi:WI):Prop:=PI X tg iter (PQ K wi)
theorem qC(h:QI X K tg iter wi):AI X K tg iter wi:=PI.imp h fun σ H R hx=>gX hx fun Hs ρ ae Q sr h k=>⟨Hs,ρ,ae,Q,sr,h,fun J H' ai ds g w z q=>k J H' ai ds g (w.imp fun G H s=>g.wf.sub.trans s) z q⟩
def jW(te:WE):WI:=fun ρ Q=>te ρ fun _ d=>match d with
 |.list xs=>Q xs
 |_=>False
def zf(te:WE):WI:=fun ρ Q=>te ρ fun _ d=>match d with
 |.tup xs=>Q xs
 |_=>False
def xH(te:WE):WI:=fun ρ Q=>te ρ fun _ d=>match d with
 |.list xs=>Q (qP xs)
 |_=>False
theorem oK(he:QE X K e te)(hK:X.K=K:=by rfl):AI X K tg e (jW te):=by
 subst hK;refine PI.imp (T2 he) fun σ H R hx=>gX hx fun Hs ρ ae Q sr h k=>⟨Hs,ρ,ae,_,sr,h,fun v H1 aw m d As g1 r1 f1 q1=>?_⟩
 have r:=r1.rep g1.wf
 cases r with
 |list z s rs=>exact⟨_,rfl,⟨_,s⟩,k _ H1 aw _ g1 (.list (t_ s rs)) (by rw[rs.length];exact z) q1⟩
 |_=>exact q1.elim
theorem CG(he:QE X K e te)(hK:X.K=K:=by rfl):AI X K tg e (zf te):=by
 subst hK;refine PI.imp (T3 he) fun σ H R hx=>gX hx fun Hs ρ ae Q sr h k=>⟨Hs,ρ,ae,_,sr,h,fun v H1 aw m d As g1 r1 f1 q1=>?_⟩
 have r:=r1.rep g1.wf
 cases r with
 |tup z s rs=>exact⟨_,rfl,⟨_,.inl (.inl s)⟩,k _ H1 aw _ g1 (.seq rs (jZ.imp (zA X.K _ _) fun H' s'=>.inl (.inl (s' _ _ s)))) (by rw[rs.length];exact z) q1⟩
 |_=>exact q1.elim
theorem DQ (hm:X.mg "enumerate" = none) (he:QE X K e te) (hK:X.K=K:=by rfl) (hg:Gl X "enumerate" := by rfl) (hs:starEach [e] X.env=(false,eval e X.env) :: starEach [] X.env:=by rfl) (E5:starEach [e] X.env=[(false,eval e X.env)]:=by rfl) :
  AI X K (.Tuple elts kk tp) (.Call (.Name "enumerate" p) [e] [] pos) (xH te):=by
 subst hK;refine PI.imp (Fi hg hm (iA he lI hs) E5) fun σ H R hx=>gX hx fun Hs ρ ae Q sr h k=>⟨Hs,ρ,ae,_,sr,h,fun v H1 aw m d As g1 r1 f1 q1=>?_⟩
 have r:=r1.rep g1.wf
 cases r with
 |list z s rs=>exact⟨_,rfl,⟨_,s⟩,k _ H1 aw _ g1 (.enum (t_ s rs)) (by rw[qP,List.length_mapIdx,rs.length];exact z) q1⟩
 |_=>exact q1.elim
end
def tR(g:WG)(b:WS)(E:m5):List D->Env->Prop
 |[],ρ=>E.nx ρ
 |x :: xs,ρ=>g x ρ fun md=>b { E with nx:=tR g b E xs,ct:=tR g b E xs,bk:=E.nx } md
def xA(wi:WI)(g:WG)(b:WS):WS:=fun E ρ=>wi ρ fun ds=>tR g b E ds ρ
variable {wi:WI}{g:WG}{b:WS}{body:List Stmt}
theorem oH(hp:PassesOwn (model X.prog X.w) X.A X.env X.xe)(hc:X.calm=true)(hi:QI X K tg iter wi)(hg:QG X K tg g)(hb:lT X K L body b)(hs:∀ x,foldedSetIterable iter X.env x=pure x:=by intro _;rfl) :
  QS X K L (.For tg iter body [] pos) (xA wi g b):=by
 refine PS.imp (Zn hp hc hi hg hb hs) fun D σ H hx=>iM hx fun Hs ρ ae E sr h k1 k2 k3 k4 kx=>?_;rw[Ed];refine⟨Hs,ρ,ae,_,sr,h,fun J H1 aw ds g1 S hz q1=>?_⟩;refine⟨fun i m σ H=>m=ds.length-i/\i<=ds.length/\∃ ai b9 bX,ay aw ai/\cS K ai b9 σ H bX/\tR g b E (ds.drop i) b9,⟨ds.length,by simp,i5 _,aw,ρ,ae,ay.refl _,sr.grow g1,by simpa using q1⟩,?_⟩;rintro i m iS H2 ⟨rfl,hi,ax,fI,fk,s2,qc,q2⟩;by_cases kP:i<ds.length
 ·refine .inr ⟨S.go i ax H2 s2 qc.wf kP,fun tP H3=>∃ ai b9 bX,ay aw ai/\cS K ai b9 tP H3 bX/\tR g b E (ds.drop (i+1)) b9,fun tP H3 h3=>⟨ds.length-(i+1),by lia,rfl,kP,h3⟩,fun x H3 y=>?_⟩;obtain⟨g7,g3,rd⟩:=S.i7 i ax H2 x H3 ds[i] s2 qc.wf (by simp[kP]) y;rw[zh kP] at q2;have s3:=s2.trans g3.sh;refine⟨g7,fI,fk,ds[i],_,qc.grow g3,rd,q2,fun σ4 iO E6 AJ _ q4=>?_⟩;refine⟨g7,iO,E6,_,AJ,q4,?_,?_,?_,?_,fun n H5 s5=>kx n H5 ((g1.sh.trans s3).trans s5)⟩
  ·exact fun PR H5 qf E7 E8 s5 E9 q5=>⟨qf,E7,E8,s3.trans s5,E9,q5⟩
  ·exact fun PR H5 qf E7 E8 s5 E9 q5=>k1 PR H5 qf E7 E8 ((g1.sh.trans s3).trans s5) E9 q5
  ·exact fun PR H5 qf E7 E8 s5 E9 q5=>⟨qf,E7,E8,s3.trans s5,E9,q5⟩
  ·exact fun v H5 qf m d As s5=>k4 v H5 qf m d As ((g1.sh.trans s3).trans s5)
 ·have e:i=ds.length:=by lia
  subst e;refine .inl ⟨S.stop ax H2 s2 qc.wf,?_⟩;rw[GP] at q2;exact k1 iS H2 ax fI fk (g1.sh.trans s2) qc q2
theorem g8(xs:List D)(Pv:Nat->Env->Prop)(h0:Pv 0 ρ)(hs:∀ i x ρ,xs[i]? = some x->Pv i ρ->∀ N:Env->Prop,(∀ b9,Pv (i+1) b9->N b9)->g x ρ fun md=>b { E with nx:=N,ct:=N,bk:=E.nx } md) (hd:∀ ρ,Pv xs.length ρ->E.nx ρ):tR g b E xs ρ:=by
 have go:∀ (k i:Nat) (ρ:Env),i+k=xs.length->Pv i ρ->tR g b E (xs.drop i) ρ:=by
  intro k
  induction k with
  |zero =>
   intro i ρ e p;have:i=xs.length:=by lia
   subst this;rw[GP];exact hd ρ p
  |succ k ih =>
   intro i ρ e p;have hi:i<xs.length:=by lia
   rw[zh hi];exact hs i xs[i] ρ (by simp[hi]) p _ fun fI h2=>ih (i+1) fI (by lia) h2
 have:=go xs.length 0 ρ (by lia) h0;simpa using this
end
def ka:WT:=fun _ Q=>Q true
def LP(m:Md)(d:D):Prop:=d.flat=true\/m=.ow true
def dN(g:WG)(tc:WT)(te:WE):List D->Env->(List D->Prop)->Prop
 |[],_,k=>k []
 |x :: xs,ρ,k=>g x ρ fun md=>tc md fun b=>if b=true then te md fun m d=>LP m d/\dN g tc te xs md (fun out=>k (d :: out)) else dN g tc te xs md k
def BL(tn:Nat)(ix:List Nat)(ρ:Env):Env:=List.replicate tn none++ix.map fun j=>(ρ[j]?).join.map PL
def iz(wi:WI)(g:WG)(tc:WT)(te:WE)(tn:Nat)(ix:List Nat):WE:=fun ρ Q=>wi ρ fun ds=>dN g tc te ds (BL tn ix ρ) fun out=>Q (.ow true) (.list out)
section
variable {X:Cx}{K:PySem.W.Frag}
theorem lJ{Hs H G:Hp}(sr:cS K Hs ρ σ H ae)(G':Hp):∀ (ix:List Nat),SR K H G' (ix.map fun j=>(ρ[j]?).join.map PL) (ix.map fun j=>(σ[j]?).join) []
 |[]=>.nil
 |j :: ix=>by
  have ih:=lJ sr G' ix (G:=G);simp only[hV]
  cases e:ρ[j]? with
  |none=>exact .non ih
  |some o =>
   cases o with
   |none=>exact .non ih
   |some sl =>
    obtain⟨v,e1,r⟩:=sr.sr.get e;rw[e1]
    cases sl with
    |sh d=>exact .sh (Rep.same sr.wf.sub r) ih
    |xc a=>subst r;exact .xc ih
    |ow fl d =>obtain⟨As,_,r,_⟩:=r;exact .sh (r.rep sr.wf.sub fun _ _=>rfl) ih
    |lk a fl d =>obtain⟨As,_,r,_⟩:=r;exact .sh (r.rep sr.wf.sub fun _ _=>rfl) ih
theorem nT(s:SR K H G ρ σ []):∀ (n:Nat),SR K H G (List.replicate n none++ρ) (List.replicate n none++σ) []
 |0=>s
 |n+1=>.non (nT s n)
theorem SR.heap(s:SR K Hs H ρ σ []):SR K Hs H' ρ σ []:=s.fF (ay.refl _) fun a h=>nomatch h
theorem CZ(w:Wf Hs H)(n:Hs p=none)(ho:∀ vs,o≠.tup vs):Wf Hs (upd H p o):=⟨fun b u q=>by
  rw[eS (fun z=>by subst z;rw[n] at q;cases q)];exact w.sub b u q,fun b us q=>by
  by_cases hb:b=p
  ·subst hb;rw[gg] at q;exact absurd (Option.some.inj q) (ho us)
  ·rw[eS hb] at q;exact w.gE b us q⟩
structure CompI(K:PySem.W.Frag)(H1:Hp)(b:Addr)(acc:List D)(ys:List V)(As:List Addr)(Hs:Hp)(ρ:Env)(τ:St)(H:Hp):Prop where
 sm:ay H1 Hs
 sr:cS K Hs ρ τ H []
 eD:H b=some (.lst ys)
 nD:Hs b=none
 ra:aF K Hs H true acc ys As
 nd:(b :: As).Nodup
 own:∀ a∈As,Hs a=none
theorem CompI.grow(c:CompI K H1 b acc ys As Hs ρ τ H)(g:eu Hs H ai H'):CompI K H1 b acc ys As ai ρ τ H' :=
 ⟨c.sm.trans g.sh,c.sr.grow g,g.all _ _ c.eD,g.lS c.nD (by rw[c.eD];exact fun z=>nomatch z),c.ra.grow g.sh g.all,c.nd,fun a ha=>g.lS (c.own a ha) (c.ra.own a ha).ne⟩
theorem CompI.push(c:CompI K H1 b acc ys As Hs ρ τ H)(r:RM K Hs H m d v Bs)(ok:LP m d)(nb:Bs.Nodup)(fb:∀ a∈Bs,Hs a=none/\a∉b :: As):∃ fv,CompI K H1 b (acc++[d]) (ys++[v]) fv Hs ρ τ (upd H b (.lst (ys++[v]))):=by
 obtain⟨B,sb,rb⟩:∃ B,B.Sublist Bs/\bP K Hs H true d v B:=by
  rcases ok with hf|rfl
  ·exact⟨[],vn _,.sh (fun _=>hf) (r.flat c.sr.wf hf)⟩
  ·exact⟨Bs,List.Sublist.refl _,r.1⟩
 obtain⟨na,nA⟩:=mx.mp c.nd;have LS:=fun a ha=>fb a (sb.subset ha);refine⟨As++(B++[]),c.sm,⟨c.sr.sr.heap,CZ c.sr.wf c.nD (fun _ z=>nomatch z),mz,fun a h=>nomatch h⟩,gg,c.nD,(c.ra.fF (H':=upd H b (.lst (ys++[v]))) (ay.refl _) fun a ha=>eS fun z=>na (by subst z;exact ha)).append (.cons (rb.fF (ay.refl _) fun a ha=>eS fun z=>(LS a ha).2 (by subst z;exact fo)) .nil),?_,?_⟩
 ·rw[kX];refine mx.mpr ⟨fun m=>(eW.mp m).elim na fun m=>(LS b m).2 fo,hU.mpr ⟨nA,sb.nodup nb,fun x hx y hy e=>(LS y hy).2 (e ▸ dz _ hx)⟩⟩
 ·rw[kX];exact fun a ha=>(eW.mp ha).elim (c.own a) fun m=>(LS a m).1
theorem zm(h:oD K (iz wi g tc te tn ix) σ H Qv):uH (PQ K wi) (PN K g) (ui K tc) (oD K te) tn ix σ H Qv:=by
 obtain⟨Hs,ρ,ae,Q,sr,h,f⟩:=h;rw[wK];refine⟨Hs,ρ,ae,_,sr,h,fun J H1 aw ds g1 S hz q1 b hb=>?_⟩;have st:CompI K H1 b [] [] [] H1 (BL tn ix ρ) (jh tn ix σ) (upd H1 b (.lst [])):=by
  refine⟨ay.refl _,⟨nT (lJ (G:=H1) (sr.grow g1) _ ix) tn,⟨(ay.refl H1).upd hb,fun a xs e=>?_⟩,mz,fun a h=>nomatch h⟩,gg,hb,.nil,by simp,fun a h=>nomatch h⟩;by_cases ha:a=b
  ·subst ha;rw[gg] at e;cases e
  ·rw[eS ha] at e;exact e
 refine⟨fun i m τ H2=>m=ds.length-i/\i<=ds.length/\∃ ax fI acc ys As,CompI K H1 b acc ys As ax fI τ H2/\acc.length<=i/\dN g tc te (ds.drop i) fI (fun out=>Q (.ow true) (.list (acc++out))), ⟨ds.length,by simp,i5 _,H1,_,[],[],[],st,cK _,by simpa using q1⟩,?_⟩
 rintro i m τ H2 ⟨rfl,hi,ax,fI,acc,ys,As,c,la,q2⟩;by_cases kP:i<ds.length
 ·refine .inr ⟨S.go i ax H2 c.sm c.sr.wf kP,
   fun qh v H4=>∃ sR iO d,CompI K H1 b acc ys As sR iO qh H4/\(∃ fv,CompI K H1 b (acc++[d]) (ys++[v]) fv sR iO qh (upd H4 b (.lst (ys++[v]))))/\dN g tc te (ds.drop (i+1)) iO (fun out=>Q (.ow true) (.list (acc++d :: out))),
   fun qh H3=>∃ g7 ti,CompI K H1 b acc ys As g7 ti qh H3/\dN g tc te (ds.drop (i+1)) ti (fun out=>Q (.ow true) (.list (acc++out))),?_,?_,?_⟩
  ·rintro qh v H4 ⟨sR,iO,d,c4,⟨fv,c5⟩,q4⟩;have PX:=c4.ra.length;exact⟨ys,ds.length-(i+1),c4.eD,by lia,by lia,rfl,kP,sR,iO,acc++[d],ys++[v],fv,c5,by rw[kg];simpa using la,by simpa using q4⟩
  ·rintro qh H3 ⟨g7,ti,c3,q3⟩;exact⟨ds.length-(i+1),by lia,rfl,kP,g7,ti,acc,ys,As,c3,by lia,q3⟩
  ·intro x H3 y;obtain⟨g7,g3,rd⟩:=S.i7 i ax H2 x H3 ds[i] c.sm c.sr.wf (by simp[kP]) y;rw[zh kP] at q2;have c3:=c.grow g3;refine⟨g7,fI,[],ds[i],_,c3.sr,rd,q2,fun PY iO E6 AJ m4 q4=>?_⟩;have t4:E6=[]:=Ts.mpr fun a ha=>nomatch m4 a ha;subst t4;have c4:CompI K H1 b acc ys As g7 iO PY H3:=⟨c3.sm,AJ,c3.eD,c3.nD,c3.ra,c3.nd,c3.own⟩
   refine⟨g7,iO,[],_,AJ,q4,fun k H5 qf g5 q5=>?_⟩;have c5:=c4.grow g5
   cases k with
   |false=>exact⟨qf,iO,c5,q5⟩
   |true =>
    refine⟨qf,iO,[],_,c5.sr,q5,fun v H6 PZ m6 d6 As6 g6 r6 f6 q6=>?_⟩;have c6:=c5.grow g6;refine⟨PZ,iO,d6,c6,c6.push r6 q6.1 f6.1 fun a ha=>⟨(f6.2 a ha).1,fun m=>?_⟩,q6.2⟩;rcases eK.mp m with rfl|m
    ·have:=(f6.2 _ ha).2;rw[c5.eD] at this;cases this
    ·exact(c5.ra.own a m).ne (f6.2 a ha).2
 ·have e:i=ds.length:=by lia
  subst e;refine .inl ⟨S.stop ax H2 c.sm c.sr.wf,?_⟩;rw[GP] at q2;have q2:Q (.ow true) (.list (acc++[])):=q2;rw[kX] at q2;have PX:=c.ra.length;have rm:RM K ax H2 (.ow true) (.list acc) (.ref b) (b :: As):=⟨.list (by lia) c.eD c.ra,by simp⟩
  obtain⟨fv,r',fr⟩:=oA g1.wf c.sm c.sr.wf rm c.nd fun a ha=>(eK.mp ha).elim (fun z=>z ▸ c.nD) (c.own a);exact Fin.after f g1 (.ref b) H2 _ (.ow true) (.list acc) fv (fH g1.wf c.sm c.sr.wf) r' fr q2
theorem sM.imp(h:sM X ifs t)(i:∀ σ H Q,t' σ H Q->t σ H Q):sM X ifs t':=fun pins s σ H Q I q=>h pins s σ H Q I (i σ H Q q)
abbrev LV(X:Cx)(K:PySem.W.Frag)(ifs:List Expr)(t:WT):Prop:=sM X ifs (ui K t)
theorem dR:LV X K [] ka:=sM.imp FJ fun σ H Qv hx=>gX hx fun Hs ρ ae Q sr h k=>k true H Hs (eu.refl sr.wf) h
theorem il(hc:X.calm=true)(hi:AI X K tg iter wi)(O:cC X scope tn cn ix)(hg:∀ C fp cw cx,QG (cM X scope C (tn++cn) fp cw cx) K tg g) (lP:∀ C fp cw cx,LV (cM X scope C (tn++cn) fp cw cx) K ifs tc) (he:∀ C fp cw cx,QE (cM X scope C (tn++cn) fp cw cx) K elt te)(hs:∀ x,foldedSetIterable iter X.env x=pure x:=by intro _;rfl):QE X K (.ListComp elt [⟨tg,iter,ifs,0⟩] scope pos) (iz wi g tc te tn.length ix) :=
 PE.imp (F_ hc hi O hg lP he hs) fun σ H Qv h=>zm h
end
theorem eZ(p:D->Bool)(f:D->D)(Iv:Env->Prop):∀ (xs:List D) (ρ:Env) (k:List D->Prop),Iv ρ -> (∀ x∈xs,∀ ρ,Iv ρ->∀ N1:Env->Prop,∀ N2:Env->D->Prop,(∀ b9,Iv b9->p x=false->N1 b9)->(∀ b9,Iv b9->p x=true->N2 b9 (f x))->g x ρ fun md=>tc md fun b=>if b=true then te md fun m d=>LP m d/\N2 md d else N1 md) ->
  k ((xs.filter p).map f)->dN g tc te xs ρ k
 |[],_,k,_,_,h=>h
 |x :: xs,ρ,k,iv,hs,h=>by
  refine hs x fo ρ iv _ _ (fun b9 Fc hp=>?_) (fun b9 Fc hp=>?_)
  ·exact eZ p f Iv xs b9 k Fc (fun y hy=>hs y (dz _ hy)) (by simpa[hp] using h)
  ·exact eZ p f Iv xs b9 _ Fc (fun y hy=>hs y (dz _ hy)) (by simpa[hp] using h)
def Upd(K:PySem.W.Frag)(Hs H:Hp)(σ:St)(fl:Bool)(v:V)(up:Bool->D->Env)(fv:List Addr):Prop:=∀ ax H2 cE d2 fA,ay Hs ax->Wf ax H2->(∀ a,Hs a=none->H a≠none->ax a=none)->(cE=true->fl=true) ->
  bP K ax H2 cE d2 v fA->fA≠[]->fA.Nodup->(∀ a∈fA,ax a=none/\(a∈fv\/H a=none))->(∀ a,H a≠none->a∉fv->H2 a=H a)->∃ fk,cS K ax (up cE d2) σ H2 fk
structure Place(K:PySem.W.Frag)(Hs H:Hp)(σ:St)(fl:Bool)(d:D)(v:V)(up:Bool->D->Env):Prop where
 ex:∃ fv,bP K Hs H fl d v fv/\fv≠[]/\fv.Nodup/\(∀ a∈fv,Hs a=none)/\Upd K Hs H σ fl v up fv
theorem Upd.node{K:PySem.W.Frag}(k:Upd K Hs H σ fl (.ref a) up (a :: A))(g:eu Hs H ax H2)(own:∀ x∈a :: A,Hs x=none/\H x≠none)(ho:∀ vs,o≠.tup vs)(hf:cE=true->fl=true)(r:bP K ax (upd H2 a o) cE d2 (.ref a) (a :: C)) (nC:C.Nodup) (LW:a∉C) (hC:∀ x∈C,x∈A\/(ax x=none/\H x=none)):∃ fk,cS K ax (up cE d2) σ (upd H2 a o) fk:=by
 have hn:∀ x∈a :: A,ax x=none:=fun x hx=>g.lS (own x hx).1 (own x hx).2;refine k ax _ cE d2 (a :: C) g.sh (CZ g.wf (hn a fo) ho) (fun b h1 h2=>g.lS h1 h2) hf r (CY _ _) (mx.mpr ⟨LW,nC⟩) (fun b hb=>?_) fun b h1 h2=>?_
 ·rcases eK.mp hb with rfl|hb
  ·exact⟨hn _ fo,.inl fo⟩
  ·exact(hC b hb).elim (fun q=>⟨hn b (dz _ q),.inl (dz _ q)⟩) fun q=>⟨q.1,.inr q.2⟩
 ·rw[eS fun z=>h2 (by subst z;exact fo)]
  cases q:H b with
  |none=>exact absurd q h1
  |some o=>exact g.all b o q
abbrev WP:=Env->(Bool->D->(Bool->D->Env)->Prop)->Prop
def tpP(K:PySem.W.Frag)(t:WP):TE:=fun σ H Qv=>∃ Hs ρ ae Q,cS K Hs ρ σ H ae/\t ρ Q/\∀ v H' ai fl d up,eu Hs H ai H'->Place K ai H' σ fl d v up->Q fl d up->Qv v H'
abbrev QP(X:Cx)(K:PySem.W.Frag)(e:Expr)(t:WP):Prop:=PE X e (tpP K t)
section
variable {K:PySem.W.Frag}{Hs H ai H':Hp}{σ:St}{fl:Bool}{d:D}{v:V}{up:Bool->D->Env}
theorem Place.grow(p:Place K Hs H σ fl d v up)(g:eu Hs H ai H'):Place K ai H' σ fl d v up:=by
 obtain⟨fv,r,ne,nd,own,k⟩:=p.ex;refine⟨fv,r.grow g.sh g.all,ne,nd,fun a h=>g.lS (own a h) (r.own a h).ne,fun ax H2 cE d2 fA s2 w2 n2 hf r2 ne2 iP o2 st=>?_⟩;refine k ax H2 cE d2 fA (g.sh.trans s2) w2 (fun a h1 h2=>n2 a (g.lS h1 h2) ?_) hf r2 ne2 iP (fun a h=>⟨(o2 a h).1,(o2 a h).2.imp id g.all.free⟩) fun a h1 h2=>?_
 ·cases e:H a with
  |none=>exact absurd e h2
  |some o=>rw[g.all a o e];exact fun z=>nomatch z
 ·cases e:H a with
  |none=>exact absurd e h1
  |some o =>have:=g.all a o e;rw[<- this];exact st a (by rw[this];exact fun z=>nomatch z) h2
theorem bP.ne2:(∀ {d:D} {v:V} {As:List Addr},bP K Hs H true d v As->d.flat=false->As≠[])/\∀ {ds:List D} {vs:List V} {As:List Addr},aF K Hs H true ds vs As->ck ds=false->As≠[] :=
 bP.ind (m1:=fun d _ As=>d.flat=false->As≠[]) (m2:=fun ds _ As=>ck ds=false->As≠[]) (fun _ _ f _ h=>by rw[f rfl] at h;cases h) (fun _ _ _ _ _ _ _ _ _=>CY _ _) (fun _ _ _ _ _ _ n _ ih _=>ih n) (fun _ _ _ _ _ _ _ _ _=>CY _ _) (fun _ _ _ _ _ _ _ _ _=>CY _ _) (fun h=>by simp[ck] at h) fun d _ _ _ _ _ _ _ i1 i2 h=>by
   cases e:d.flat with
   |false=>exact fun z=>i1 e (CD.mp z).1
   |true =>simp only[ck,e,tq] at h;exact fun z=>i2 h (CD.mp z).2
theorem bP.ne(r:bP K Hs H true d v As)(h:d.flat=false):As≠[]:=bP.ne2.1 r h
theorem aF.ne(r:aF K Hs H true ds vs As)(h:ck ds=false):As≠[]:=bP.ne2.2 r h
def qk(i:Nat):WP:=fun ρ Q=>match ρ[i]? with
 |some (some (.ow fl d))=>Q fl d fun cE d2=>ρ.set i (some (.ow cE d2))
 |_=>False
theorem SR.put(i:Nat)(s:SR K Hs H ρ σ ae):ρ[i]? = some (some (.ow fl d))->ae.Nodup ->
  ∃ (v:V) (As bX:List Addr),σ[i]? = some (some v)/\As≠[]/\bP K Hs H fl d v As/\As.Sublist ae/\∀ ax H2 cE d2 fA,ay Hs ax->bP K ax H2 cE d2 v fA->fA≠[]->fA.Nodup->(∀ a∈fA,a∈ae->a∈As)->(∀ a∈ae,a∉As->H2 a=H a) ->
   ∃ fk,fk.Nodup/\(∀ a∈fk,a∈ae\/a∈fA)/\SR K ax H2 (ρ.set i (some (.ow cE d2))) σ fk:=by
 induction s generalizing i with
 |nil=>intro e;simp at e
 |@non ρ σ ae o q ih =>
  intro e n
  cases i with
  |zero=>simp at e
  |succ i =>obtain⟨v,As,t,a,b,c,d,g⟩:=ih i (by simpa using e) n;refine⟨v,As,t,by simpa using a,b,c,d,fun ax H2 cE d2 fA s2 r2 ne2 iP dj st=>?_⟩;obtain⟨t2,x,y,z⟩:=g ax H2 cE d2 fA s2 r2 ne2 iP dj st;exact⟨t2,x,y,.non z⟩
 |sh r q ih =>
  intro e n
  cases i with
  |zero=>simp at e
  |succ i =>obtain⟨v,As,t,a,b,c,d,g⟩:=ih i (by simpa using e) n;refine⟨v,As,t,by simpa using a,b,c,d,fun ax H2 cE d2 fA s2 r2 ne2 iP dj st=>?_⟩;obtain⟨t2,x,y,z⟩:=g ax H2 cE d2 fA s2 r2 ne2 iP dj st;exact⟨t2,x,y,.sh (r.same s2) z⟩
 |xc q ih =>
  intro e n
  cases i with
  |zero=>simp at e
  |succ i =>obtain⟨v,As,t,a,b,c,d,g⟩:=ih i (by simpa using e) n;refine⟨v,As,t,by simpa using a,b,c,d,fun ax H2 cE d2 fA s2 r2 ne2 iP dj st=>?_⟩;obtain⟨t2,x,y,z⟩:=g ax H2 cE d2 fA s2 r2 ne2 iP dj st;exact⟨t2,x,y,.xc z⟩
 |@ow ρ σ t2 B fl0 d0 v ne r q ih =>
  intro e n;obtain⟨n1,n2,n3⟩:=hU.mp n
  cases i with
  |zero =>
   simp at e;obtain⟨rfl,rfl⟩:=e;refine⟨v,B,t2,rfl,ne,r,A5 _ _,fun ax H2 cE d2 fA s2 r2 ne2 iP dj st=>⟨fA++t2,hU.mpr ⟨iP,n2,fun a ha b hb e=>?_⟩,fun a h=>?_,.ow ne2 r2 (q.fF s2 fun a h=>st a (eT _ h) fun z=>n3 a z a h rfl)⟩⟩
   ·subst e;exact n3 a (dj a ha (eT _ hb)) a hb rfl
   ·exact(eW.mp h).symm.imp (fun z=>eT _ z) id
  |succ i =>
   obtain⟨v,As,t,a,b,c,d,g⟩:=ih i (by simpa using e) n2;have hB:∀ x∈B,x∉As:=fun x hx m=>n3 x hx x (d.subset m) rfl;refine⟨v,As,B++t,by simpa using a,b,c,d.trans (kF _ _),fun ax H2 cE d2 fA s2 r2 ne2 iP dj st=>?_⟩;obtain⟨t2,x,y,z⟩:=g ax H2 cE d2 fA s2 r2 ne2 iP (fun a ha m=>dj a ha (eT _ m)) fun a ha m=>st a (eT _ ha) m;refine⟨B++t2,hU.mpr ⟨n1,x,fun a ha b hb e=>?_⟩,fun a h=>?_,.ow ne (r.fF s2 fun a h=>st a (js _ h) (hB a h)) z⟩
   ·subst e;rcases y a hb with w|w
    ·exact n3 a ha a w rfl
    ·exact hB a ha (dj a w (js _ ha))
   ·rcases eW.mp h with w|w
    ·exact .inl (js _ w)
    ·exact(y a w).imp (fun w=>eT _ w) id
 |@lk ρ σ t2 B a0 fl0 d0 ne r q ih =>
  intro e n;obtain⟨n1,n2,n3⟩:=hU.mp n
  cases i with
  |zero=>simp at e
  |succ i =>
   obtain⟨v,As,t,a,b,c,d,g⟩:=ih i (by simpa using e) n2;have hB:∀ x∈B,x∉As:=fun x hx m=>n3 x hx x (d.subset m) rfl;refine⟨v,As,B++t,by simpa using a,b,c,d.trans (kF _ _),fun ax H2 cE d2 fA s2 r2 ne2 iP dj st=>?_⟩;obtain⟨t2,x,y,z⟩:=g ax H2 cE d2 fA s2 r2 ne2 iP (fun a ha m=>dj a ha (eT _ m)) fun a ha m=>st a (eT _ ha) m;refine⟨B++t2,hU.mpr ⟨n1,x,fun a ha b hb e=>?_⟩,fun a h=>?_,.lk ne (r.fF s2 fun a h=>st a (js _ h) (hB a h)) z⟩
   ·subst e;rcases y a hb with w|w
    ·exact n3 a ha a w rfl
    ·exact hB a ha (dj a w (js _ ha))
   ·rcases eW.mp h with w|w
    ·exact .inl (js _ w)
    ·exact(y a w).imp (fun w=>eT _ w) id
theorem fY{X:Cx}(h:PE X e (sv i)):QP X K e (qk i):=PE.imp h fun σ H Qv hx=>gX hx fun Hs ρ ae Q sr h f=>by
 unfold qk at h;split at h
 ·rename_i fl d e1;obtain⟨v,As,t,e2,ne,r,sb,g⟩:=SR.put i sr.sr e1 sr.kz;refine⟨v,e2,f v H Hs fl d _ (eu.refl sr.wf) ⟨As,r,ne,sb.nodup sr.kz,fun a h=>sr.own a (sb.subset h),fun ax H2 cE d2 fA s2 w2 n2 _ r2 ne2 iP o2 st=>?_⟩ h⟩;obtain⟨t2,x,y,z⟩:=g ax H2 cE d2 fA s2 r2 ne2 iP (fun a ha m=>(o2 a ha).2.elim id fun q=>absurd q (sr.sr.own a m).ne) fun a ha m=>st a (sr.sr.own a ha).ne m;exact⟨t2,z,w2,x,fun a h=>(y a h).elim (fun q=>n2 a (sr.own a q) (sr.sr.own a q).ne) fun q=>(o2 a q).1⟩
 ·exact h.elim
theorem bP.wk(h:cE=true->fl=true)(r:bP K Hs H fl d v As):bP K Hs H cE d v As:=by
 cases cE with
 |false=>exact r.Lv
 |true=>rw[h rfl] at r;exact r
theorem aF.wk{fl cE:Bool}{d:List D}{v:List V}{As:List Addr}(h:cE=true->fl=true)(r:aF K Hs H fl d v As):aF K Hs H cE d v As:=by
 cases cE with
 |false=>exact r.Lv
 |true=>rw[h rfl] at r;exact r
theorem aF.at(r:aF K Hs H fl ds vs As)(e:ds[j]? = some d)(n:As.Nodup) :
  ∃ (v:V) (B:List Addr),vs[j]? = some v/\bP K Hs H fl d v B/\B.Sublist As/\∀ ax H2 cE d2 B2,ay Hs ax->(cE=true->fl=true)->bP K ax H2 cE d2 v B2->B2.Nodup->(∀ a∈B2,a∈As->a∈B)->(∀ a∈As,a∉B->H2 a=H a) ->
   ∃ fA,fA.Nodup/\(∀ a∈fA,(a∈As/\a∉B)\/a∈B2)/\(B2≠[]->fA≠[])/\aF K ax H2 cE (ds.set j d2) vs fA:=by
 induction ds generalizing vs As j with
 |nil=>simp at e
 |cons x ds ih =>
  obtain⟨v,us,A,B,rfl,rfl,r,rs⟩:=r.c;obtain⟨n1,n2,n3⟩:=hU.mp n
  cases j with
  |zero =>
   simp at e;subst e;refine⟨v,A,rfl,r,A5 _ _,fun ax H2 cE d2 B2 s2 hf r2 iP dj st=>⟨B2++B,hU.mpr ⟨iP,n2,fun a ha b hb e=>?_⟩,fun a h=>?_,fun ne z=>ne (CD.mp z).1,.cons r2 ((rs.wk hf).fF s2 fun a h=>st a (eT _ h) fun z=>n3 a z a h rfl)⟩⟩
   ·subst e;exact n3 a (dj a ha (eT _ hb)) a hb rfl
   ·rcases eW.mp h with w|w
    ·exact .inr w
    ·exact .inl ⟨eT _ w,fun z=>n3 a z a w rfl⟩
  |succ j =>
   obtain⟨v,C,a,b,c,g⟩:=ih (j:=j) rs (by simpa using e) n2;have hA:∀ x∈A,x∉C:=fun x hx m=>n3 x hx x (c.subset m) rfl;refine⟨v,C,by simpa using a,b,c.trans (kF _ _),fun ax H2 cE d2 B2 s2 hf r2 iP dj st=>?_⟩;obtain⟨fA,x,y,w,z⟩:=g ax H2 cE d2 B2 s2 hf r2 iP (fun a ha m=>dj a ha (eT _ m)) fun a ha m=>st a (eT _ ha) m;refine⟨A++fA,hU.mpr ⟨n1,x,fun a ha b hb e=>?_⟩,fun a h=>?_,fun ne q=>w ne (CD.mp q).2,.cons ((r.wk hf).fF s2 fun a h=>st a (js _ h) (hA a h)) z⟩
   ·subst e;rcases y a hb with q|q
    ·exact n3 a ha a q.1 rfl
    ·exact hA a ha (dj a q (js _ ha))
   ·rcases eW.mp h with q|q
    ·exact .inl ⟨js _ q,hA a q⟩
    ·exact(y a q).imp (fun q=>⟨eT _ q.1,q.2⟩) id
theorem CT{α:Type}{xs:List α}{i:Int}{x:α}(h:eB xs i=some x):∃ j,sD xs.length i=some j/\xs[j]? = some x:=by
 unfold L2.eB at h
 cases e:sD xs.length i with
 |none=>rw[e] at h;cases h
 |some j=>rw[e] at h;exact⟨j,rfl,h⟩
theorem Gw{α:Type}{xs:List α}{i:Int}{j:Nat}{x:α}(h:sD xs.length i=some j)(e:xs[j]? = some x):eB xs i=some x:=by unfold L2.eB;rw[h];exact e
end
section
variable {X:Cx}{K:PySem.W.Frag}{e:Expr}{p:WP}{te:WE}{apos eh pos:Pos}
def qx(fl:Bool)(m:Md)(d:D):Option Bool:=match m with
 |.sh=>some (fl && d.flat)
 |.ow b=>some (fl && b)
 |.bo=>bif d.flat then some fl else none
def rp(p:WP)(te:WE):WS:=fun E ρ=>p ρ fun fl d up=>match d with
 |.list xs=>te ρ fun m x=>xs.length<sizeLine/\match qx fl m x with
  |some cE=>E.nx (up cE (.list (xs++[x])))
  |none=>False
 |_=>False
theorem Cq(w:Wf Hs H)(r:RM K Hs H m d v As)(h:qx fl m d=some cE):(cE=true->fl=true)/\∃ B,B.Sublist As/\bP K Hs H cE d v B:=by
 cases m with
 |sh =>cases h;exact⟨fun z=>by cases fl<;>simp_all,[],vn _,.sh (fun z=>by cases fl<;>simp_all) r.2⟩
 |ow b =>cases h;refine⟨fun z=>by cases fl<;>simp_all,As,List.Sublist.refl _,r.1.wk fun z=>by cases fl<;>simp_all⟩
 |bo =>
  cases hf:d.flat with
  |true =>simp only[qx,hf,cond_true,Option.some.injEq] at h;subst h;exact⟨id,[],vn _,.sh (fun _=>hf) (r.flat w hf)⟩
  |false=>simp[qx,hf] at h
theorem Place.put(pl:Place K aw H1 σ fl (.list xs) v up)(g:eu aw H1 ax H2) :
  ∃ a vs A,v=.ref a/\H2 a=some (.lst vs)/\H1 a=some (.lst vs)/\aF K ax H2 fl xs vs A/\(a :: A).Nodup/\(∀ x∈a :: A,ax x=none/\H1 x≠none) /\
   ∀ cE ys ws C,(cE=true->fl=true)->aF K ax H2 cE ys ws C->ws.length<=sizeLine->C.Nodup->a∉C->(∀ x∈C,x∈A\/(ax x=none/\H1 x=none))->∃ fk,cS K ax (up cE (.list ys)) σ (upd H2 a (.lst ws)) fk:=by
 obtain⟨fv,r,ne,nd,own,k⟩:=pl.ex
 cases r with
 |sh hf _=>exact absurd rfl ne
 |@list a vs _ A hz e rs =>
  have e2:=g.all _ _ e;have oj:=rs.grow g.sh g.all;have hw:∀ x∈a :: A,aw x=none/\H1 x≠none:=fun x hx=>⟨own x hx,by
   rcases eK.mp hx with rfl|hx
   ·rw[e];exact fun z=>nomatch z
   ·exact(rs.own x hx).ne⟩
  exact⟨a,vs,A,rfl,e2,e,oj,nd,fun x hx=>⟨g.lS (hw x hx).1 (hw x hx).2,(hw x hx).2⟩,fun cE ys ws C hf mS hz ndC LW hC=>k.node g hw (fun _ z=>by cases z) hf (.list hz gg (mS.fF (ay.refl _) fun b hb=>eS fun z=>LW (by subst z;exact hb))) ndC LW hC⟩
theorem Place.Vj(w:Wf aw H1)(pl:Place K aw H1 σ fl (.list xs) v up):∃ a vs,v=.ref a/\dk K H1 a vs:=by
 obtain⟨fv,r,ne,nd,own,k⟩:=pl.ex
 cases r with
 |sh hf _=>exact absurd rfl ne
 |list hz e rs=>exact⟨_,_,rfl,.inl (.inl e)⟩
theorem lu (ho:QP X K e p) (he:QE X K e2 te) (hK:X.K=K:=by rfl) (hs:swapsWith (.Call (.Attribute e "append" apos) [e2] [] eh) none pos.line X.env=pure false:=by rfl) (w_:attributeBase e "append" X.env (eval e X.env)=eval e X.env:=by rfl) (xa:((backTo eh (starEach [e2] X.env)).all (fun x=>!x.1) && (backToKw eh (keywordEach [] X.env)).all (fun x=>x.1.isSome)
   && decide ([e2].length+([]:List Keyword).length+(if ([]:List Keyword).isEmpty then 0 else 1)<30))=true:=by rfl)
  (hline:(apos.endLine == eh.line)=true:=by rfl) (tj:starEach (e2 :: []) X.env=(false,eval e2 X.env) :: starEach [] X.env:=by rfl) (xh:(backTo eh (starEach [] X.env)).any (·.1)=false:=by rfl) :
  QS X K L (.Expr (.Call (.Attribute e "append" apos) [e2] [] eh) pos) (rp p te):=by
 subst hK;refine PS.imp (HZ (IY PySem.F.plainAttrs_list PySem.F.slot_list_append PySem.F.type_list_append OU ho (iA he lI tj) w_ xa hline tj xh) hs) fun D σ H hx=>jw hx fun Hs ρ ae E sr h k1 k2 k3 k4=>?_;refine⟨Hs,ρ,ae,_,sr,h,fun v H1 aw fl d up g1 p1 q1=>?_⟩
 cases d with
 |list xs =>
  obtain⟨a1,vs1,e1,s1⟩:=p1.Vj g1.wf;subst e1;refine⟨.inl ⟨rfl,_,s1⟩,aw,ρ,ae,_,sr.grow g1,q1,fun y H2 ax m x As g2 r2 f2 q2=>?_⟩;obtain⟨hz,q2⟩:=q2;obtain⟨a,vs,A,ea,e2,_,rs,nd,hn,k⟩:=p1.put g2;cases ea;have hl:=rs.length;refine⟨a1,vs,y,rfl,rfl,e2,by lia,?_⟩
  cases hp:qx fl m x with
  |none=>rw[hp] at q2;exact q2.elim
  |some cE =>
   rw[hp] at q2;obtain⟨hf,B,sb,rb⟩:=Cq g2.wf r2 hp;obtain⟨na,nA⟩:=mx.mp nd;have fB:∀ x∈B,ax x=none/\H1 x=none:=fun x hx=>f2.2 x (sb.subset hx);have c1:(A++(B++[])).Nodup:=by rw[kX];exact hU.mpr ⟨nA,sb.nodup f2.1,fun x hx z hz e=>by subst e;exact(hn x (dz _ hx)).2 (fB x hz).2⟩
   have c2:a1∉A++(B++[]):=by
    rw[kX];intro m;rcases eW.mp m with m|m
    ·exact na m
    ·exact(hn _ fo).2 (fB _ m).2
   have c3:∀ x∈A++(B++[]),x∈A\/(ax x=none/\H1 x=none):=by rw[kX];intro x hx;exact(eW.mp hx).imp id fun z=>fB x z
   obtain⟨fk,qc⟩:=k cE (xs++[x]) (vs++[y]) (A++(B++[])) hf ((rs.wk hf).append (.cons rb .nil)) (by rw[kg];simp;lia) c1 c2 c3;exact k1 σ _ ax _ fk (g1.sh.trans g2.sh) qc q2
 |_=>exact q1.elim
def zP:WE:=fun _ Q=>Q (.ow true) (.dK [])
theorem Ec:QE X K (.Dict [] [] pos) zP:=PE.imp aM' fun σ H Qv hx=>gX hx fun Hs ρ ae Q sr h f=>fun a ha =>
 f _ _ Hs (.ow true) (.dK []) [a] (BU sr.wf ha fun _ z=>nomatch z) ⟨.dK (vs:=[]) ⟨i5 _,fun p hp=>nomatch hp⟩ gg .nil,by simp⟩ ⟨by simp,fun b hb=>by
  obtain rfl:b=a:=by simpa using hb
  exact⟨sr.wf.sub.free ha,ha⟩⟩ h
end
abbrev WJ:=Env->Str->(Str->Prop)->Prop
section
variable {X:Cx}{K:PySem.W.Frag}{e:Expr}{te:WE}
def ji:List D->Option (List Str)
 |[]=>some []
 |.str x :: xs=>(ji xs).map (x :: ·)
 |_ :: _=>none
def gK(to te:WE):WE:=fun ρ Q=>to ρ fun _ x=>match x with
 |.str z=>te ρ fun _ y=>match y with
  |.list ys=>∃ zs,ji ys=some zs/\(zs.map (·.length)).sum+zs.length*z.length<=16777216/\Q .sh (.str (Str.join z zs))
  |_=>False
 |_=>False
theorem Ay(r:aS K H ds vs)(q:Vals vs us)(h:ji ds=some zs):StrsAre us zs:=by
 induction ds generalizing vs us zs with
 |nil =>simp[ji] at h;subst h;have:=r.n0;subst this;rw[Paired.n0 q];exact .nil
 |cons d ds ih =>
  obtain⟨v,vs,rfl,r1,rs⟩:=r.c;obtain⟨u,us,rfl,q1,qs⟩:=Paired.c q
  cases r1 with
  |str hz =>
   simp only[ji] at h
   cases e:ji ds with
   |none=>rw[e] at h;cases h
   |some ys =>rw[e] at h;cases h;obtain⟨t,rfl⟩:=q1;exact .cons _ t (ih rs qs e)
  |_=>simp[ji] at h
theorem Eg (hK:X.K=K:=by rfl):z4 X "str.join" (fun x xs H Q=>∃ z a ds vs zs,x=.str z/\xs=[.ref a]/\dk K H a vs/\aS K H ds vs/\ji ds=some zs/\(zs.map (·.length)).sum+zs.length*z.length<=16777216/\Q (.str (Str.join z zs)) H):=by subst hK;intro pins s σ H x xs v us Q I rx rs h;obtain⟨z,a,ds,vs,zs,rfl,rfl,hs,rr,e,hz,q⟩:=h;obtain⟨t,rfl⟩:=rx;obtain⟨u,rfl,ru⟩:=Vals.one rs;cases ru;obtain⟨its,rv,pl,_⟩:=I.list hs;exact join_list pl.isList (by simpa using Ay rr rv e) hz fun t' k=>⟨.str _,H,I.tok _,⟨t',rfl⟩,by rw[show Txt.join z zs=Str.join z zs from StrLaws.glued_eq_join z zs];exact q⟩
theorem jQ:∀ {zs:List Str},(Str.join z zs).length<=(zs.map (·.length)).sum+zs.length*z.length
 |[]=>by show Str.empty.length<=_;exact fE (show Str.empty.length<=0 by decide) (i5 _)
 |[x]=>by simp[Str.join]
 |x :: y :: r=>by have ih:=jQ (z:=z) (zs:=y :: r);show(x++z++Str.join z (y :: r)).length<=_;rw[bQ,bQ];simp only[hV,List.sum_cons,ox,Nat.add_mul,DB] at ih ⊢;lia
theorem jy(ho:QE X K o to)(he:QE X K e te)(hK:X.K=K:=by rfl) (w_:attributeBase o "join" X.env (eval o X.env)=eval o X.env:=by rfl) (xa:((backTo eh (starEach [e] X.env)).all (fun x=>!x.1) && (backToKw eh (keywordEach [] X.env)).all (fun x=>x.1.isSome)
   && decide ([e].length+([]:List Keyword).length+(if ([]:List Keyword).isEmpty then 0 else 1)<30))=true:=by rfl)
  (hline:(apos.endLine == eh.line)=true:=by rfl) (tj:starEach (e :: []) X.env=(false,eval e X.env) :: starEach [] X.env:=by rfl) (xh:(backTo eh (starEach [] X.env)).any (·.1)=false:=by rfl) :
  QE X K (.Call (.Attribute o "join" apos) [e] [] eh) (gK to te):=by
 subst hK;refine PE.imp (IY PySem.F.plainAttrs_str PySem.F.slot_str_join PySem.F.type_str_join Eg ho (iA he lI tj) w_ xa hline tj xh) fun σ H Qv hx=>gX hx fun Hs ρ ae Q sr h f=>?_;refine⟨Hs,ρ,ae,_,sr,h,fun v H1 aw m x As g1 r1 f1 q1=>?_⟩;have r:=r1.rep g1.wf
 cases r with
 |str hz =>
  refine⟨rfl,aw,ρ,ae,_,sr.grow g1,q1,fun y H2 ax m2 x2 fA g2 r2 f2 q2=>?_⟩;have rr:=r2.rep g2.wf
  cases rr with
  |list z s rs =>obtain⟨zs,e,hz,q⟩:=q2;exact⟨_,_,_,_,zs,rfl,rfl,s,rs,e,hz,Fin.sh (Fin.after f (g1.trans g2)) g2.wf (.str (fE jQ (by rw[sizeLine_eq];exact hz))) q⟩
  |_=>exact q2.elim
 |_=>exact q1.elim
def EK(k:List Key):D:=.tup (k.map uS)
def K4:W1:=fun _ x Q=>match x with
 |.list xs=>∃ ks sh,xs=ks.map EK/\(∀ k∈ks,bw' k=true :: sh)/\∀ ms:List (List Key),ms.Perm ks->(ms.Pairwise fun a b=>U5 b a=false)->Q (.ow true) (.list (ms.map EK))
 |_=>False
end
def Vk(A:List Addr)(F:Nat->List Addr):Nat->List Addr
 |0=>A
 |i+1=>F i
def AK(K:PySem.W.Frag)(Hs H:Hp)(ρ:Env)(σ:St)(ae:List Addr)(F:Nat->List Addr):Prop:=(∀ i fl d,ρ[i]? = some (some (.ow fl d))->∃ v,σ[i]? = some (some v)/\F i≠[]/\bP K Hs H fl d v (F i)) /\ (∀ i,(F i).Sublist ae)/\∀ i j,i≠j->∀ a∈F i,a∉F j
theorem AK.skip{K:PySem.W.Frag}{F:Nat->List Addr}(h:AK K Hs H ρ σ ae F)(no:∀ fl d,o≠some (.ow fl d)):AK K Hs H (o :: ρ) (u :: σ) ae (Vk [] F):=by
 obtain⟨a,b,c⟩:=h;refine⟨fun i fl d e=>?_,fun i=>?_,fun i j ne x hx=>?_⟩
 ·cases i with
  |zero=>simp at e;exact absurd e (no fl d)
  |succ i=>exact a i fl d (by simpa using e)
 ·cases i with
  |zero=>exact vn _
  |succ i=>exact b i
 ·cases i with
  |zero=>exact oB hx
  |succ i =>
   cases j with
   |zero=>exact fun z=>oB z
   |succ j=>exact c i j (fun z=>ne (by rw[z])) x hx
theorem AK.own{K:PySem.W.Frag}{ae B:List Addr}{F:Nat->List Addr}(h:AK K Hs H ρ σ ae F)(n:(B++ae).Nodup)(hs:∀ fl d,sl=.ow fl d->B≠[]/\bP K Hs H fl d v B):AK K Hs H (some sl :: ρ) (some v :: σ) (B++ae) (Vk B F):=by
 obtain⟨a,b,c⟩:=h;obtain⟨n1,n2,n3⟩:=hU.mp n;refine⟨fun i fl d e=>?_,fun i=>?_,fun i j ne x hx=>?_⟩
 ·cases i with
  |zero=>simp at e;exact⟨v,rfl,hs fl d e⟩
  |succ i=>exact a i fl d (by simpa using e)
 ·cases i with
  |zero=>exact A5 _ _
  |succ i=>exact(b i).trans (kF _ _)
 ·cases i with
  |zero =>
   cases j with
   |zero=>exact absurd rfl ne
   |succ j=>exact fun z=>n3 x hx x ((b j).subset z) rfl
  |succ i =>
   cases j with
   |zero=>exact fun z=>n3 x z x ((b i).subset hx) rfl
   |succ j=>exact c i j (fun z=>ne (by rw[z])) x hx
theorem SR.addrs{K:PySem.W.Frag}(s:SR K Hs H ρ σ ae):ae.Nodup->∃ F:Nat->List Addr,AK K Hs H ρ σ ae F:=by
 induction s with
 |nil=>exact fun _=>⟨fun _=>[],fun i fl d e=>by simp at e,fun i=>vn _,fun i j _ a h=>oB h⟩
 |non s ih =>intro n;obtain⟨F,h⟩:=ih n;exact⟨_,h.skip fun fl d z=>by cases z⟩
 |sh r s ih =>intro n;obtain⟨F,h⟩:=ih n;exact⟨_,h.skip fun fl d z=>by cases z⟩
 |xc s ih =>intro n;obtain⟨F,h⟩:=ih n;exact⟨_,h.skip fun fl d z=>by cases z⟩
 |ow ne r s ih =>intro n;obtain⟨F,h⟩:=ih (hU.mp n).2.1;exact⟨_,h.own n fun fl d e=>by cases e;exact⟨ne,r⟩⟩
 |lk ne r s ih =>intro n;obtain⟨F,h⟩:=ih (hU.mp n).2.1;exact⟨_,h.own n fun fl d e=>by cases e⟩
abbrev Plan:=List (WE ⊕ Nat)
def LY:Plan->List Nat
 |[]=>[]
 |.inl _ :: r=>LY r
 |.inr i :: r=>i :: LY r
def LZ:Option (Option Sl)->Option (Md × D)
 |some (some (.sh d))=>some (.sh,d)
 |some (some (.ow fl d))=>some (.ow fl,d)
 |_=>none
def oW:Plan->Env->(List (Md × D)->Prop)->Prop
 |[],_,Q=>Q []
 |.inl t :: r,ρ,Q=>t ρ fun m x=>oW r ρ fun ps=>Q ((m,x) :: ps)
 |.inr i :: r,ρ,Q=>match LZ ρ[i]? with
  |some p=>oW r ρ fun ps=>Q (p :: ps)
  |none=>False
def tpM(K:PySem.W.Frag)(pl:Plan):TA:=fun σ H Qv=>∃ (Hs:Hp) (ρ:Env) (ae:List Addr) (F:Nat->List Addr) (Q:List (Md × D)->Prop),cS K Hs ρ σ H ae/\(∀ i fl d,ρ[i]? = some (some (.ow fl d))->∃ v,σ[i]? = some (some v)/\F i≠[]/\bP K Hs H fl d v (F i))/\(∀ i,(F i).Sublist ae)/\(∀ i j,i≠j->∀ a∈F i,a∉F j) /\
 oW pl ρ Q/\∀ vs H' ai ps As,eu Hs H ai H'->nh K ai H' ps vs As->As.Nodup->(∀ a∈As,ai a=none/\(H a=none\/∃ i∈LY pl,a∈F i))->Q ps->Qv vs H'
abbrev QM(X:Cx)(K:PySem.W.Frag)(es:List Expr)(pl:Plan):Prop:=PA X es (tpM K pl)
section
variable {X:Cx}{K:PySem.W.Frag}{e:Expr}{es:List Expr}{te:WE}{pl:Plan}{pos:Pos}
theorem Dc:QM X K [] []:=PA.imp lI fun σ H Qv hx=>by obtain⟨Hs,ρ,ae,F,Q,sr,h1,h2,h3,h,f⟩:=hx;exact f [] H Hs [] [] (eu.refl sr.wf) .nil mz (fun a h=>oB h) h
theorem P0(ha:QE X K e te)(hr:QM X K es pl)(hs:starEach (e :: es) X.env=(false,eval e X.env) :: starEach es X.env:=by rfl):QM X K (e :: es) (.inl te :: pl):=by
 refine PA.imp (iA ha hr hs) fun σ H Qv dc=>?_;obtain⟨Hs,ρ,ae,F,Q,sr,h1,h2,h3,h,f⟩:=dc;refine⟨Hs,ρ,ae,_,sr,h,fun v H1 aw m x As g1 r1 f1 q1=>⟨aw,ρ,ae,F,_,sr.grow g1,(fun i fl d e=>?_),h2,h3,q1,fun vs H2 ax ps Bs g2 r2 iP o2 q2=>?_⟩⟩
 ·obtain⟨v,a,b,c⟩:=h1 i fl d e;exact⟨v,a,b,c.grow g1.sh g1.all⟩
 ·refine f (v :: vs) H2 ax _ _ (g1.trans g2) (.cons (r1.grow g2) r2) (hU.mpr ⟨f1.1,iP,fun a ha b hb e=>?_⟩) (fun a ha=>?_) q2
  ·subst e;rcases (o2 a hb).2 with z|⟨i,_,z⟩
   ·exact(r1.own a ha).ne z
   ·exact(sr.sr.own a ((h2 i).subset z)).ne (f1.2 a ha).2
  ·rcases eW.mp ha with z|z
   ·exact⟨g2.lS (f1.2 a z).1 (r1.own a z).ne,.inl (f1.2 a z).2⟩
   ·exact⟨(o2 a z).1,(o2 a z).2.imp g1.all.free id⟩
theorem Vl(ha:PE X e (sv i))(hr:QM X K es pl)(hi:i∉LY pl:=by decide)(hs:starEach (e :: es) X.env=(false,eval e X.env) :: starEach es X.env:=by rfl):QM X K (e :: es) (.inr i :: pl):=by
 refine PA.imp (iA ha hr hs) fun σ H Qv dc=>?_;obtain⟨Hs,ρ,ae,F,Q,sr,h1,h2,h3,h,f⟩:=dc;unfold oW at h
 cases hm:LZ ρ[i]? with
 |none=>rw[hm] at h;exact h.elim
 |some p =>
  rw[hm] at h;have key:∃ v A,σ[i]? = some (some v)/\RM K Hs H p.1 p.2 v A/\A.Nodup/\∀ a∈A,a∈F i:=by
   cases e1:ρ[i]? with
   |none=>rw[e1] at hm;cases hm
   |some o =>
    cases o with
    |none=>rw[e1] at hm;cases hm
    |some sl =>
     cases sl with
     |sh d =>rw[e1] at hm;cases hm;obtain⟨v,a,b⟩:=sr.sr.get e1;exact⟨v,[],a,⟨rfl,b⟩,mz,fun a h=>nomatch h⟩
     |lk a fl d=>rw[e1] at hm;cases hm
     |xc a=>rw[e1] at hm;cases hm
     |ow fl d =>rw[e1] at hm;cases hm;obtain⟨v,a,b,c⟩:=h1 i fl d e1;exact⟨v,F i,a,⟨c,b⟩,(h2 i).nodup sr.kz,fun a h=>h⟩
  obtain⟨v,A,ev,rm,AO,hA⟩:=key;refine⟨v,ev,Hs,ρ,ae,F,_,sr,h1,h2,h3,h,fun vs H2 ax ps Bs g2 r2 iP o2 q2=>?_⟩;refine f (v :: vs) H2 ax _ _ g2 (.cons (rm.grow g2) r2) (hU.mpr ⟨AO,iP,fun a ha b hb e=>?_⟩) (fun a ha=>?_) q2
  ·subst e;rcases (o2 a hb).2 with z|⟨j,hj,z⟩
   ·exact(rm.own a ha).ne z
   ·exact h3 i j (fun z=>hi (by rw[z];exact hj)) a (hA a ha) z
  ·rcases eW.mp ha with z|z
   ·have:a∈ae:=(h2 i).subset (hA a z);exact⟨g2.lS (sr.own a this) (sr.sr.own a this).ne,.inr ⟨i,fo,hA a z⟩⟩
   ·exact⟨(o2 a z).1,(o2 a z).2.imp id fun⟨j,hj,q⟩=>⟨j,dz _ hj,q⟩⟩
def Bh(pl:Plan):WS:=fun E ρ=>oW pl ρ fun ps=>ps.length<=sizeLine/\E.rt (yd ps) (.tup (ps.map (·.2)))
theorem Af{x1}(h:QM X K es pl):QS X K L (.Return (some (.Tuple es x1 fo')) pos) (Bh pl):=by
 refine PS.imp (zo (IE h)) fun D σ H hx=>jw hx fun Hs ρ ae E sr h k1 k2 k3 k4=>?_;obtain⟨F,h1,h2,h3⟩:=sr.sr.addrs sr.kz;refine⟨Hs,ρ,ae,F,_,sr,h1,h2,h3,h,fun vs H1 aw ps As g1 r1 nd1 o1 q1=>?_⟩;obtain⟨hz,q⟩:=q1;have rl:=r1.reps g1.wf;have hl:=rl.length;rw[da] at hl;refine⟨by lia,fun p hp=>?_⟩;have g2:=AB (vs:=vs) g1.wf hp;have sm:ay Hs (upd aw p (.tup vs)):=g1.sh.trans g2.sh;unfold yd at q
 cases e1:ps.all qa with
 |true =>rw[e1] at q;exact k4 _ _ _ .sh _ [] sm g2.wf ⟨rfl,.tup (by lia) gg ((r1.sh g1.wf e1).same g2.sh)⟩ mz (fun a h=>nomatch h) q
 |false =>
  rw[e1] at q
  cases e2:ps.all AG with
  |false =>rw[e2] at q;exact k4 _ _ _ .bo _ [] sm g2.wf ⟨rfl,.tup (by lia) gg (rl.same g2.all)⟩ mz (fun a h=>nomatch h) q
  |true =>
   rw[e2] at q;obtain⟨Bs,sb,nz,ro⟩:=r1.ow (fl:=ps.all yT) g1.wf e2 fun z=>z;have sN:ck (ps.map (·.2))=false:=by
    cases hf:ck (ps.map (·.2)) with
    |false=>rfl
    |true=>rw[rQ hf] at e1;cases e1
   exact k4 _ _ _ (.ow _) _ Bs sm g2.wf ⟨.tup (by lia) gg sN (ro.grow g2.sh g2.all),nz e1⟩ (sb.nodup nd1) (fun a ha=>g2.lS (o1 a (sb.subset ha)).1 (ro.own a ha).ne) q
end
def Vm:dS:=fun ds Q=>∃ ns:List Int,ds=[.list (ns.map .int)]/\ns.length<=63/\∀ m,Q m (.bl true)
theorem ints_rep{K:PySem.W.Frag}:∀ (ns:List Int),aS K H (ns.map .int) (ns.map V.int)
 |[]=>.nil
 |n :: ns=>.cons (.int n) (ints_rep ns)
theorem Ci{K:PySem.W.Frag}{H:Hp}{a:Addr}{ns:List Int}{E:XK}(hl:ns.length<=63)(hS:dk K H a (ns.map V.int)):az K Vm [.ref a] H (fun v _=>v=.bl true) E:=by refine⟨[.list (ns.map .int)],fun _ d=>d=.bl true,.cons (.list (by rw[da];exact fE hl (by decide)) hS (ints_rep ns)) .nil,⟨ns,rfl,hl,fun _=>rfl⟩,?_⟩;intro v H' ai m d As s w r nd own q;subst q;have:=r.rep w;cases this;rfl
abbrev sg(x:Str):List Nat:=x.cps.toList
theorem bf(x y:Str):sg (x++y)=sg x++sg y:=by show(x.cps++y.cps).toList=_;simp[sg]
theorem iw(x:Str):x.length=(sg x).length:=by simp[Str.length,sg]
theorem gJ(x y z:Str):x++y++z=x++(y++z):=oh (by rw[<- sg,<- sg];simp only[bf,A6])
theorem empty_app(x:Str):Str.empty++x=x:=oh (by rw[<- sg,bf];rfl)
def AQ(x:Str):Prop:=∀ c∈sg x,c<0x110000
theorem zB(x:Str):PyData.strOk x=true↔AQ x:=by unfold PyData.strOk AQ sg;rw[Array.all_eq_true'];simp
theorem P1{α:Type}(x:α)(l:List α):eB (x :: l) 0=some x:=by simp[L2.eB,sD]
theorem bW'{α:Type}(x y:α)(l:List α):eB (x :: y :: l) 1=some y:=by have:=wt (xs:=x :: y :: l) (j:=1) (v:=y) rfl;exact this
theorem bX'{α:Type}(x y z:α)(l:List α):eB (x :: y :: z :: l) 2=some z:=by have:=wt (xs:=x :: y :: z :: l) (j:=2) (v:=z) rfl;exact this
theorem eN(i j:Str):(i++j).length=i.length+j.length:=bQ i j
theorem Gk:Str.empty.length=0:=by decide
end L2.Q
namespace L2.Q.R
open PySem PySem.Spec PyProof.Rows L2.Q
section
variable {f:D->Prop}{k:Kt f}
theorem K5:bp .non k=f .non:=rfl
theorem Ms:bp (.bl b) k=f (.bl b):=rfl
theorem Ls:bp (.int i) k=f (.int i):=rfl
theorem K9:bp (.str x) k=f (.str x):=rfl
theorem Ir:bp (.list xs) k=f (.list xs):=rfl
theorem Ln:bp (.tup xs) k=f (.tup xs):=rfl
theorem M7:bp (.dK xs) k=f (.dK xs):=rfl
theorem Nr:bp (.dT xs) k=f (.dT xs):=rfl
end
theorem JX{f:Bool->Prop}{k:Kt f}:bp true k=f true:=rfl
theorem HR{f:Bool->Prop}{k:Kt f}:bp false k=f false:=rfl
theorem Lh{d:D}{f:Md × D->Prop}{k:Kt f}:bp (Md.sh,d) k=f (.sh,d):=rfl
theorem Mi{b:Bool}{d:D}{f:Md × D->Prop}{k:Kt f}:bp (Md.ow b,d) k=f (.ow b,d):=rfl
theorem Kf{d:D}{f:Md × D->Prop}{k:Kt f}:bp (Md.bo,d) k=f (.bo,d):=rfl
theorem Mf{d:D}{f:Option Sl->Prop}{k:Kt f}:bp (some (.sh d)) k=f (some (.sh d)):=rfl
theorem Lz{b:Bool}{d:D}{f:Option Sl->Prop}{k:Kt f}:bp (some (.ow b d)) k=f (some (.ow b d)):=rfl
theorem J3{p:Md × D}{f:Option (Md × D)->Prop}{k:Kt f}:bp (some p) k=f (some p):=rfl
theorem Mw{p:Bool}{f:Option Bool->Prop}{k:Kt f}:bp (some p) k=f (some p):=rfl
theorem J9{d:D}{f:Option (Option Sl)->Prop}{k:Kt f}:bp (some (some (.sh d))) k=f (some (some (.sh d))):=rfl
theorem LR{b:Bool}{d:D}{f:Option (Option Sl)->Prop}{k:Kt f}:bp (some (some (.ow b d))) k=f (some (some (.ow b d))):=rfl
section
variable {E:m5}{ρ:Env}{Q:Md->D->Prop}{B:Bool->Prop}{t u:WS}{te ta tb tc Vn:WE}{tt tu:WT}{tar:WA}{i j n:Nat}{m m':Md}{d d':D}{sp:dS}{p:WP}{R:List (Md × D)->Prop}
theorem J_:bH E ρ=E.nx ρ:=rfl
theorem Ny:bI t u E ρ=t { E with nx:=u E } ρ:=rfl
theorem Np:dr te E ρ=te ρ E.rt:=rfl
def put(sl:Option Sl)(k:Sl->Prop):Prop:=match sl with
 |some s=>k s
 |none=>False
theorem KN:put (some (.sh d)) k=k (.sh d):=rfl
theorem Ke:put (some (.ow b d)) k=k (.ow b d):=rfl
theorem N_:eJ i te E ρ=te ρ fun m d=>bp (asg m d) (f:=fun o=>put o fun sl=>E.nx (ρ.set i (some sl))) ⟨⟩:=rfl
theorem Ob:eA tt t u E ρ=tt ρ fun b=>bp b (f:=fun b=>if b=true then t E ρ else u E ρ) ⟨⟩:=rfl
theorem Lw:x_ i E ρ=bp ρ[i]? (f:=fun o=>match o with
 |some (some (.sh d))=>E.rt .sh d
 |some (some (.ow fl d))=>E.rt (.ow fl) d
 |_=>False) ⟨⟩:=rfl
theorem LC:Bh pl E ρ=oW pl ρ fun ps=>ps.length<=sizeLine/\E.rt (yd ps) (.tup (ps.map (·.2))):=rfl
theorem Hf:oW [] ρ R=R []:=rfl
theorem JH:oW (.inl te :: r) ρ R=te ρ fun m x=>oW r ρ fun ps=>R ((m,x) :: ps):=rfl
def Vo(o:Option (Md × D))(k:Md × D->Prop):Prop:=match o with
 |some p=>k p
 |none=>False
theorem HS{p:Md × D}{k:Md × D->Prop}:Vo (some p) k=k p:=rfl
theorem Jh:oW (.inr i :: r) ρ R=bp (LZ ρ[i]?) (f:=fun o=>Vo o fun p=>oW r ρ fun ps=>R (p :: ps)) ⟨⟩:=rfl
theorem M3:tf i t E ρ=t E (E3 i ρ):=rfl
-- tests
def bol(d:D)(B:Bool->Prop):Prop:=match d with
 |.bl b=>B b
 |_=>False
theorem Lf:bol (.bl b) B=B b:=rfl
theorem wB_:wB te ρ B=te ρ fun _ x=>bp x (f:=fun x=>bol x B) ⟨⟩:=rfl
theorem Nh:ic tt ρ B=tt ρ fun c=>B (!c):=rfl
theorem Oa:LH tt tu ρ B=tt ρ fun c=>bp c (f:=fun c=>if c=true then tu ρ B else B false) ⟨⟩:=rfl
theorem bZ':ja tt tu ρ B=tt ρ fun c=>bp c (f:=fun c=>if c=true then B true else tu ρ B) ⟨⟩:=rfl
theorem M8:ka ρ B=B true:=rfl
-- expressions
theorem Nu:ag i ρ Q=bp ρ[i]? (f:=fun o=>EL o Q) ⟨⟩:=rfl
theorem Jk:EL (some (some (.sh d))) Q=Q .sh d:=rfl
theorem Jo:EL (some (some (.ow b d))) Q=Q .bo d:=rfl
theorem wC_:wC d ρ Q=Q .sh d:=rfl
theorem cb':av f ta tb ρ Q=ta ρ fun m x=>tb ρ fun n y=>f m x n y Q:=rfl
theorem cc':cv f ta ρ Q=ta ρ fun m x=>f m x Q:=rfl
theorem JZ:iJ f g ta tb tc ρ Q=ta ρ fun m x=>tb ρ fun n y=>f m x n y fun _ z=>bp z (f:=fun z=>bol z fun k=>bp k (f:=fun k=>if k=true then tc ρ fun l w=>g n y l w Q else Q .sh (.bl false)) ⟨⟩) ⟨⟩:=by unfold iJ bp bol;rfl
theorem KC:iK ta tb ρ Q=ta ρ fun _ x=>bp x (f:=fun x=>bol x fun c=>bp c (f:=fun c=>if c=true then tb ρ Q else Q .sh (.bl false)) ⟨⟩) ⟨⟩:=by unfold iK bp bol;rfl
theorem Mq:EV ta tb ρ Q=ta ρ fun _ x=>bp x (f:=fun x=>bol x fun c=>bp c (f:=fun c=>if c=true then Q .sh (.bl true) else tb ρ Q) ⟨⟩) ⟨⟩:=by unfold EV bp bol;rfl
theorem KY:BK ta ρ Q=ta ρ fun _ x=>bp x (f:=fun x=>bol x fun c=>Q .sh (.bl (!c))) ⟨⟩:=by unfold BK bp bol;rfl
theorem Kq:ak te tar ρ R=te ρ fun m x=>tar ρ fun ps=>R ((m,x) :: ps):=rfl
theorem Nv:aI ρ R=R []:=rfl
theorem Nf:ip tar ρ Q=tar ρ fun ps=>ps.length<=sizeLine/\Q (yd ps) (.tup (ps.map (·.2))):=rfl
theorem Oe:fT tar ρ Q=tar ρ fun ps=>ps.length<=sizeLine/\Q (Dr ps) (.list (ps.map (·.2))):=rfl
theorem Ku:bD sp tar ρ Q=tar ρ fun ps=>sp (ps.map (·.2)) fun m d=>bp (m,d) (f:=fun p=>Q (oi p.1 p.2) p.2) ⟨⟩:=rfl
-- operators
section
variable {x y:Str}{a b:Int}{xs ys:List D}{ah:List (Key × D)}{xB:List (List Key × D)}
theorem Ij:eH m (.int a) m' (.int b) Q=Q .sh (.int (a+b)):=rfl
theorem JL:eH m (.str x) m' (.str y) Q=(x.length+y.length<=sizeLine/\Q .sh (.str (x++y))):=rfl
theorem JC:eH m (.list xs) m' (.list ys) Q=(xs.length+ys.length<=sizeLine/\((ck xs=true/\ck ys=true/\Q (.ow true) (.list (xs++ys)))\/(m=.sh/\m'=.sh/\Q (.ow false) (.list (xs++ys))))):=rfl
theorem Iw:eH m (.tup xs) m' (.tup ys) Q=(xs≠[]/\xs.length+ys.length<=sizeLine/\ck xs=true/\ck ys=true/\Q .sh (.tup (xs++ys))):=rfl
theorem H_:xt m (.int a) m' (.int b) Q=Q .sh (.int (a-b)):=rfl
theorem Js:xv m (.int a) m' (.int b) Q=(BI a b/\Q .sh (.int (a*b))):=rfl
theorem Jv:nI m (.int a) m' (.int b) Q=((0<b/\b<1073741824)/\Q .sh (.int (a / b))):=rfl
theorem JW:fS m (.int a) m' (.int b) Q=(0<b/\Q .sh (.int (a % b))):=rfl
theorem K1:yB m (.int a) m' (.int b) Q=Q .sh (.bl (decide (a<b))):=rfl
theorem Kd:yB m (.str x) m' (.str y) Q=Q .sh (.bl (yA x y)):=rfl
theorem Lp:pV m (.int a) m' (.int b) Q=Q .sh (.bl (decide (a<=b))):=rfl
theorem L_:pV m (.str x) m' (.str y) Q=Q .sh (.bl (!yA y x)):=rfl
theorem La:PH m (.int a) m' (.int b) Q=Q .sh (.bl (decide (b<a))):=rfl
theorem KR:eL m (.int a) m' (.int b) Q=Q .sh (.bl (decide (a=b))):=rfl
theorem Kg:eL m (.str x) m' (.str y) Q=Q .sh (.bl (decide (x=y))):=rfl
theorem Li:eL m (.bl k) m' (.bl l) Q=Q .sh (.bl (decide (k=l))):=rfl
theorem Nt:eL m (.list xs) m' d Q=(dy 12 (.list xs)=true/\dy 12 d=true/\Q .sh (.bl (jS (.list xs) d))):=by cases d<;>rfl
theorem NK:eL m (.tup xs) m' d Q=(dy 12 (.tup xs)=true/\dy 12 d=true/\Q .sh (.bl (jS (.tup xs) d))):=by cases d<;>rfl
theorem Mr:eL m .non m' d Q=(dy 12 .non=true/\dy 12 d=true/\Q .sh (.bl (jS .non d))):=by cases d<;>rfl
theorem Ly:nK m (.int a) m' (.int b) Q=Q .sh (.bl (!decide (a=b))):=rfl
theorem KJ:nK m (.str x) m' (.str y) Q=Q .sh (.bl (!decide (x=y))):=rfl
theorem MJ:nK m (.list xs) m' d Q=(dy 12 (.list xs)=true/\dy 12 d=true/\Q .sh (.bl (!jS (.list xs) d))):=by cases d<;>rfl
theorem N8:nK m (.tup xs) m' d Q=(dy 12 (.tup xs)=true/\dy 12 d=true/\Q .sh (.bl (!jS (.tup xs) d))):=by cases d<;>rfl
theorem M5:nK m .non m' d Q=(dy 12 .non=true/\dy 12 d=true/\Q .sh (.bl (!jS .non d))):=by cases d<;>rfl
theorem Mp:uj neg m (.str x) m' (.str y) Q=Q .sh (.bl (if neg then !pS x y else pS x y)):=rfl
theorem Nk:uj neg m d m' (.list ys) Q=(jk d=true/\ys.all jk=true/\Q .sh (.bl (if neg then !inD d ys else inD d ys))):=rfl
theorem Og:uj neg m d m' (.tup ys) Q=(jk d=true/\ys.all jk=true/\Q .sh (.bl (if neg then !inD d ys else inD d ys))):=rfl
theorem NP:uj neg m d m' (.dK ah) Q = ∃ k,d.key1=some k/\Q .sh (.bl (if neg then !(kQ ah k).isSome else (kQ ah k).isSome)):=rfl
theorem N6:uj neg m (.tup xs) m' (.dT xB) Q = ∃ ks,pX xs=some ks/\Q .sh (.bl (if neg then !(kQ xB ks).isSome else (kQ xB ks).isSome)):=rfl
theorem MP:EW m (.int a) Q=Q .sh (.int (-a)):=rfl
theorem MN:dn m (.list xs) m' (.int a) Q = ∃ d,eB xs a=some d/\bp d (f:=fun d=>Q (kA m d) d) ⟨⟩:=rfl
theorem Nz:dn m (.tup xs) m' (.int a) Q = ∃ d,eB xs a=some d/\bp d (f:=fun d=>Q (kA m d) d) ⟨⟩:=rfl
theorem M_:dn m (.str x) m' (.int a) Q = ∃ c,eB x.cps.toList a=some c/\Q .sh (.str ⟨#[c]⟩):=rfl
theorem Nm:dn m (.dK ah) m' d Q = ∃ k d',d.key1=some k/\kQ ah k=some d'/\bp d' (f:=fun d'=>Q (kA m d') d') ⟨⟩:=rfl
theorem MF:dn m (.dT xB) m' (.tup ys) Q = ∃ ks d',pX ys=some ks/\kQ xB ks=some d'/\bp d' (f:=fun d'=>Q (kA m d') d') ⟨⟩:=rfl
theorem Ka:gp m (.str x) Q=Q .sh (.int x.length):=rfl
theorem KZ:gp m (.list xs) Q=Q .sh (.int xs.length):=rfl
theorem J1:gp m (.tup xs) Q=Q .sh (.int xs.length):=rfl
theorem Kc:gp m (.dK ah) Q=Q .sh (.int ah.length):=rfl
theorem Ko:gp m (.dT xB) Q=Q .sh (.int xB.length):=rfl
theorem Nb{T:String}:kB T m d Q=Q .sh (.bl (BO d.ty T)):=rfl
theorem Jq:xX m (.list xs) Q=((ck xs=true/\Q (.ow true) (.list xs))\/(m=.sh/\Q (.ow false) (.list xs))):=rfl
theorem IK:xX m (.tup xs) Q=((ck xs=true/\Q (.ow true) (.list xs))\/(m=.sh/\Q (.ow false) (.list xs))):=rfl
theorem IV:xX m (.dT xB) Q=Q (.ow true) (.list (xB.map fun kv=>.tup (kv.1.map uS))):=rfl
theorem cd':kS te tl th ρ Q=te ρ fun m x=>tl ρ fun lo=>th ρ fun hi=>EX m x lo hi Q:=rfl
theorem HH:cI ρ O=O none:=rfl
def int'(d:D)(k:Int->Prop):Prop:=match d with
 |.int i=>k i
 |_=>False
theorem J4:int' (.int a) k=k a:=rfl
theorem LK:fW te ρ O=te ρ fun _ x=>bp x (f:=fun x=>int' x fun i=>O (some i)) ⟨⟩:=by unfold fW bp int';rfl
theorem NZ{lo hi:Option Int}:EX m (.str x) lo hi Q=Q .sh (.str (iE x lo hi)):=rfl
theorem NB{lo hi:Option Int}:EX m (.list xs) lo hi Q=((ck xs=true/\Q (.ow true) (.list (fi xs lo hi)))\/(m=.sh/\Q (.ow false) (.list (fi xs lo hi)))):=rfl
theorem Ng{lo hi:Option Int}:EX m (.tup xs) lo hi Q=(ck xs=true/\¬ (HT.bG xs.length 0 lo=0/\HT.bG xs.length xs.length hi=xs.length)/\Q .sh (.tup (fi xs lo hi))):=rfl
end
-- texts
def AR(d:D)(k:Str->Prop):Prop:=match d with
 |.str x=>k x
 |_=>False
theorem KQ:AR (.str x) k=k x:=rfl
def tm(d:D)(k:List D->Prop):Prop:=match d with
 |.list x=>k x
 |_=>False
theorem Jj:tm (.list x) k=k x:=rfl
theorem JP:gK Vn te ρ Q=Vn ρ fun _ x=>bp x (f:=fun x=>AR x fun z=>te ρ fun _ y=>bp y (f:=fun y=>tm y fun ys=>∃ zs,ji ys=some zs/\(zs.map (·.length)).sum+zs.length*z.length<=16777216/\Q .sh (.str (Str.join z zs))) ⟨⟩) ⟨⟩:=by unfold gK bp AR tm;rfl
-- places
theorem ce'{P:Bool->D->(Bool->D->Env)->Prop}:qk i ρ P=bp ρ[i]? (f:=fun o=>match o with
 |some (some (.ow fl d))=>P fl d fun cE d2=>ρ.set i (some (.ow cE d2))
 |_=>False) ⟨⟩:=rfl
def P2(o:Option Bool)(k:Bool->Prop):Prop:=match o with
 |some b=>k b
 |none=>False
theorem HD:P2 (some b) k=k b:=rfl
theorem Mx:rp p te E ρ=p ρ fun fl d up=>bp d (f:=fun d=>tm d fun xs=>te ρ fun m x=>xs.length<sizeLine/\bp (qx fl m x) (f:=fun o=>P2 o fun cE=>E.nx (up cE (.list (xs++[x])))) ⟨⟩) ⟨⟩:=by unfold rp bp tm P2;rfl
theorem Ji:zP ρ Q=Q (.ow true) (.dK []):=rfl
def dct(d y:D)(k1:List (Key × D)->Prop)(k2:List (List Key × D)->List D->Prop):Prop:=match d with
 |.dK ah=>k1 ah
 |.dT ah=>match y with
  |.tup ys=>k2 ah ys
  |_=>False
 |_=>False
theorem Oc:dct (.dK ah) y k1 k2=k1 ah:=rfl
theorem MK:dct (.dT ah) (.tup ys) k1 k2=k2 ah ys:=rfl
-- loops
variable {LQ:List D->Prop}
theorem M6:xA wi g b E ρ=wi ρ fun ds=>tR g b E ds ρ:=rfl
theorem Ja:xM te ρ LQ=te ρ fun m d=>pZ m/\bp d (f:=fun d=>tm d LQ) ⟨⟩:=by unfold xM bp tm;rfl
def AU(d:D)(k:List D->Prop):Prop:=match d with
 |.tup x=>k x
 |_=>False
theorem Kr:AU (.tup x) k=k x:=rfl
theorem Ks:zz te ρ LQ=te ρ fun m d=>pZ m/\bp d (f:=fun d=>AU d LQ) ⟨⟩:=by unfold zz bp AU;rfl
theorem KH:yL te ρ LQ=te ρ fun _ d=>bp d (f:=fun d=>AR d fun z=>LQ (LN z)) ⟨⟩:=by unfold yL bp AR;rfl
theorem IW:jm te ρ LQ=te ρ fun _ d=>bp d (f:=fun d=>int' d fun j=>j<=16777216/\-(2 ^ 62)<=j/\LQ (mW 0 j.toNat)) ⟨⟩:=by unfold jm bp int';rfl
theorem JS:wX ta tb ρ LQ=ta ρ fun _ x=>tb ρ fun _ y=>bp x (f:=fun x=>int' x fun i=>bp y (f:=fun y=>int' y fun j=>j-i<=16777216/\(-(2 ^ 62)<=i/\i<2 ^ 62/\-(2 ^ 62)<=j/\j<2 ^ 62)/\LQ (mW i (j-i).toNat)) ⟨⟩) ⟨⟩:=by unfold wX bp int';congr 1;funext _ x;congr 1;funext _ y;cases x<;>cases y<;>rfl
theorem HN:pZ .sh=True:=rfl
theorem HJ:pZ (.ow b)=True:=rfl
theorem HQ:pZ .bo=False:=rfl
theorem gN_:gN i d ρ N=N (ρ.set i (some (.sh d))):=rfl
theorem gT_:gT n gs d ρ N=bp d (f:=fun d=>AU d fun ds=>ds.length=n/\gs ds ρ N) ⟨⟩:=by unfold gT bp AU;rfl
theorem Ld:xj g gs (d :: ds) ρ N=g d ρ fun b9=>gs ds b9 N:=rfl
theorem NQ:Av [] ρ N=N ρ:=by simp[Av]
theorem K_:iz wi g tt te tn ix ρ Q=wi ρ fun ds=>dN g tt te ds (BL tn ix ρ) fun out=>Q (.ow true) (.list out):=rfl
end
theorem B{c:Bool}{f:Bool->Prop}{k:Kt f}(h1:c=true->f true)(h2:c=false->f false):bp c k:=by
 cases c with
 |true=>exact h1 rfl
 |false=>exact h2 rfl
theorem D{p:Prop}[Decidable p]{f:Bool->Prop}{k:Kt f}(h1:p->f true)(h2:¬ p->f false):bp (decide p) k :=
 B (fun h=>h1 (of_decide_eq_true h)) fun h=>h2 (of_decide_eq_false h)
theorem T{c:Bool}{f:Bool->Prop}{k:Kt f}(h:c=true)(h1:f true):bp c k:=by subst h;exact h1
theorem F{c:Bool}{f:Bool->Prop}{k:Kt f}(h:c=false)(h1:f false):bp c k:=by subst h;exact h1
end L2.Q.R
namespace L2
open PySem PySem.Spec PyProof.Rows
end L2
namespace L2.Q
open PySem PySem.Spec PyProof.Rows
section
variable {K:PySem.W.Frag}{p:Pos}
def Lr:W1:=fun _ x Q=>match x with
 |.list xs=>∃ ks b,xs=ks.map uS/\(∀ k∈ks,PB k=b)/\∀ ms:List Key,ms.Perm ks->(ms.Pairwise fun a b=>Pz b a=false)->Q (.ow true) (.list (ms.map uS))
 |.dK ah=>∃ b,(∀ p∈ah,PB p.1=b)/\∀ ms:List Key,ms.Perm (ah.map (·.1))->(ms.Pairwise fun a b=>Pz b a=false)->Q (.ow true) (.list (ms.map uS))
 |_=>False
section
variable {Hs H:Hp}{fl:Bool}
theorem aF.erase(k:Nat)(r:aF K Hs H fl ds vs As):∃ Bs,Bs.Sublist As/\aF K Hs H fl (ds.eraseIdx k) (vs.eraseIdx k) Bs:=by
 induction ds generalizing vs As k with
 |nil =>obtain⟨rfl,rfl⟩:=r.n0;exact⟨[],List.Sublist.refl _,.nil⟩
 |cons d ds ih =>
  obtain⟨u,us,A,B,rfl,rfl,r,rs⟩:=r.c
  cases k with
  |zero=>exact⟨B,kF _ _,rs⟩
  |succ k =>obtain⟨C,sb,q⟩:=ih k rs;exact⟨A++C,sb.append_left _,.cons r q⟩
end
end
abbrev WIL:=Env->(List D->Prop)->Prop
end L2.Q
namespace L2.Q.R
open PySem PySem.Spec PyProof.Rows L2.Q
section
variable {ρ:Env}{Q:Md->L2.Q.D->Prop}{te:WE}{d:L2.Q.D}{a:Addr}{b:Bool}{LQ:List L2.Q.D->Prop}
theorem Mj{f:Option Sl->Prop}{k:Kt f}:bp (some (.lk a b d)) k=f (some (.lk a b d)):=rfl
theorem K8{f:Option (Option Sl)->Prop}{k:Kt f}:bp (some (some (.lk a b d))) k=f (some (some (.lk a b d))):=rfl
theorem Jd:EL (some (some (.lk a b d))) Q=Q .bo d:=rfl
def ch'(o:Option (Option Sl))(k:Bool->L2.Q.D->Prop):Prop:=match o with
 |some (some (.ow fl d))=>k fl d
 |_=>False
theorem Il:ch' (some (some (.ow b d))) k=k b d:=rfl
theorem Jy:xH te ρ LQ=te ρ fun _ d=>bp d (f:=fun d=>tm d fun xs=>LQ (qP xs)) ⟨⟩:=by unfold xH bp tm;rfl
theorem JG:jW te ρ LQ=te ρ fun _ d=>bp d (f:=fun d=>tm d LQ) ⟨⟩:=by unfold jW bp tm;rfl
theorem J2:zf te ρ LQ=te ρ fun _ d=>bp d (f:=fun d=>AU d LQ) ⟨⟩:=by unfold zf bp AU;rfl
end
end L2.Q.R
namespace L2
open PySem PySem.Spec PyProof.Rows Builtin Builtin.Str Builtin.Int
section
variable {prog:Program}{w:World}{A:Around}{E:Value->Shared->Prop}{s:Shared}{x:Str}{n:Int}{t u:Tok}
theorem wu(aE:MulOk x n)(h:∀ t' k,Q (.str (Txt.mul x n) t') { s with toks:=k }):wpAny (model prog w) A (binaryOp .Mult (.int n u) (.str x t)) Q E s:=by
 refine lm_binaryOp_repeat_right (T := "str") (U := "int") (by decide) (fun s'=>typeIs_int s' n u) (typeIs_str s x t) F.fills_int_mul noFill_str_mul F.slot_int_mul lm_noRepeat_int repeat_str F.slot_int_index.lookup (call_gives F.slot_int_mul (typeIs_int s n u) F.entry_int_mul (F.args_int_mul_2 _ _) (AutoIntG3.int___mul___int_str_0 n u x t) ⟨rfl,typeIs_str _ x t,call_gives F.slot_str_mul (typeIs_str _ x t) F.entry_str_mul (F.args_str_mul_2 _ _) (gives_str_mul x n t u aE.1 aE.2.1 aE.2.2) ?_⟩)
 unfold Txt.mul at h;by_cases h1:n<1
 ·rw[if_pos h1];have h':=h s.toks (s.toks+1);rw[if_pos h1] at h';exact⟨by decide,h'⟩
 ·rw[if_neg h1];refine post_val_or_made (fun hc=>fits_reps (aE.2.2 h1 (by simpa using hc))) fun t' k=>?_;have h':=h t' k;rw[if_neg h1] at h';exact h'
end
def om(n:Int)(z:Str):Str:=⟨(List.replicate n.toNat z.cps.toList).flatten.toArray⟩
theorem qD(xs:Array Nat):∀ (k:Nat) (acc:Array Nat),(List.replicate k xs).foldl (· ++ ·) acc=acc++(List.replicate k xs.toList).flatten.toArray
 |0,acc=>by simp
 |k+1,acc=>by rw[qA,List.foldl_cons,qD xs k,qA,se];apply Array.ext';simp
theorem Fl(h:1<=n):Txt.mul z n=om n z:=by
 unfold Txt.mul om;rw[if_neg (by lia)];by_cases h1:n=1
 ·subst h1;simp
 ·by_cases h0:z.length=0
  ·have hz:z.cps = #[]:=Array.eq_empty_of_size_eq_zero h0;rw[if_pos (by simp[h0])];obtain⟨c⟩:=z;cases hz;simp
  ·rw[if_neg (by simp[h1,h0]),qD];simp
def Gf:R2:=fun x y H Q=>match x,y with
 |.int n,.str z=>(1<=n/\n<=100/\z.length<=100)/\Q (.str (om n z)) H
 |_,_=>False
section
variable {X:Cx}
theorem Er:cy X (binaryOp .Mult) Gf:=by
 intro pins s σ H x y v u Q I rx ry h;unfold Gf at h;split at h
 ·rename_i n z;obtain⟨⟨h1,h2,h3⟩,q⟩:=h;obtain⟨t,rfl⟩:=rx;obtain⟨t',rfl⟩:=ry;refine wu ⟨?_,fun _ _=>?_,fun _ _=>?_⟩ fun t' k=>⟨.str (om n z),H,I.tok _,⟨_,by rw[Fl h1]⟩,q⟩
  ·have a1:¬ n < -(2 ^ 63:Int):=by lia
   have a2:¬ n >= 2 ^ 63:=by lia
   rw[decide_eq_false a1,decide_eq_false a2];rfl
  ·have:(2 ^ 63-1:Int) / 100<=(2 ^ 63-1) / n:=by apply Int.le_ediv_of_mul_le (by lia);have:(2 ^ 63-1:Int) / 100*n<=(2 ^ 63-1:Int) / 100*100:=Int.mul_le_mul_of_nonneg_left h2 (by decide);lia
   have e:(2 ^ 63-1:Int) / 100=92233720368547758:=by decide
   lia
  ·have:z.length*n.toNat<=100*100:=Dx h3 (by lia);have hs:=sizeLine_eq;simp only[tooLong,decide_eq_false_iff_not];generalize z.length*n.toNat=m at this ⊢;lia
 ·exact h.elim
end
end L2
namespace L2
open PySem PySem.Spec PyProof.Rows
end L2
namespace L2.Q
open PySem PySem.Spec PyProof.Rows
section
variable {X:Cx}{K:PySem.W.Frag}{e a b:Expr}{ta tb:WE}{p pos:Pos}{x:Str}{id:String}
def B3:W1:=fun _ x Q=>match x with
 |.list xs=>∃ bs:List Bool,xs=bs.map D.bl/\Q .sh (.bl (bs.all (fun b=>b)))
 |_=>False
theorem Gi{H:Hp}{bs:List Bool}{vs:List V}(r:aS K H (bs.map D.bl) vs):vs=bs.map V.bl:=by
 induction bs generalizing vs with
 |nil=>exact r.n0
 |cons b bs ih =>obtain⟨u,us,rfl,r1,rs⟩:=aS.c (d:=D.bl b) r;cases r1;rw[ih rs];rfl
theorem wH:uk K (Kx K) B3:=by
 intro Hs H m x v As Qd Qv w rx h f;have r1:=rx.rep w
 cases r1 with
 |list z s q =>obtain⟨bs,rfl,h⟩:=h;cases Gi q;exact⟨bs,s,f.sh w (.bl _) h⟩
 |_=>exact h.elim
def oE:W1:=fun _ x Q=>match x with
 |.list xs=>ck xs=true/\Q .sh (.tup xs)
 |_=>False
theorem nP:uk K (fun xs H Q=>∃ p ys,xs=[.ref p]/\((dk K H p ys/\∀ l,H l=none->Q (.ref l) (upd H l (.tup ys)))\/(gI K H p ys/\Q (.ref p) H))) oE:=by
 intro Hs H m x v As Qd Qv w rx h f;have r1:=rx.rep w
 cases r1 with
 |list z s q =>have hl:=q.length;exact⟨_,_,rfl,.inl ⟨s,f.tup w (by lia) q h.1 h.2⟩⟩
 |_=>exact h.elim
theorem xn (hK:X.K=K:=by rfl):h8 X (.type "tuple") (fun xs H Q=>∃ p ys,xs=[.ref p]/\((dk K H p ys/\∀ l,H l=none->Q (.ref l) (upd H l (.tup ys)))\/(gI K H p ys/\Q (.ref p) H))):=by subst hK;exact aB'
theorem qR(n:Int)(z:Str):(om n z).length=n.toNat*z.length:=by unfold om Str.length;rw[hR,len_rep,tv]
def B_:W2:=fun _ x _ y Q=>match x,y with
 |.int n,.str z=>(1<=n/\n<=100/\z.length<=100)/\Q .sh (.str (om n z))
 |_,_=>False
theorem Dl:hZ K Gf B_:=by
 intro Hs H m x v As n y u Bs Qd Qv w rx ry h f;have r1:=rx.rep w;have r2:=ry.rep w
 cases r1 with
 |int i=>cases r2 with
  |str hz =>refine⟨h.1,zy f w ?_ h.2⟩;obtain⟨⟨h1,h2,h3⟩,_⟩:=h;rw[qR,sizeLine_eq];have:=Dx (show i.toNat<=100 by lia) h3;lia
  |_=>exact h.elim
 |_=>cases r2<;>exact h.elim
theorem Gn(ha:QE X K a ta)(hb:QE X K b tb):QE X K (.BinOp a .Mult b pos) (av B_ ta tb):=AF Er Dl ha hb
theorem Hr:bootBuiltins "min" = some (.builtin "min"):=by decide +kernel
def Ga:R2:=fun x y H Q=>match x,y with
 |.int i,.int j=>Q (.int (if j<i then j else i)) H
 |_,_=>False
def DK:W2:=fun _ x _ y Q=>match x,y with
 |.int i,.int j=>Q .sh (.int (if j<i then j else i))
 |_,_=>False
theorem E_:hZ K Ga DK:=by
 intro Hs H m x v As n y u Bs Qd Qv w rx ry h f;have r1:=rx.rep w;have r2:=ry.rep w
 cases r1 with
 |int i=>cases r2 with
  |int j=>exact f.sh w (.int _) h
  |_=>exact h.elim
 |_=>cases r2<;>exact h.elim
theorem Di(hc:h8 X (.builtin id) fun xs H Q=>∃ x y,xs=[x,y]/\r x y H Q)(br:hZ K r f)(hg:Gl X x)(hm:X.mg x=none)(hv:bootBuiltins x=some (.builtin id))(ha:QE X K a ta)(hb:QE X K b tb)(hs:starEach [a,b] X.env=(false,eval a X.env) :: starEach [b] X.env:=by rfl) (nE:starEach [b] X.env=(false,eval b X.env) :: starEach [] X.env:=by rfl) (hn:x ≠ "__name__" := by decide) (fz:(x == ("__debug__" : Str))=false:=by decide) (gy:(backTo pos (starEach [b] X.env)).any (·.1)=false:=by rfl):QE X K (.Call (.Name x p) [a,b] [] pos) (av f ta tb):=by
 refine PE.imp (D1 hc hg hm hv (iA ha (iA hb lI nE) hs) hn fz hs gy) fun σ H Qv h=>?_;obtain⟨Hs,ρ,ae,Q,sr,h,fin⟩:=oU br σ H Qv h;exact⟨Hs,ρ,ae,Q,sr,h,fun v H1 aw m x As g1 r1 f1 q1=>by
  obtain⟨ax,fI,fk,Q2,qc,h2,fin2⟩:=fin v H1 aw m x As g1 r1 f1 q1;exact⟨ax,fI,fk,Q2,qc,h2,fun u H2 g7 n y Bs g2 r2 f2 q2=>⟨v,u,rfl,fin2 u H2 g7 n y Bs g2 r2 f2 q2⟩⟩⟩
theorem G3 (hc:X.calm=true:=by rfl):h8 X (.builtin "min") fun xs H Q=>∃ x y,xs=[x,y]/\Ga x y H Q:=fun pins s σ H xs us Q I r dc=>by
 obtain⟨x,y,e,q⟩:=dc;subst e;unfold Ga at q;split at q
 ·exact ZS hc pins s σ H _ us Q I r ⟨_,_,rfl,q⟩
 ·exact q.elim
end
end L2.Q
namespace L2.Q.R
open PySem PySem.Spec PyProof.Rows L2.Q
section
variable {Q:Md->L2.Q.D->Prop}{m m':Md}{xs:List L2.Q.D}{a b:Int}{x:Str}
theorem Mz:B3 m (.list xs) Q = ∃ bs:List Bool,xs=bs.map L2.Q.D.bl/\Q .sh (.bl (bs.all (fun b=>b))):=rfl
theorem JQ:oE m (.list xs) Q=(ck xs=true/\Q .sh (.tup xs)):=rfl
theorem Mh:B_ m (.int a) m' (.str x) Q=((1<=a/\a<=100/\x.length<=100)/\Q .sh (.str (om a x))):=rfl
theorem Ml:DK m (.int a) m' (.int b) Q=Q .sh (.int (if b<a then b else a)):=rfl
end
end L2.Q.R
namespace L2.Q
open PySem PySem.Spec PyProof.Rows
theorem k_(O:Nat->List D->Prop)(Iv:Env->Prop):∀ (xs:List D) (i:Nat) (pre:List D) (ρ:Env) (k:List D->Prop),Iv ρ->O i pre -> (∀ j x,xs[j]? = some x->∀ ρ,Iv ρ->∀ out,O (i+j) out->∀ N1:Env->Prop,∀ N2:Env->D->Prop,(∀ b9 d,Iv b9->O (i+j+1) (out++[d])->N2 b9 d)->g x ρ fun md=>tc md fun b=>if b=true then te md fun m d=>LP m d/\N2 md d else N1 md) -> (∀ out,O (i+xs.length) (pre++out)->k out)->dN g tc te xs ρ k
 |[],i,pre,_,k,_,h0,_,h=>h [] (by simpa using h0)
 |x :: xs,i,pre,ρ,k,iv,h0,hs,h=>by
  refine hs 0 x rfl ρ iv pre h0 _ _ (fun b9 d Fc o'=>?_);refine k_ O Iv xs (i+1) (pre++[d]) b9 _ Fc o' (fun j y hy ρ iv out ho=>?_) fun out ho=>?_
  ·have:=hs (j+1) y (by simpa using hy) ρ iv out (by rwa[show i+(j+1)=i+1+j by lia]);rwa[show i+(j+1)+1=i+1+j+1 by lia] at this
  ·refine h (d :: out) ?_;rw[A6] at ho;rwa[ox,show i+(xs.length+1)=i+1+xs.length by lia]
end L2.Q
namespace TS
open PySem PySem.SetTable
def adv(M:Nat)(p:Probe):Probe :=
 if p.more>0 then { p with j:=p.j+1,more:=p.more-1 } else
 { p with j:=(leap M p.i p.perturb).1,more:=runEnd M (leap M p.i p.perturb).1-(leap M p.i p.perturb).1,i:=(leap M p.i p.perturb).1,perturb:=(leap M p.i p.perturb).2 }
def ps(M:Nat)(h:Int):Nat->Probe
 |0=>{ j:=bits h % (M+1),more:=runEnd M (bits h % (M+1))-bits h % (M+1),i:=bits h % (M+1),perturb:=bits h,dummy:=none }
 |n+1=>adv M (ps M h n)
def J(M:Nat)(h:Int)(n:Nat):Nat:=(ps M h n).j
def Up(xs:Array Nat):Prop:=∀ i j:Nat,i<j->j<xs.size->xs.getD i 0<xs.getD j 0
theorem wY{xs:Array Nat}{i d d':Nat}(h:i<xs.size):xs.getD i d=xs.getD i d':=by simp[Array.getD,h]
theorem sH{xs:Array Nat}(U:Up xs)(j:Nat):∀ (fuel lo hi:Nat),hi-lo<=fuel->lo<=hi->hi<=xs.size->(∀ i<lo,xs.getD i 0<j)->(∀ i,hi<=i->i<xs.size->j<=xs.getD i 0) ->
  below.go xs j fuel lo hi<=xs.size/\(∀ i<below.go xs j fuel lo hi,xs.getD i 0<j)/\(∀ i,below.go xs j fuel lo hi<=i->i<xs.size->j<=xs.getD i 0)
 |0,lo,hi,hf,h1,h2,h3,h4=>by
  obtain rfl:lo=hi:=by lia
  exact⟨h2,h3,h4⟩
 |fuel+1,lo,hi,hf,h1,h2,h3,h4=>by
  unfold below.go;by_cases c:lo<hi
  ·rw[if_pos c];dsimp only;have hm:(lo+hi) / 2<xs.size:=by lia
   by_cases d:xs.getD ((lo+hi) / 2) j<j
   ·rw[if_pos d];rw[wY (d':=0) hm] at d;refine sH U j fuel _ _ (by lia) (by lia) h2 (fun i ub=>?_) h4;by_cases e:i=(lo+hi) / 2
    ·rw[e];exact d
    ·exact NF (U i _ (by lia) hm) d
   ·rw[if_neg d];rw[wY (d':=0) hm] at d;refine sH U j fuel _ _ (by lia) (by lia) (by exact A8 ‹_›) h3 fun i ub hs=>?_;by_cases e:i=(lo+hi) / 2
    ·rw[e];exact ND ‹_›
    ·have:=U ((lo+hi) / 2) i (by lia) hs;lia
  ·rw[if_neg c];obtain rfl:lo=hi:=by lia
   exact⟨h2,h3,h4⟩
theorem gB(U:Up xs)(j:Nat):below xs j<=xs.size/\(∀ i<below xs j,xs.getD i 0<j)/\(∀ i,below xs j<=i->i<xs.size->j<=xs.getD i 0) :=
 sH U j xs.size 0 xs.size (by lia) (by lia) (cK _) (fun i h=>absurd h (Nat.not_lt_zero i)) fun i h1 h2=>by lia
theorem below_at(U:Up xs)(h:i<xs.size):below xs (xs.getD i 0)=i:=by
 obtain⟨a,b,c⟩:=gB U (xs.getD i 0);by_cases h1:below xs (xs.getD i 0)<i
 ·have:=c _ (cK _) (by lia);have:=U _ i h1 h;lia
 ·by_cases h2:i<below xs (xs.getD i 0)
  ·have:=b i h2;lia
  ·lia
def taken(xs:Array Nat)(j:Nat):Bool:=xs[below xs j]? == some j
theorem zL{xs:Array Nat}{i j:Nat}(h:xs[i]? = some j):i<xs.size/\xs.getD i 0=j:=by obtain⟨h1,h2⟩:=DC.mp h;exact⟨h1,by simp[Array.getD,h1,h2]⟩
theorem Gb{xs:Array Nat}{i:Nat}(h:i<xs.size):xs[i]? = some (xs.getD i 0):=by simp[Array.getD,h]
theorem oZ{xs:Array Nat}(U:Up xs){j:Nat}:taken xs j=true↔∃ i,i<xs.size/\xs.getD i 0=j:=by
 unfold taken;rw[beq_iff_eq];constructor
 ·intro h;exact⟨_,zL h⟩
 ·rintro⟨i,h,rfl⟩;rw[below_at U h];exact Gb h
theorem qN{xs:Array Nat}(U:Up xs){j:Nat}(h:taken xs j=true):below xs j<xs.size/\xs.getD (below xs j) 0=j:=by unfold taken at h;rw[beq_iff_eq] at h;exact zL h
theorem jc{α:Type}(xs:Array α){p:Nat}(x:α)(h:p<=xs.size):(insertAt xs p x).size=xs.size+1:=by unfold insertAt;simp;lia
theorem IC{α:Type}(xs:Array α){p:Nat}(x:α)(h:p<=xs.size)(i:Nat):(insertAt xs p x)[i]? = if i<p then xs[i]? else if i=p then some x else xs[i-1]? := by
 unfold insertAt;have hs:((xs.extract 0 p).push x).size=p+1:=by simp;exact Nat.min_eq_left ‹_›
 by_cases h1:i<p
 ·rw[if_pos h1,Array.getElem?_append_left (by lia),Array.getElem?_push,if_neg (by simp;lia),NM];rw[if_pos (by lia)];simp
 ·rw[if_neg h1];by_cases h2:i=p
  ·rw[if_pos h2,Array.getElem?_append_left (by lia),Array.getElem?_push,if_pos (by simp;lia)]
  ·rw[if_neg h2,Array.getElem?_append_right (by lia),hs,NM];by_cases h3:i-(p+1)<min xs.size xs.size-p
   ·rw[if_pos h3];congr 1;lia
   ·rw[if_neg h3,He (by lia)]
theorem fU(h:p<=xs.size)(i:Nat):(insertAt xs p x).getD i 0=if i<p then xs.getD i 0 else if i=p then x else xs.getD (i-1) 0:=by
 have e:∀ (ys:Array Nat) (k:Nat),ys.getD k 0=ys[k]?.getD 0:=fun ys k=>by simp[G0]
 rw[e,IC xs x h];split
 ·rw[e]
 ·split
  ·rfl
  ·rw[e]
theorem De(U:Up xs)(hj:taken xs j=false):Up (insertAt xs (below xs j) j):=by
 obtain⟨a,b,c⟩:=gB U j;have ne:∀ i,i<xs.size->xs.getD i 0≠j:=fun i hi e=>by have:=(oZ U (j:=j)).mpr ⟨i,hi,e⟩;rw[hj] at this;cases this
 intro i k hik hk;rw[jc xs j a] at hk;rw[fU a,fU a];by_cases h1:k<below xs j
 ·rw[if_pos (by lia),if_pos h1];exact U i k hik (by lia)
 ·rw[if_neg h1];by_cases h2:k=below xs j
  ·rw[if_pos h2,if_pos (by lia)];exact b i (by lia)
  ·rw[if_neg h2];by_cases h3:i<below xs j
   ·rw[if_pos h3];exact U i (k-1) (by lia) (by lia)
   ·rw[if_neg h3];by_cases h4:i=below xs j
    ·rw[if_pos h4];have:=c (k-1) (by lia) (by lia);have:=ne (k-1) (by lia);lia
    ·rw[if_neg h4];exact U (i-1) (k-1) (by lia) (by lia)
theorem z6(U:Up xs)(hj:taken xs j=false):taken (insertAt xs (below xs j) j) k=(decide (k=j) || taken xs k):=by
 have a:=(gB U j).1;have U':=De U hj;apply vx.mpr;rw[oZ U',GY,decide_eq_true_eq,oZ U];rw[jc xs j a];constructor
 ·rintro⟨i,hi,e⟩;rw[fU a] at e;by_cases h1:i<below xs j
  ·rw[if_pos h1] at e;exact .inr ⟨i,by lia,e⟩
  ·rw[if_neg h1] at e;by_cases h2:i=below xs j
   ·rw[if_pos h2] at e;exact .inl e.symm
   ·rw[if_neg h2] at e;exact .inr ⟨i-1,by lia,e⟩
 ·rintro(rfl|⟨i,hi,e⟩)
  ·exact⟨below xs k,by lia,by rw[fU a,if_neg (by lia),if_pos rfl]⟩
  ·by_cases h1:i<below xs j
   ·exact⟨i,by lia,by rw[fU a,if_pos h1];exact e⟩
   ·exact⟨i+1,by lia,by rw[fU a,if_neg (by lia),if_neg (by lia)];exact e⟩
def Reach(M:Nat)(place:Array Nat)(h:Int)(j:Nat):Prop:=∃ n,n<=10*(M+13)/\J M h n=j/\∀ k<n,taken place (J M h k)=true
structure TI{α:Type}(t:SetTable)(es:Array (Int × α)):Prop where
 pw:∃ m,t.mask+1=2 ^ m/\3<=m
 sz:t.place.size=es.size
 up:Up t.place
 le:∀ i,i<t.place.size->t.place.getD i 0<=t.mask
 dm:t.dummies = #[]
 few:es.size*5<t.mask*3
 path:∀ i h x,es[i]? = some (h,x)->Reach t.mask t.place h (t.place.getD i 0)
section
variable {α:Type}{t:SetTable}{es:Array (Int × α)}
theorem TI.slot(T:TI t es)(j:Nat):t.slot j=if taken t.place j then .live (below t.place j) else .empty:=by
 unfold SetTable.slot taken;dsimp only;split
 ·rfl
 ·have:has t.dummies j=false:=by rw[T.dm];rfl
  rw[this];rfl
theorem TI.free(T:TI t es):∃ e,e<=t.mask/\taken t.place e=false:=by
 have hf:=T.few;have hs:=T.sz;by_cases c:∃ e,e<=t.mask/\taken t.place e=false
 ·exact c
 ·exfalso;have all:∀ e,e<=t.mask->taken t.place e=true:=fun e he=>by
   cases z:taken t.place e with
   |true=>rfl
   |false=>exact absurd ⟨e,he,z⟩ c
  -- slot e stands at place at most e
  have go:∀ e,e<=t.mask->e<=below t.place e:=by
   intro e
   induction e with
   |zero=>intro _;exact i5 _
   |succ e ih =>
    intro he;have h1:=qN T.up (all e (by exact A8 ‹_›));have h2:=qN T.up (all (e+1) he);have:=ih (by exact A8 ‹_›);obtain⟨_,b,c⟩:=gB T.up (e+1);by_cases z:below t.place e<below t.place (e+1)
    ·walk_at "s1"
    ·have:=c (below t.place e) (by exact ND ‹_›) h1.1;lia
  have:=go t.mask (cK _);have:=(qN T.up (all t.mask (cK _))).1;lia
theorem TI.put(T:TI t es)(hj:j<=t.mask)(hn:taken t.place j=false)(hr:Reach t.mask t.place h j)(ht:t'.mask=t.mask)(hp:t'.place=insertAt t.place (below t.place j) j)(hd:t'.dummies = #[])(hf:(es.size+1)*5<t.mask*3):TI t' (insertAt es (below t.place j) (h,x)):=by
 have a:=(gB T.up j).1;have a':below t.place j<=es.size:=by rw[<- T.sz];exact a
 refine⟨by rw[ht];exact T.pw,by rw[hp,jc _ _ a,jc _ _ a',T.sz],by rw[hp];exact De T.up hn,fun i hi=>?_,hd,by rw[jc _ _ a',ht];exact hf,fun i g y e=>?_⟩
 ·rw[hp,jc _ _ a] at hi;rw[hp,fU a,ht];split
  ·exact T.le i (by lia)
  ·split
   ·exact hj
   ·exact T.le (i-1) (by lia)
 ·have mono:∀ {g:Int} {k:Nat},Reach t.mask t.place g k->Reach t'.mask t'.place g k:=fun {g k} ⟨n,h1,h2,h3⟩=>⟨n,by rw[ht];exact h1,by rw[ht];exact h2,fun q hq=>by
   rw[hp,ht,z6 T.up hn,h3 q hq,Bool.or_true]⟩
  rw[IC es _ a'] at e;rw[hp,fU a,<- hp];by_cases h1:i<below t.place j
  ·rw[if_pos h1] at e ⊢;exact mono (T.path i g y e)
  ·rw[if_neg h1] at e ⊢;by_cases h2:i=below t.place j
   ·rw[if_pos h2] at e ⊢;cases e;exact mono hr
   ·rw[if_neg h2] at e ⊢;exact mono (T.path (i-1) g y e)
end
theorem tQ{α:Type}[DecidableEq α]:∀ {l m:List α},l.Nodup->(∀ x∈l,x∈m)->l.length<=m.length
 |[],_,_,_=>i5 _
 |x :: l,m,nd,h=>by rw[mx] at nd;have hx:=h x fo;have:=tQ (l:=l) (m:=m.erase x) nd.2 fun y hy=>(List.mem_erase_of_ne (fun e=>nd.1 (by rw[<- e];exact hy))).mpr (h y (dz _ hy));rw[List.length_erase_of_mem hx] at this;have:0<m.length:=List.length_pos_of_mem hx;simp only[ox];lia
def B4(owner:Array (Option Nat))(j:Nat):Bool:=(owner.getD j (some 0)).isSome
structure OI(M:Nat)(hs:List Int)(owner:Array (Option Nat)):Prop where
 sz:owner.size=M+1
 lt:∀ j v:Nat,owner[j]? = some (some v)->v<hs.length
 inj:∀ j j' v:Nat,owner[j]? = some (some v)->owner[j']? = some (some v)->j=j'
 all:∀ v:Nat,v<hs.length->∃ j:Nat,owner[j]? = some (some v)
 path:∀ j v:Nat,owner[j]? = some (some v)->∃ n,n<=10*(M+13)/\J M (hs.getD v 0) n=j/\∀ q<n,B4 owner (J M (hs.getD v 0) q)=true
theorem Ds(h:j<owner.size):B4 owner j=true↔∃ v,owner[j]? = some (some v):=by
 unfold B4;rw[Array.getElem?_eq_getElem h];simp only[Array.getD,h,dite_true,Option.some.injEq]
 cases hh:owner[j] with
 |none =>have:owner.getInternal j h=none:=hh;rw[this];simp
 |some v =>have:owner.getInternal j h=some v:=hh;rw[this];simp
theorem OI.free(O:OI M hs owner)(hl:hs.length<=M):∃ e,e<=M/\B4 owner e=false:=by
 by_cases c:∃ e,e<=M/\B4 owner e=false
 ·exact c
 ·exfalso;have all:∀ e,e<=M->∃ v,owner[e]? = some (some v):=fun e he=>by
   refine(Ds (by rw[O.sz];lia)).mp ?_
   cases z:B4 owner e with
   |true=>rfl
   |false=>exact absurd ⟨e,he,z⟩ c
  have nd:((List.range (M+1)).map fun j=>(owner.getD j none).getD 0).Nodup:=by rw[List.nodup_iff_pairwise_ne,Nn];refine List.Pairwise.imp_of_mem ?_ (List.nodup_iff_pairwise_ne.mp NC);intro a b ha hb sN z;obtain⟨va,ea⟩:=all a (by have:=vt.mp ha;lia);obtain⟨vb,eb⟩:=all b (by have:=vt.mp hb;lia);rw[G0,G0,ea,eb] at z;have z:va=vb:=z;subst z;exact sN (O.inj _ _ _ ea eb)
  have:=tQ (m:=List.range hs.length) nd fun x hx=>by obtain⟨j,hj,rfl⟩:=iL.mp hx;obtain⟨v,e⟩:=all j (by have:=vt.mp hj;lia);rw[G0,e];exact vt.mpr (O.lt _ _ e)
  simp at this;lia
theorem OI.nil(M:Nat):OI M [] (Array.replicate (M+1) none):=by
 have no:∀ (j v:Nat),¬ (Array.replicate (M+1) (none:Option Nat))[j]? = some (some v):=fun j v z=>by rw[Array.getElem?_replicate] at z;split at z<;>cases z
 exact⟨by simp,fun j v z=>absurd z (no j v),fun j j' v z _=>absurd z (no j v),fun v hv=>absurd hv (Nat.not_lt_zero v),fun j v z=>absurd z (no j v)⟩
section
variable {prog:Program}{w:World}{K:Type}[DecidableEq K]{knd:KeyKind prog w K}
abbrev Jf(knd:KeyKind prog w K)(k:List K):Int:=tupleKeyHash knd k
def Iu(knd:KeyKind prog w K)(p:List K × Addr):Int × Value:=(Jf knd p.1,.ref p.2)
structure Fh(knd:KeyKind prog w K)(h:Heap)(a:Addr)(ks:List (List K × Addr)):Prop where
 ob:∃ o es ep t,h.get? a=some o/\o.ExactSet/\o.data=.set es ep t/\TI t es/\t.mask<=8191/\t.led=(!w.params.followText "set-order")/\es.toList=ks.map (Iu knd)
 nd:(ks.map (·.1)).Nodup
 is:∀ p∈ks,IsTupleKey knd h p.1 p.2
end
local macro_rules | `(tactic| walk_at $s:str) => do
 let x:=s.getString
 if x.startsWith "PV" then `(tactic| exact $(Lean.mkIdent (.str (.str (.num (.str (.str (.str .anonymous "_private") "PySem") "SetOps") 0) "PySem") (x.drop 2).toString)))
 else Lean.Macro.throwUnsupported
section
variable {prog:Program}{w:World}{K:Type}[DecidableEq K]{knd:KeyKind prog w K}
theorem IsTupleKey.fF(hk:IsTupleKey knd h k a)(e:∀ o,h.get? a=some o->h'.get? a=some o):IsTupleKey knd h' k a:=by obtain⟨o,items,n,ho,r⟩:=hk;exact⟨o,items,n,e o ho,r⟩
theorem Fh.fF(S:Fh knd h a ks)(e:∀ b o,h.get? b=some o->h'.get? b=some o):Fh knd h' a ks:=by obtain⟨⟨o,es,ep,t,ho,r⟩,nd,is⟩:=S;exact⟨⟨o,es,ep,t,e _ _ ho,r⟩,nd,fun p hp=>IsTupleKey.fF (is p hp) fun o ho=>e _ _ ho⟩
theorem Fh.ne(S:Fh knd h a ks)(hx:IsTupleKey knd h k x):x≠a:=by obtain⟨⟨o,es,ep,t,ho,hex,_⟩,_,_⟩:=S;obtain⟨o',items,n,ly,hc,_⟩:=hx;intro z;subst z;rw[ho] at ly;cases ly;rw[hex.1] at hc;exact absurd hc (by decide)
end
end TS
namespace TS
open PySem PySem.SetTable PyProof.Rows
section
variable {s:Shared}
def Fm(h:Heap)(I:Addr)(first:Value)(i:Nat)(a:Addr)(n ep:Nat):Prop :=
 h.get? I=some { cls:=.type "set_iterator",dict:=none,data:=.fields #[first,.int i 0,.ref a,.int n 0,.int ep 0],slots:=#[] }
def P4(h:Heap)(a:Addr)(es:Array (Int × Value))(ep:Nat)(t:SetTable):Prop:=∃ o,h.get? a=some o/\o.data=.set es ep t
variable {a I:Addr}{es:Array (Int × Value)}{ep:Nat}{t:SetTable}{first:Value}{i n:Nat}
theorem Fm.typeIs (h:Fm s.heap I first i a n ep):s.TypeIs (.ref I) "set_iterator" := ⟨_,h,rfl⟩
def PV(ys:List (Int × Value))(i:Nat)(v:Value):Prop:=∃ e,ys[i]? = some e/\v=e.2
theorem Fm.keep(x:Fm h I first i a n ep)(e:∀ o,h.get? I=some o->h'.get? I=some o):Fm h' I first i a n ep:=e _ x
theorem P4.keep(x:P4 h a es ep t)(e:∀ o,h.get? a=some o->h'.get? a=some o):P4 h' a es ep t:=let ⟨o,ho,r⟩:=x;⟨o,e _ ho,r⟩
end
end TS
namespace EF
open PySem PyProof.Rows
end EF
namespace TS
open PySem PySem.SetTable PyProof.Rows
end TS
namespace L2
open PySem PySem.Spec PyProof.Rows
section
variable {X:Cx}{pins:List (Addr × Obj)}{σ:St}{H:Hp}{s:Shared}
theorem Inv.drawn{d}(I:Inv X pins σ H s):Inv X pins σ H { s with drawn:=d }:=⟨I.ok,I.os,I.bare,I.base,I.loc,I.cell,I.free,I.kN,I.pin,I.aE,I.len⟩
end
end L2
namespace TS
open PySem PySem.SetTable PyProof.Rows
section
variable {prog:Program}{w:World}{K:Type}[DecidableEq K]{knd:KeyKind prog w K}
def ck'(knd:KeyKind prog w K)(p:K × Value):Int × Value:=(knd.hash p.1,p.2)
structure fq'(knd:KeyKind prog w K)(h:Heap)(a:Addr)(ks:List (K × Value)):Prop where
 ob:∃ o es ep t,h.get? a=some o/\o.ExactSet/\o.data=.set es ep t/\TI t es/\t.mask<=8191/\t.led=(!w.params.followText "set-order")/\es.toList=ks.map (ck' knd)
 nd:(ks.map (·.1)).Nodup
 is:∀ p∈ks,knd.is p.1 p.2=true
end
end TS
namespace L2
open PySem PySem.Spec PyProof.Rows
end L2
namespace L2.Q
open PySem PySem.Spec PyProof.Rows
end L2.Q
namespace L2.Q.R
open PySem PySem.Spec PyProof.Rows L2.Q
end L2.Q.R
namespace L2
open PySem PySem.Spec PyProof.Rows
end L2
namespace L2.Q
open PySem PySem.Spec PyProof.Rows
end L2.Q
namespace L2.Q.R
open PySem PySem.Spec PyProof.Rows L2.Q
end L2.Q.R
namespace L2.Q
open PySem PySem.Spec PyProof.Rows PySem.W
abbrev Vp:List Value:=[.type "ValueError",.type "Exception",.type "BaseException",.type "object"]
structure kD(K:PySem.W.Frag)(C:Addr):Prop where
 ex:excIn K C Vp "ValueError.__new__" = true
 gx:findIn K (.ref C) "__getattr__" = some none
 ga:findIn K (.ref C) "__getattribute__" = some (some (.builtin "BaseException.__getattribute__"))
 cl:findIn K (.ref C) "__class__" = some (some (.builtin "object.__class__"))
 ob:mroIn K C (.type "object")=some true
theorem kD.obj{K:PySem.W.Frag}(x:kD K C)(X:K.In h):∃ bm N nm q bs hdct sn sub ab col dd k0 k1 k2 k3 k5 mN,
  h.get? C=some (excClassObj nm q C N bs bm hdct sn sub ab col dd k0 k1 k2 k3 k5 "ValueError.__new__")/\h.Ns N mN/\mN "__init__" = none/\OwnTail h Vp bm:=by
 have q:=x.ex;unfold excIn at q;split at q
 ·rename_i dd cd sl ho;split at q
  ·rename_i C' bm k0 k1 k2 k3 n k5 hm hs;simp only[i6,beq_iff_eq,NJ] at q;obtain⟨⟨⟨⟨⟨e1,e2⟩,Vq⟩,ht⟩,aE⟩,xC⟩:=q;cases e1;cases e2;cases cd;dsimp only at hm Vq aE xC;cases hm;cases Vq;have hsl:sl = #[k0,k1,k2,k3,some (.builtin "ValueError.__new__"),k5]:=by cases sl;dsimp only at hs;rw[hs]
   cases hsl;exact⟨bm,_,_,_,_,_,_,_,_,_,dd,k0,k1,k2,k3,k5,_,X _ _ ho,.of_isNs (isNs_of_in X aE),nsMap_none_of_in X aE xC,tail_of_in X ht⟩
  ·cases q
 ·cases q
section
variable {prog:Program}{w:World}{A:Around}{E:Value->Shared->Prop}{h:Heap}{g:Array GenState}{d:Drawn}{t:Nat}{os:OsState}{a C:Addr}{o:Obj}{K:PySem.W.Frag}
theorem Bp{R:Result->Shared->Prop}(x:kD K C)(X:K.In h)(hx:h.get? a=some o)(hc:o.cls=.ref C)(hq:R (.ok (.ret (.ref C))) ⟨h,g,d,t,os⟩) :
  codeAny (model prog w) A (.call (.builtin "getset_descriptor.__get__") ⟨[.builtin "object.__class__",.ref a,.ref C],[]⟩) R ⟨h,g,d,t,os⟩:=by
 obtain⟨bm,N,nm,q,bs,hdct,sn,sub,ab,col,dd,k0,k1,k2,k3,k5,mN,hC,hN,xC,T⟩:=x.obj X;have Vr:(⟨h,g,d,t,os⟩:Shared).TypeIs (.builtin "object.__class__") "getset_descriptor" := F.typeOf_object_class;have Fn:(Value.ref C :: bm).contains (.type (".".intercalate ("object.__class__".cutAt '.').dropLast))=true:=by rw[F.owner_object_class,M0,T.hasType (X := "object") (b:=true) rfl];rfl
 refine codeAny_call_builtin F.slot_gs_get.plain F.entry_gs_get (F.slot_gs_get.check _ _ _ _ _ _ _ _ Vr (F.args_gs_get _ _ _) ?_);repeat (any_goals (first|assumption|(with_reducible refine wpAny_loadPart_at hx ?_;rw[hc])|(with_reducible refine wpAny_isSubtype_exc hC ?_;rw[Fn])|wp_step))
 refine⟨Code.quiet_builtin _ (by decide +kernel),codeAny_builtin F.entry_object_class ?_⟩;repeat (any_goals (first|assumption|(with_reducible refine wpAny_loadPart_at hx ?_;rw[hc])|wp_step))
theorem xT(x:kD K C)(X:K.In h)(hx:h.get? a=some o)(hc:o.cls=.ref C)(hq:Q (.done (.ret (.ref C))) ⟨h,g,d,t,os⟩) :
  wpAny (model prog w) A (Builtin.«object.__getattribute__» ⟨[.ref a,.str "__class__" tk],[]⟩) Q E ⟨h,g,d,t,os⟩:=by
 have Vr:(⟨h,g,d,t,os⟩:Shared).TypeIs (.builtin "object.__class__") "getset_descriptor" := F.typeOf_object_class;have f5:=F.typeOf_object_class;have f6:=F.slot_gs_get.lookup;have f7:=F.slot_gs_set.lookup;have Lk:=looks_findIn (M:=model prog w) X x.cl;repeat (any_goals (first|assumption|(with_reducible refine wpAny_loadPart_at hx ?_;rw[hc])|with_reducible refine Lk.at ?_|wp_step))
 refine Bp x X hx hc ?_;repeat (any_goals (first|assumption|wp_step))
theorem En(x:kD K C)(X:K.In h)(hx:h.get? a=some o)(hc:o.cls=.ref C)(hq:Q (.ref C) ⟨h,g,d,t,os⟩) :
  wpAny (model prog w) A (getAttrBy (.ref a) (.str "__class__" tk) false) Q E ⟨h,g,d,t,os⟩:=by
 have f3:=F.attr_ValueError.ga.bind (.ref a);have hx2:(Value.builtin "BaseException.__getattribute__" == Value.builtin "object.__getattribute__")=false:=by decide +kernel
 have Vs:(onTheHeap (Value.ref C) && Value.builtin "BaseException.__getattribute__" == Value.builtin "object.__getattribute__")=false:=by rw[hx2];rfl
 have Lk:=looks_findIn (M:=model prog w) X x.ga;have Lg:=looks_findIn (M:=model prog w) X x.gx;repeat (any_goals (first|assumption|(with_reducible refine wpAny_loadPart_at hx ?_;rw[hc])|with_reducible refine Lk.at ?_|with_reducible refine Lg.at ?_|wp_step))
 obtain⟨bm,N,nm,q,bs,hdct,sn,sub,ab,col,dd,k0,k1,k2,k3,k5,mN,hC,hN,xC,T⟩:=x.obj X;have hk:builtinKind "BaseException.__getattribute__" = some .slot:=by decide +kernel
 have hsplit:splitId "BaseException.__getattribute__" = some ("BaseException", "__getattribute__"):=by decide +kernel
 have Fn:(Value.ref C :: bm).contains (.type "BaseException")=true:=by rw[M0,T.hasType (X := "BaseException") (b:=true) rfl];rfl
 have chk:∀ {Q':Unit->Shared->Prop} {E':Value->Shared->Prop} {A':Around},Q' () ⟨h,g,d,t,os⟩->wpAny (model prog w) A' (checkBuiltinCall "BaseException.__getattribute__" ⟨[.ref a,.str "__class__" tk],[]⟩) Q' E' ⟨h,g,d,t,os⟩:=fun {Q' E' A'} hq'=>by
  have ha:=F.args_bexc_ga (.ref a) (.str "__class__" tk);simp only[checkBuiltinCall,hk,hsplit];refine bS ?_;unfold isInstance;repeat (first|(with_reducible refine wpAny_loadPart_at hx ?_;rw[hc])|(with_reducible refine wpAny_isSubtype_exc hC ?_;rw[Fn])|wp_step)
  exact hq'
 refine codeAny_call_builtin F.attr_ValueError.ga.plain F.entry_bexc_ga (chk (xT x X hx hc ?_));repeat (any_goals (first|assumption|wp_step))
theorem zW (x:kD K C) (X:K.In h) (hx:h.get? a=some o) (hc:o.cls=.ref C) (hq:Q (some (.ref C)) ⟨h,g,d,t+1,os⟩):wpAny (model prog w) A (getAttr? (.ref a) "__class__") Q E ⟨h,g,d,t,os⟩:=by unfold getAttr? getAttrBy?;repeat (any_goals (first|assumption|with_reducible apply En x X hx hc|wp_step))
end
def Vt(a C:Addr)(h:Heap):Prop:=∃ o,h.get? a=some o/\o.cls=.ref C
theorem kD.cp'{K:PySem.W.Frag}(x:kD K C)(X:K.In h):Looks M h (isType (.ref C)) true:=by obtain⟨bm,N,nm,q,bs,hdct,sn,sub,ab,col,dd,k0,k1,k2,k3,k5,mN,hC,hN,xC,T⟩:=x.obj X;intro A' Q' E' s' k q;unfold isType loadHead;exact bS (wpAny_loadPart (k _ _ hC) (dv q))
theorem wR{K:PySem.W.Frag}(x:kD K C):KitX K (.ref a) (.ref C) (Vt a C) where
 ty:=fun M h X p=>by obtain⟨o,h1,h2⟩:=p;exact h2 ▸ (Looks.ld h1).andThen .now
 it:=fun M h X p=>x.cp' X
 ne:=fun h tp dd its n sl X htp=>by obtain⟨bm,N,nm,q,bs,hdct,sn,sub,ab,col,dd,k0,k1,k2,k3,k5,mN,hC,hN,xC,T⟩:=x.obj X;refine Bool.eq_false_iff.mpr fun q=>?_;have e:C=tp:=Value.ref.inj (beq_iff_eq.mp q);subst e;have z:=congrArg (fun o=>o.map (·.data)) (hC.symm.trans htp);cases z
 ca:=fun {prog w A E Q s} X p k=>by obtain⟨h,g,d,t,os⟩:=s;obtain⟨o,h1,h2⟩:=p;exact zW x X h1 h2 k
theorem vP{K:PySem.W.Frag}{a C R:Addr}{os:OsState}(x:kD K C)(r:kD K R)(sub:mroIn K C (.ref R)=some true)(X:K.In h)(p:Vt a C h)(hq:Q true ⟨h,g,d,t,os⟩):wpAny M A (excMatches (.ref a) (.ref R)) Q E ⟨h,g,d,t,os⟩:=by
 obtain⟨bm,N,nm,q,bs,hdct,sn,ft',ab,col,dd,k0,k1,k2,k3,k5,mN,hC,hN,xC,T⟩:=r.obj X;obtain⟨oe,he,N9⟩:=p;have Fn:(Value.ref R :: bm).contains (.type "BaseException")=true:=by rw[M0,T.hasType (X := "BaseException") (b:=true) rfl];rfl
 have f:=tc_notTuple;have Lk:=looks_mroIn (M:=M) X sub;unfold excMatches;repeat (first|(with_reducible refine wpAny_loadPart_at he ?_;rw[N9])|with_reducible refine wpAny_loadPart_at hC ?_|(with_reducible refine wpAny_isSubtype_exc hC ?_;rw[Fn])|with_reducible refine Lk.at ?_|wp_step)
 exact hq
theorem FunFrames.rebase{h base B:Heap}:∀ {l:List PySem.Env},h.FunFrames base l->(∀ b∈dE l,B.get? b=none)->h.FunFrames B l
 |[],_,_=>trivial
 |env :: rest,⟨hk,⟨L,o,hf,hn,ho,hd⟩,hr⟩,hB=>⟨hk,⟨L,o,hf,hB L (by unfold dE;rw[sd,hf];exact fo),ho,hd⟩,
   FunFrames.rebase hr fun b hb=>hB b (by unfold dE;rw[sd,hf];exact dz _ hb)⟩
theorem fw.there{P:Program}(x:fw P w H h a o):∃ u,h.get? a=some u:=by
 cases o with
 |lst xs=>obtain⟨_,_,_,_,e⟩:=x;exact⟨_,e⟩
 |tup xs=>obtain⟨_,_,_,_,e,_⟩:=x;exact⟨_,e⟩
 |dK ah=>obtain⟨_,_,_,_,o,_,_,e,_⟩:=x;exact⟨_,e⟩
 |dT ah=>obtain⟨_,_,_,_,o,_,_,e,_⟩:=x;exact⟨_,e⟩
 |set S n=>obtain⟨o,_,_,_,e,_⟩:=x;exact⟨_,e⟩
 |ins C dx fs=>obtain⟨_,_,_,e,_⟩:=x;exact⟨_,e⟩
 |own y=>exact x
 |xd fs=>obtain⟨_,⟨_,_,_,e,_⟩,_⟩:=x;exact⟨_,e⟩
 |HC lo hi=>obtain⟨_,_,_,e⟩:=x;exact⟨_,e⟩
 |kG ob u=>obtain⟨e,_⟩:=x;exact⟨_,e⟩
 |ya ps=>exact⟨_,(show h.get? a=some _ from x)⟩
 |met f y=>exact⟨_,(show h.get? a=some _ from x)⟩
 |ext φ=>obtain⟨_,e,_⟩:=x;exact e
def rq(B:Heap)(fs:List Addr)(H':Hp)(h₀ h:Heap):Prop:=∀ b o,h.get? b=some o->(H' b≠none\/h₀.get? b≠none)->b∉fs->B.get? b=some o
def fN(P:Program)(w:World)(mg:Str->Option Value)(rn:List Str):wm:=fun outer H s E e s' =>
 ∃ a n C a0 H' B,e=.ref a/\(n∈rn/\mg n=some (.ref C))/\s'.os=s.os/\AllBare s'.gens/\Un (dE outer) [] H H' s.heap s'.heap/\fR P w H' s'.heap /\
  Heap.FlyingW B outer a (.ref C) a0 s'.heap/\rq B (dE outer) H' s.heap s'.heap/\(∀ b∈dE outer,H' b=none)/\E (.ref C) none H'
structure gj(fs:List Addr)(H':Hp)(h₀ h h':Heap):Prop where
 keep:∀ b o,h.get? b=some o->(H' b≠none\/h₀.get? b≠none)->b∉fs->h'.get? b=some o
 slot:∀ b o,h.get? b=some o->b∈fs->∃ sl,h'.get? b=some { o with slots:=sl }
theorem gj.of{B:Heap}(c:rq B (dE l) H' h₀ h)(st:B.StaysIn h')(up:h.UpToSlots h')(ff:h.FunFrames base l):gj (dE l) H' h₀ h h' :=
 ⟨fun b o e k n=>st b o (c b o e k n),fun b o e m=>by
  obtain⟨_,o',e',d⟩:=ff.mem m;rw[e] at e';cases e';exact up b o e d⟩
theorem gj.trans(a:gj fs H' h₀ h h1)(b:gj fs H' h₀ h1 h2):gj fs H' h₀ h h2 :=
 ⟨fun x o e k n=>b.keep x o (a.keep x o e k n) k n,fun x o e m=>by
  obtain⟨_,e1⟩:=a.slot x o e m;obtain⟨sl,e2⟩:=b.slot x _ e1 m;exact⟨sl,e2⟩⟩
theorem gj.un(m:gj fs H' h₀ h h')(u:Un fs [] H H' h₀ h):Un fs [] H H' h₀ h' where
 keep:=fun b o e n nb nx=>m.keep b o (u.keep b o e n nb nx) (.inr (by rw[e];exact fun z=>nomatch z)) nb
 slot:=fun b o e n hb nx=>by obtain⟨_,e1⟩:=u.slot b o e n hb nx;obtain⟨sl,e2⟩:=m.slot b _ e1 hb;exact⟨sl,e2⟩
 free:=u.free
 there:=fun b o e nx=>by
  obtain⟨o',e1⟩:=u.there b o e nx;by_cases hb:b∈fs
  ·obtain⟨sl,e2⟩:=m.slot b o' e1 hb;exact⟨_,e2⟩
  ·exact⟨o',m.keep b o' e1 (.inr (by rw[e];exact fun z=>nomatch z)) hb⟩
 gE:=u.gE
 lh:=u.lh
 mI:=u.mI
theorem gj.aE{P:Program}(m:gj fs H' h₀ h h')(f:∀ b∈fs,H' b=none)(x:fR P w H' h):fR P w H' h':=fun a o e =>
 (x a o e).fF (fun b u hb q=>by
  have hH:H' b≠none:=by
   rcases hb with z|z
   ·rw[z,e];exact fun z=>nomatch z
   ·rw[z];exact fun z=>nomatch z
  exact m.keep b u q (.inl hH) fun z=>hH (f b z)) (fun _ q=>q) fun _ _ q=>q
section
variable {X:Cx}{pins:List (Addr × Obj)}{σ:St}{H H':Hp}{s:Shared}{e:Value}
theorem rq.up{B h h':Heap}(kr:X.stack=X.env :: X.outer)(hf:X.env.frame=some X.env.locals)(hex:X.ex=[])(I:Inv X pins σ H s)(un:Un (dE X.stack) [] H H' s.heap h)(c:rq B (dE X.stack) H' s.heap h)(m:gj (dE X.stack) H' s.heap h h')(fr:∀ b∈dE X.stack,H' b=none)(aE:fR X.prog X.w H' h) :
  Un X.fs [] X.nv H' X.df.heap h'/\rq B X.fs H' X.df.heap h':=by
 have hs:∀ b,b∈dE X.stack↔b=X.env.locals\/b∈X.fs:=fun b=>by rw[kr];unfold dE;rw[sd,hf];exact eK
 have DL:∀ b o,X.df.heap.get? b=some o->b≠X.env.locals:=fun b o e=>i3 (kl (eR e) I.ok.above);have B5:∀ b:Addr,b∉X.ex:=fun b z=>by rw[hex] at z;exact nomatch z
 have m':=m.un un;have th:∀ b o,X.df.heap.get? b=some o->∃ o',s.heap.get? b=some o':=fun b o e=>I.base.there b o e (B5 b);refine⟨⟨fun b o e n nb nx=>?_,fun b o e n hb nx=>?_,fun b o e n nx=>?_,fun b o e nx=>?_,fun b xs e=>un.gE b xs (I.base.gE b xs e),fun b ob u e=>un.lh b ob u (I.base.lh b ob u e),fun b ps e=>?_⟩,fun b o e k nb=>?_⟩
 ·exact m'.keep b o (I.base.keep b o e n nb (B5 b)) (I.base.free b o e n (B5 b)) (fun z=>((hs b).mp z).elim (DL b o e) nb) (by simp)
 ·obtain⟨_,e1⟩:=I.base.slot b o e n hb (B5 b);obtain⟨sl,e2⟩:=m'.slot b _ e1 (I.base.free b o e n (B5 b)) ((hs b).mpr (.inr hb)) (by simp);exact⟨sl,e2⟩
 ·obtain⟨o',e1⟩:=th b o e;exact un.free b o' e1 (I.base.free b o e n (B5 b)) (by simp)
 ·obtain⟨o',e1⟩:=th b o e;exact m'.there b o' e1 (by simp)
 ·obtain⟨m1,e1⟩:=I.base.mI b ps e;obtain⟨m2,e2⟩:=un.mI b _ e1;exact⟨m1++m2,by rw[e2,NR]⟩
 ·have key:∀ o',h.get? b=some o'->(H' b≠none\/s.heap.get? b≠none)->b∉dE X.stack->B.get? b=some o:=fun o' e' k' n'=>by have:=m.keep b o' e' k' n';rw[e] at this;cases this;exact c b o e' k' n'
  rcases k with k|k
  ·have nf:b∉dE X.stack:=fun z=>k (fr b z)
   cases q:H' b with
   |none=>exact absurd q k
   |some u =>obtain⟨o',e'⟩:=fw.there (aE b u q);exact key o' e' (.inl k) nf
  ·cases q:X.df.heap.get? b with
   |none=>exact absurd q k
   |some o0 =>obtain⟨o1,e1⟩:=th b o0 q;obtain⟨o2,e2⟩:=un.there b o1 e1 (by simp);exact key o2 e2 (.inr (by rw[e1];exact fun z=>nomatch z)) fun z=>((hs b).mp z).elim (DL b o0 q) nb
end
section
variable {P:Program}{w:World}{K:PySem.W.Frag}{mg:Str->Option Value}{base:Heap}{N:List Str}{qual:Str}{scope:Scope}{f:Addr}{cd:Value}{A:Around}{outer:List PySem.Env}{df:Shared}{nv:Hp}{E:XK}{rn:List Str}
theorem yN(hf:env.frame=some L)(h:b∈dE l):b∈dE (env :: l):=by unfold dE;rw[sd,hf];exact dz _ h
theorem vN:Passes (fN P w mg rn) (i9 (fN P w mg rn) P w K mg base N qual scope f cd A outer df nv E) E:=by intro pins σ H s e s' I hx;obtain⟨a,n,C,a0,H',B,he,hn,os,bare,un,aE,qo,cov,fr,hE⟩:=hx;subst he;refine wpAny_leaves_onW I.ok.frames rfl qo fun h' Vu up=>?_;have mv:=gj.of cov Vu.1 up qo.2.2.1;obtain⟨u1,c1⟩:=rq.up (X:=i9 (fN P w mg rn) P w K mg base N qual scope f cd A outer df nv E) rfl rfl rfl I un cov mv fr aE;exact⟨a,n,C,a0,H',B,rfl,hn,os.trans I.os,bare,u1,mv.aE fr aE,Vu,c1,fun b hb=>fr b (yN rfl hb),hE⟩
def uT(X:Cx)(rn:List Str)(E:XK):Prop:=∀ (pins:List (Addr × Obj)) (σ:St) (H:Hp) (s:Shared) (h':Heap) (e:Addr) (n:Str) (C:Addr) (vs:List Value),Inv X pins σ H s->Heap.MadeExcOf s.heap h' e (.ref C) vs ->
 n∈rn->X.mg n=some (.ref C)->E (.ref C) none H->X.xe (.ref e) { s with heap:=h' }
theorem qJ:uT (i9 (fN P w mg rn) P w K mg base N qual scope f cd A outer df nv E) rn E:=by
 intro pins σ H s h' e n C vs I hx hn hm hE;have st:=I.stack;have ff:s.heap.FunFrames (hideAll s.heap (dE (envOfC qual scope df.heap.objs.size f cd :: outer))) (envOfC qual scope df.heap.objs.size f cd :: outer):=FunFrames.rebase st fun b hb=>hideAll_none _ hb;refine wpAny_leaves_madeW (h:=s.heap) I.ok.frames rfl (fun b o q=>of_hideAll _ q) ff hx fun h'' t qo tup hnt up=>?_;have ff':h'.FunFrames (hideAll s.heap (dE (envOfC qual scope df.heap.objs.size f cd :: outer))) (envOfC qual scope df.heap.objs.size f cd :: outer):=ff.of_keeps fun b o q _=>⟨o,hx.keeps b o q,rfl⟩
 have aE:fR P w H h':=I.aE.kept hx.keeps;have fr:∀ b∈dE (envOfC qual scope df.heap.objs.size f cd :: outer),H b=none:=I.NX;have cov:rq (hideAll s.heap (dE (envOfC qual scope df.heap.objs.size f cd :: outer))) (dE (envOfC qual scope df.heap.objs.size f cd :: outer)) H s.heap h':=fun b o q k nb=>by
  have ho:∃ o1,s.heap.get? b=some o1:=by
   rcases k with k|k
   ·cases z:H b with
    |none=>exact absurd z k
    |some u=>exact fw.there (I.aE b u z)
   ·exact DF.mp k
  obtain⟨o1,e1⟩:=ho;have e2:=hx.keeps b o1 e1;rw[q] at e2;cases e2;exact hideAll_get _ e1 nb
 have mv:gj (dE (envOfC qual scope df.heap.objs.size f cd :: outer)) H s.heap h' h'':=gj.of cov qo.1 up ff';obtain⟨u1,c1⟩:=rq.up (X:=i9 (fN P w mg rn) P w K mg base N qual scope f cd A outer df nv E) rfl rfl rfl I (Un.kept hx.keeps) cov mv fr aE;exact⟨e,n,C,_,H,_,rfl,⟨hn,hm⟩,I.os,I.bare,u1,mv.aE fr aE,qo,c1,fun b hb=>fr b (yN rfl hb),hE⟩
theorem JD{X:Cx}:Passes (fN P w mg rn) X E0:=by intro _ _ _ _ _ _ _ hx;obtain⟨_,_,_,_,_,_,_,_,_,_,_,_,_,_,_,h⟩:=hx;exact h.elim
def LX(rn:List Str)(mg:Str->Option Value)(E:XK):Str->Hp->Prop:=fun n H'=>n∈rn->∀ C,mg n=some (.ref C)->E (.ref C) none H'
def dh(K:PySem.W.Frag)(rn:List Str)(mg:Str->Option Value)(sp:dS):Sp:=fun vs H Qv E=>∃ ds Qd,aS K H ds vs/\sp ds Qd /\ (∀ v H' ai m d As,ay H ai->Wf ai H'->RM K ai H' m d v As->As.Nodup->(∀ a∈As,ai a=none)->Qd m d->Qv v H') /\
 ∀ n H',ay H H'->Qd (.ow false) (.str n)->LX rn mg E n H'
theorem yl(h:dh K rn mg sp vs H Qv E)(hp:∀ ds Q,sp ds Q->t { nx:=fun _=>Q .sh .non,rt:=Q } (aO N.length ds)) :
  sQ K (LX rn mg E) t { nx:=fun _ H'=>Qv .non H',rt:=Qv } (start N vs) H:=by
 obtain⟨ds,Qd,rs,hs,fin,fx⟩:=h;have hl:=rs.length;refine⟨H,aO N.length ds,[],{ nx:=fun _=>Qd .sh .non,rt:=Qd },⟨?_,⟨ay.refl _,fun _ _ e=>e⟩,mz,fun a h=>nomatch h⟩,hp ds Qd hs,?_,?_,?_,?_,fx⟩
 ·unfold aO start;rw[hl];exact SR.start rs
 ·exact fun bE H' ai b9 bX s sr q=>fin .non H' ai .sh .non [] s sr.wf ⟨rfl,.non⟩ mz (fun a h=>nomatch h) q
 ·exact fun bE H' ai b9 bX s sr q=>q.elim
 ·exact fun bE H' ai b9 bX s sr q=>q.elim
 ·exact fun v H' ai m d As s w r nd own q=>fin v H' ai m d As s w r nd own q
theorem y0.ok{st:Stmt}{ps:List Str}(F:dQ K x qual st f fd)(S:ft N ps (aT st))(len:∀ ds Q,sp ds Q->ds.length=ps.length)(wo:∀ (bT:Value) (A:Around) (outer:List PySem.Env) (s:Shared) (H:Hp) (E:XK),fe k (A.deeper (envOfC qual (aT st) s.heap.objs.size f bT))->lT (i9 (fN P w mg rn) P w K mg base N qual (aT st) f bT A outer s H E) K (LX rn mg E) (ek st) t)(hp:∀ ds Q,sp ds Q->t { nx:=fun _=>Q .sh .non,rt:=Q } (aO N.length ds)):dA P w K mg base (fN P w mg rn) (k+1) f fd ps (dh K rn mg sp):=by
 obtain⟨oc,od,kV,doc,pm,an,bT,ct,zS,rfl,lk,jI⟩:=F.ex;exact Uq lk jI S (fun vs H Q E ⟨ds,Qd,rs,hs,_⟩=>by rw[<- rs.length];exact len ds Qd hs) fun A outer s H vs Q E hr tT=>⟨_,wo bT A outer s H E hr,yl tT hp⟩
structure gL(P:Program)(w:World)(K:PySem.W.Frag)(mg:Str->Option Value)(base:Heap)(rn:List Str)(k:Nat)(x:Str)(ps:List Str)(sp:dS):Prop where
 ex:∃ (g:Addr) (fd:FuncData),mg x=some (.ref g)/\PySem.W.keepIn K (.ref g)=true/\Binds K fd ps []/\dA P w K mg base (fN P w mg rn) k g fd ps (dh K rn mg sp)
theorem dQ.y1{st:Stmt}{ps:List Str}(F:dQ K x qual st f fd)(hm:mg x=some (.ref f))(ok:dA P w K mg base (fN P w mg rn) k f fd ps (dh K rn mg sp))(h:∀ (kV doc pm:Value) (an:Option Addr) (bT ct:Value) (us:List Value),us.length=ps.length->bindArgs (PySem.W.fnOf x qual (fh st) (ek st) (aT st) .none kV doc pm an bT ct) ⟨us,[]⟩=pure (ps.zip us)):gL P w K mg base rn k x ps sp:=⟨f,fd,hm,F.kp,F.binds h,ok⟩
end
def P5(K:PySem.W.Frag)(mg:Str->Option Value)(n:Str):Prop:=∃ C,mg n=some (.ref C)/\kD K C
def kb(m:Md)(d:D)(Y:Str->Prop)(N:Prop):Prop:=match m,d with
 |.ow false,.str n=>Y n
 |_,_=>N
theorem Ag{K:PySem.W.Frag}(r:RM K Hs H m d v As)(h:kb m d Y N):N:=by
 unfold kb at h;split at h
 ·obtain⟨r,ne⟩:=r;cases r;exact absurd rfl ne
 ·exact h
section
variable {X:Cx}{K:PySem.W.Frag}{rn:List Str}{E:XK}{e:Expr}{es:List Expr}{te:WE}{t:WA}{pos:Pos}
def lX(n:Str)(te:WE):WS:=fun E ρ=>te ρ fun _ _=>E.rt (.ow false) (.str n)
theorem Ca (hc:X.calm=true) (ok:uT X rn E) (hn:x∈rn) (hm:X.mg x=some (.ref C)) (xc:kD X.K C) (ha:PA X [e] ta) (hg:Gl X x) (fz:(x == ("__debug__" : Str))=false)(he:starEach [e] X.env=[(false,eval e X.env)]):PS X (.Raise (some (.Call (.Name x np) [e] [] eh)) none pos) (fun D σ H=>ta σ H fun vs H1=>vs.length<=sizeLine/\E (.ref C) none H1):=by
 intro pins s σ H D I h;obtain⟨bm,N,nm,q,bs,hdct,sn,sub,ab,col,dd,k0,k1,k2,k3,k5,mN,hC,hN,xC,T⟩:=xc.obj I.mod.DI;refine wpAny_Raise_call_subT (C:=C) (nm:=nm) (q:=q) (N:=N) (bs:=bs) (bm:=bm) (hdct:=hdct) (sn:=sn) (sub:=sub) (ab:=ab) (col:=col) (dd:=dd) (k0:=k0) (k1:=k1) (k2:=k2) (k3:=k3) (k5:=k5)
  F.excBase_ValueError (mN:=mN) (T.hasType F.excBase_ValueError.hasBase) (I.ok.hd hc) (by rw[he];rfl) xC (DS I hg hm ⟨rfl,?_⟩ fz)
 have h2:=ha eh pins s σ H _ I h;rw[he] at h2 ⊢;exact Calls.evalArgs_plain (cf h2 fun vs s1 ⟨xs,H1,I1,r,hl,q⟩=>⟨rfl,by rw[<- r.length];exact hl,I1.bk _ _ hC,hN.keeps I1.bk,T.keeps I1.bk,fun h' e' hx=>ok pins σ H1 s1 h' e' x C vs I1 hx hn hm q⟩)
theorem i_ (hc:X.calm=true) (ok:uT X rn E) (xc:P5 K X.mg x) (hn:x∈rn) (he:QE X K e te) (hg:Gl X x:=by rfl) (fz:(x == ("__debug__" : Str))=false:=by decide) (hK:X.K=K:=by rfl) (hs:starEach [e] X.env=[(false,eval e X.env)]:=by rfl):QS X K (LX rn X.mg E) (.Raise (some (.Call (.Name x np) [e] [] eh)) none pos) (lX x te):=by
 subst hK;obtain⟨C,hm,xc⟩:=xc;refine PS.imp (Ca hc ok hn hm xc (iA he lI hs) hg fz hs) fun D σ H hx=>iM hx fun Hs ρ ae E' sr h k1 k2 k3 k4 kx=>?_;exact⟨Hs,ρ,ae,_,sr,h,fun v H1 aw m d As g1 r1 f1 q1=>⟨(by decide:1<=sizeLine),kx x H1 (g1.sh.trans g1.wf.sub) q1 hn C hm⟩⟩
section
variable {k:Nat}{x:Str}{ps:List Str}{sp:dS}{p eh:Pos}
theorem sW (C:gL X.prog X.w X.K X.mg X.base rn k x ps sp) (hr:fe k X.A) (hx:Passes (fN X.prog X.w X.mg rn) X E) (ha:PA X (e :: es) ta) (hg:Gl X x) (fz:(x == ("__debug__" : Str))=false) (he:starEach (e :: es) X.env=(false,eval e X.env) :: starEach es X.env)(gy:(backTo pos (starEach es X.env)).any (·.1)=false):PE X (.Call (.Name x p) (e :: es) [] pos) (zI (dh X.K rn X.mg sp) [] E ta):=by
 obtain⟨g,fd,hm,hk,hb,F⟩:=C.ex;exact Uh F hr hg hm hk hb .nil hx ha fz he gy
theorem jf{σ:St}{H:Hp}{Qv:VK}{Hs:Hp}{ρ:Env}{ae:List Addr}{Y:Str->Prop}{Q:Md->D->Prop}(sr:cS K Hs ρ σ H ae)(h:t ρ fun ps=>sp (ps.map (·.2)) fun m d=>kb m d Y (bp (m,d) (f:=fun p=>Q (oi p.1 p.2) p.2) ⟨⟩)) (f:∀ v H' ai m d As,eu Hs H ai H'->RM K ai H' m d v As->dU ai H As->Q m d->Qv v H') (fx:∀ n H',ay Hs H'->Y n->LX rn X.mg E n H'):zI (dh K rn X.mg sp) [] E (LB K t) σ H Qv:=by
 refine⟨Hs,ρ,ae,_,sr,h,fun vs H1 aw ps As g1 r1 f1 q1=>?_⟩;refine⟨_,_,by rw[kX];exact r1.reps g1.wf,q1,fun v H' ai m d As s w r nd own q=>?_,fun n H' s q=>fx n H' (g1.sh.trans (g1.wf.sub.trans s)) q⟩;obtain⟨fv,r',fr⟩:=oA g1.wf s w r nd own;exact Fin.after f g1 v H' _ (oi m d) d fv (fH g1.wf s w) r' fr (Ag r q)
def uO(sp:dS)(t:WA):WE:=fun ρ Q=>t ρ fun ps=>sp (ps.map (·.2)) fun m d=>kb m d (fun _=>False) (bp (m,d) (f:=fun p=>Q (oi p.1 p.2) p.2) ⟨⟩)
def xx(sp:dS)(t:WA):WS:=fun E ρ=>t ρ fun ps=>sp (ps.map (·.2)) fun m d=>kb m d (fun n=>E.rt (.ow false) (.str n)) (bp (m,d) (f:=fun _=>E.nx ρ) ⟨⟩)
def Bk(sp:dS)(t:WA):WS:=fun E ρ=>t ρ fun ps=>sp (ps.map (·.2)) fun m d=>kb m d (fun n=>E.rt (.ow false) (.str n)) (bp (m,d) (f:=fun p=>E.rt (oi p.1 p.2) p.2) ⟨⟩)
variable (C:gL X.prog X.w X.K X.mg X.base rn k x ps sp)(hr:fe k X.A)
include C hr
theorem zM (ha:QA X K (e :: es) t) (hK:X.K=K:=by rfl) (hg:Gl X x:=by rfl) (fz:(x == ("__debug__" : Str))=false:=by decide) (he:starEach (e :: es) X.env=(false,eval e X.env) :: starEach es X.env:=by rfl) (gy:(backTo pos (starEach es X.env)).any (·.1)=false:=by rfl):QE X K (.Call (.Name x p) (e :: es) [] pos) (uO sp t):=by
 subst hK;exact PE.imp (sW C hr JD ha hg fz he gy) fun σ H Qv h=>gX h fun Hs ρ ae Q sr h f=>jf sr h f fun n H' _ z=>z.elim
variable (hx:Passes (fN X.prog X.w X.mg rn) X E)
include hx
theorem wG (ha:QA X K (e :: es) t) (hs:swapsWith (.Call (.Name x p) (e :: es) [] eh) none pos.line X.env=pure false:=by rfl) (hK:X.K=K:=by rfl) (hg:Gl X x:=by rfl) (fz:(x == ("__debug__" : Str))=false:=by decide) (he:starEach (e :: es) X.env=(false,eval e X.env) :: starEach es X.env:=by rfl) (gy:(backTo eh (starEach es X.env)).any (·.1)=false:=by rfl):QS X K (LX rn X.mg E) (.Expr (.Call (.Name x p) (e :: es) [] eh) pos) (xx sp t):=by
 subst hK;exact PS.imp (HZ (sW C hr hx ha hg fz he gy) hs) fun D σ H hx=>iM hx fun Hs ρ ae E' sr h k1 k2 k3 k4 kx=>jf (Q:=fun _ _=>E'.nx ρ) sr h (fun v H1 aw m d As g1 r1 f1 q1=>k1 σ H1 aw ρ ae g1.sh (sr.grow g1) q1) kx
theorem yR (ha:QA X K (e :: es) t) (hK:X.K=K:=by rfl) (hg:Gl X x:=by rfl) (fz:(x == ("__debug__" : Str))=false:=by decide) (he:starEach (e :: es) X.env=(false,eval e X.env) :: starEach es X.env:=by rfl) (gy:(backTo eh (starEach es X.env)).any (·.1)=false:=by rfl):QS X K (LX rn X.mg E) (.Return (some (.Call (.Name x p) (e :: es) [] eh)) pos) (Bk sp t):=by
 subst hK;exact PS.imp (zo (sW C hr hx ha hg fz he gy)) fun D σ H hx=>iM hx fun Hs ρ ae E' sr h k1 k2 k3 k4 kx=>jf (Q:=E'.rt) sr h (fun v H1 aw m d As g1 r1 f1 q1=>k4 v H1 aw m d As g1.sh g1.wf r1 f1.1 (fun a ha=>(f1.2 a ha).1) q1) kx
end
def AV(j:Nat)(a:Addr)(b:Bool):WE:=fun ρ Q=>ρ[j]? = some (some (.xc a))/\Q .sh (.bl b)
theorem Dk (hm:X.mg "isinstance" = none) (hp:(a,oe)∈X.pn) (ky:oe.cls=.ref C) (xc:kD X.K C) (hk:kitOne X.K (.ref C) c=some b) (he:PE X e (sv j)) (ht:PE X e2 (tC vc)) (hvc:∀ u,RelV vc u->u=c)(hg:Gl X "isinstance" := by rfl) (hs:starEach (e :: [e2]) X.env=(false,eval e X.env) :: starEach [e2] X.env:=by rfl) (nE:starEach (e2 :: []) X.env=(false,eval e2 X.env) :: starEach [] X.env:=by rfl) (gy:(backTo pos (starEach [e2] X.env)).any (·.1)=false:=by rfl) :
  QE X K (.Call (.Name "isinstance" p) [e,e2] [] pos) (AV j a b):=by
 have hc:h8 X (.builtin "isinstance") (fun xs H Q=>xs=[.ref a,vc]/\Q (.bl b) H):=by intro pins s σ H xs us Q I r h;obtain⟨rfl,q⟩:=h;obtain⟨u,v,rfl,ru,rv⟩:=Vals.two r;obtain rfl:u=Value.ref a:=ru;obtain rfl:=hvc v rv;obtain⟨ho,_⟩:=I.pin (a,oe) (js _ hp);exact kia_one (wR xc) I.gS ⟨oe,ho,ky⟩ hk (fun z=>nomatch z) fun tk=>⟨.bl b,H,I.tok tk,rfl,q⟩
 refine PE.imp (D1 hc hg hm ik (iA he (iA ht lI nE) hs) (by decide) (by decide) hs gy) fun σ H Qv hx=>gX hx fun Hs ρ ae Q sr h f=>?_;obtain⟨ea,q⟩:=h;obtain⟨v,e1,r⟩:=sr.sr.get ea;have r:v=V.ref a:=r;subst r;exact⟨_,e1,rfl,Fin.sh f sr.wf (.bl _) q⟩
end
abbrev lR(X:Cx)(pn:List (Addr × Obj))(xe:Value->Shared->Prop):Cx:={ X with pn:=pn,xe:=xe }
abbrev xD(X:Cx)(pn:List (Addr × Obj))(a:Addr):Cx:={ X with A:=X.A.mark (some (.ref a)),calm:=false,pn:=pn,xe:=fun _ _=>False }
abbrev Es(X:Cx)(H:Hp)(s:Shared)(p:Addr × Obj):Prop:=s.heap.get? p.1=some p.2/\H p.1=none/\p.1≠X.env.locals/\p.1∉X.fs/\∀ v,p.2.data≠.cell v
section
variable {X:Cx}{pins kH pn:List (Addr × Obj)}{σ:St}{H:Hp}{s:Shared}{xe:Value->Shared->Prop}{a:Addr}
theorem Inv.lR(I:Inv X pins σ H s)(h:∀ p∈pn++kH,Es X H s p):Inv (lR X pn xe) kH σ H s :=
 ⟨⟨I.ok.mod,I.ok.kind,I.ok.glob,I.ok.blt,I.ok.above,I.ok.inj,I.ok.has,I.ok.tF,I.ok.hd,I.ok.frames,I.ok.vT,I.ok.sj,I.ok.bs,I.ok.ny,I.ok.tI,I.ok.sq,I.ok.lj,I.ok.px⟩,I.os,I.bare,I.base,I.loc,I.cell,I.free,I.kN,h,I.aE,I.len⟩
theorem Inv.qm(I:Inv (L2.Q.lR X pn xe) kH σ H s)(h:∀ p∈X.pn++pins,p∈pn++kH):Inv X pins σ H s :=
 ⟨⟨I.ok.mod,I.ok.kind,I.ok.glob,I.ok.blt,I.ok.above,I.ok.inj,I.ok.has,I.ok.tF,I.ok.hd,I.ok.frames,I.ok.vT,I.ok.sj,I.ok.bs,I.ok.ny,I.ok.tI,I.ok.sq,I.ok.lj,I.ok.px⟩,I.os,I.bare,I.base,I.loc,I.cell,I.free,I.kN,fun p hp=>I.pin p (h p hp),I.aE,I.len⟩
theorem Inv.xD(I:Inv (L2.Q.lR X pn xe) kH σ H s)(h:∀ p∈pn2++cv',Es X H s p):Inv (L2.Q.xD X pn2 a) cv' σ H s :=
 ⟨⟨I.ok.mod,I.ok.kind,I.ok.glob,I.ok.blt,I.ok.above,I.ok.inj,I.ok.has,I.ok.tF,(fun z=>nomatch z),I.ok.frames,I.ok.vT,I.ok.sj,I.ok.bs,I.ok.ny,I.ok.tI,I.ok.sq,I.ok.lj,I.ok.px⟩,I.os,I.bare,I.base,I.loc,I.cell,I.free,I.kN,h,I.aE,I.len⟩
theorem Inv.HW(I:Inv (L2.Q.lR X pn xe) pins σ H s):Inv (L2.Q.lR X pn xe2) pins σ H s :=
 ⟨⟨I.ok.mod,I.ok.kind,I.ok.glob,I.ok.blt,I.ok.above,I.ok.inj,I.ok.has,I.ok.tF,I.ok.hd,I.ok.frames,I.ok.vT,I.ok.sj,I.ok.bs,I.ok.ny,I.ok.tI,I.ok.sq,I.ok.lj,I.ok.px⟩,I.os,I.bare,I.base,I.loc,I.cell,I.free,I.kN,I.pin,I.aE,I.len⟩
theorem Inv.Ae(I:Inv (L2.Q.xD X pn a) kH σ H s)(hd:X.calm=true->X.A.handled=none)(h:∀ p∈X.pn++pins,p∈pn++kH):Inv X pins σ H s :=
 ⟨⟨I.ok.mod,I.ok.kind,I.ok.glob,I.ok.blt,I.ok.above,I.ok.inj,I.ok.has,I.ok.tF,hd,I.ok.frames,I.ok.vT,I.ok.sj,I.ok.bs,I.ok.ny,I.ok.tI,I.ok.sq,I.ok.lj,I.ok.px⟩,I.os,I.bare,I.base,I.loc,I.cell,I.free,I.kN,fun p hp=>I.pin p (h p hp),I.aE,I.len⟩
theorem SP.qm{D:Ends}(h:SP (L2.Q.lR X pn xe) kH D f s)(hp:∀ p∈X.pn++pins,p∈pn++kH):SP X pins D f s:=by
 cases f with
 |next=>obtain⟨bE,H',I,q⟩:=h;exact⟨bE,H',Inv.qm I hp,q⟩
 |brk=>obtain⟨bE,H',I,q⟩:=h;exact⟨bE,H',Inv.qm I hp,q⟩
 |cont=>obtain⟨bE,H',I,q⟩:=h;exact⟨bE,H',Inv.qm I hp,q⟩
 |ret u=>obtain⟨v,bE,H',I,r,q⟩:=h;exact⟨v,bE,H',Inv.qm I hp,r,q⟩
theorem Inv.forget(I:Inv X pins σ H s)(hn:h'.Ns X.env.locals m)(hs:Heap.SameBut X.env.locals s.heap h'):Inv X pins (List.replicate X.N.length none) H { s with heap:=h',toks:=t }:=by
 have ne:∀ b o,X.df.heap.get? b=some o->b≠X.env.locals:=fun b o e=>i3 (kl (eR e) I.ok.above);refine⟨I.ok,I.os,I.bare,⟨fun b o e n hb hx=>(hs.2 b (ne b o e)).trans (I.base.keep b o e n hb hx),fun b o e n hb hx=>?_,I.base.free,fun b o e hx=>?_,I.base.gE,I.base.lh,I.base.mI⟩,⟨m,hn,fun i x v e1 e2=>?_⟩,fun x c e=>?_,I.free,I.kN,fun p hp=>?_,fun b o e=>?_,x4⟩
 ·obtain⟨sl,e1⟩:=I.base.slot b o e n hb hx;exact⟨sl,(hs.2 b (ne b o e)).trans e1⟩
 ·obtain⟨o',e1⟩:=I.base.there b o e hx;exact⟨o',(hs.2 b (ne b o e)).trans e1⟩
 ·rw[GB] at e2;split at e2<;>cases e2
 ·obtain⟨v,z⟩:=I.cell x c e;exact⟨v,z.sameBut hs (I.wa x c e)⟩
 ·obtain⟨e,n,nl,nf,d⟩:=I.pin p hp;exact⟨(hs.2 p.1 nl).trans e,n,nl,nf,d⟩
 ·refine(I.aE b o e).fF (fun c u hc q=>(hs.2 c ?_).trans q) (fun _ q=>q) fun _ _ q=>q;intro z;rcases hc with w|w
  ·rw[<- w,z,I.free] at e;cases e
  ·rw[z,I.free] at w;cases w
end
theorem rq.next{P:Program}{B:Heap}(c:rq B fs H' h₀ h)(m:gj fs H' h₀ h h')(aE:fR P w H' h)(th:∀ b o,h₀.get? b=some o->∃ o',h.get? b=some o'):rq B fs H' h₀ h':=fun b o e k nb=>by
 have ho:∃ o',h.get? b=some o':=by
  rcases k with k|k
  ·cases z:H' b with
   |none=>exact absurd z k
   |some u=>exact fw.there (aE b u z)
  ·obtain⟨o0,e0⟩:=DF.mp k;exact th b o0 e0
 obtain⟨o',e'⟩:=ho;have e2:=m.keep b o' e' k nb;rw[e] at e2;cases e2;exact c b o e' k nb
structure Hm(K:PySem.W.Frag)(mg:Str->Option Value)(rn:List Str)(R:Str):Prop where
 ex:∃ r,mg R=some (.ref r)/\kD K r/\∀ n C,n∈rn->mg n=some (.ref C)->kD K C/\mroIn K C (.ref r)=some true
end L2.Q
namespace L2.Q
open PySem PySem.Spec PyProof.Rows
theorem sX:bootBuiltins "ValueError" = some (.type "ValueError"):=by decide +kernel
end L2.Q
namespace L2.Q.R
open PySem PySem.Spec PyProof.Rows L2.Q
section
variable {E:m5}{ρ:Env}{Q:Md->L2.Q.D->Prop}{te:WE}{tar:WA}{j:Nat}{a:Addr}{b:Bool}{sp:dS}{n:Str}{d:L2.Q.D}{Y:Str->Prop}{N:Prop}
theorem Ig:lX n te E ρ=te ρ fun _ _=>E.rt (.ow false) (.str n):=rfl
theorem Jr:uO sp tar ρ Q=tar ρ fun ps=>sp (ps.map (·.2)) fun m d=>kb m d (fun _=>False) (bp (m,d) (f:=fun p=>Q (oi p.1 p.2) p.2) ⟨⟩):=rfl
theorem JM:xx sp tar E ρ=tar ρ fun ps=>sp (ps.map (·.2)) fun m d=>kb m d (fun n=>E.rt (.ow false) (.str n)) (bp (m,d) (f:=fun _=>E.nx ρ) ⟨⟩):=rfl
theorem Lq:Bk sp tar E ρ=tar ρ fun ps=>sp (ps.map (·.2)) fun m d=>kb m d (fun n=>E.rt (.ow false) (.str n)) (bp (m,d) (f:=fun p=>E.rt (oi p.1 p.2) p.2) ⟨⟩):=rfl
theorem N5:AV j a b ρ Q=(ρ[j]? = some (some (.xc a))/\Q .sh (.bl b)):=rfl
theorem M9:kb (.ow false) (.str n) Y N=Y n:=rfl
theorem K6:kb .sh d Y N=N:=rfl
theorem Kw:kb .bo d Y N=N:=rfl
theorem Kh:kb (.ow true) d Y N=N:=rfl
theorem Mv:kb (.ow b) (.list xs) Y N=N:=by cases b<;>rfl
theorem MT:kb (.ow b) (.tup xs) Y N=N:=by cases b<;>rfl
theorem Ni:kb (.ow b) (.dK xs) Y N=N:=by cases b<;>rfl
theorem Od:kb (.ow b) (.dT xs) Y N=N:=by cases b<;>rfl
end
end L2.Q.R
namespace L2.Q
open PySem PySem.Spec PyProof.Rows PySem.W
theorem ym{K:Frag}:kitAny K t []=some false:=rfl
theorem nW{K:Frag}(h:kitOne K t c=some a)(g:kitAny K t r=some b):kitAny K t (c :: r)=some (a || b):=by
 unfold kitAny;rw[h];cases a
 ·exact g
 ·rfl
section
variable {X:Cx}{K:PySem.W.Frag}{e:Expr}{es:List Expr}{pos:Pos}
def L1(vs:List V):TA:=fun _ H Q=>Q vs H
theorem Ey:PA X [] (L1 []):=lI
theorem wM(h:PE X e (tC v))(r:PA X es (L1 vs))(hs:starEach (e :: es) X.env=(false,eval e X.env) :: starEach es X.env:=by rfl):PA X (e :: es) (L1 (v :: vs)):=iA h r hs
theorem FQ{cs:List Addr}{us:List Value}(h:Vals (cs.map V.ref) us):us=cs.map Value.ref:=by
 induction cs generalizing us with
 |nil=>exact Paired.n0 h
 |cons c cs ih =>obtain⟨u,us,rfl,r,t⟩:=Paired.c h;rw[show u=Value.ref c from r,ih t];rfl
theorem Hk {j:Nat} {a C:Addr} {oe:Obj} {cs:List Addr} {b:Bool} {x1} {p p2:Pos} (hm:X.mg "isinstance" = none) (hp:(a,oe)∈X.pn) (ky:oe.cls=.ref C) (xc:kD X.K C) (hk:kitAny X.K (.ref C) (cs.map Value.ref)=some b) (hz:cs.length<=100) (he:PE X e (sv j)) (ht:PA X es (L1 (cs.map V.ref)))(hg:Gl X "isinstance" := by rfl) (hs:starEach (e :: [.Tuple es x1 p2]) X.env=(false,eval e X.env) :: starEach [.Tuple es x1 p2] X.env:=by rfl) (nE:starEach (.Tuple es x1 p2 :: []) X.env=(false,eval (.Tuple es x1 p2) X.env) :: starEach [] X.env:=by rfl) (gy:(backTo pos (starEach [.Tuple es x1 p2] X.env)).any (·.1)=false:=by rfl) :
  QE X K (.Call (.Name "isinstance" p) [e,.Tuple es x1 p2] [] pos) (AV j a b):=by
 have hc:h8 X (.builtin "isinstance") (fun xs H Q=>∃ t,xs=[.ref a,.ref t]/\H t=some (.tup (cs.map V.ref))/\Q (.bl b) H):=by intro pins s σ H xs us Q I r h;obtain⟨t,rfl,et,q⟩:=h;obtain⟨u,v,rfl,ru,rv⟩:=Vals.two r;obtain rfl:u=Value.ref a:=ru;obtain rfl:v=Value.ref t:=rv;obtain⟨ho,_⟩:=I.pin (a,oe) (js _ hp);obtain⟨its,ri,o,e1,e2,n,e3⟩:=I.tup et;obtain⟨c',d',dt,sl⟩:=o;cases e2;cases e3;rw[FQ ri] at e1;exact kia_tup (wR xc) I.gS ⟨oe,ho,ky⟩ e1 hk (fun z=>nomatch z) fun tk=>⟨.bl b,H,I.tok tk,rfl,q⟩
 refine PE.imp (D1 hc hg hm ik (iA he (iA (IE ht) lI nE) hs) (by decide) (by decide) hs gy) fun σ H Qv hx=>gX hx fun Hs ρ ae Q sr h f=>?_;obtain⟨ea,q⟩:=h;obtain⟨v,e1,r⟩:=sr.sr.get ea;have r:v=V.ref a:=r;subst r;refine⟨_,e1,by rw[da];exact fE hz (by decide),fun t hT=>⟨t,rfl,gg,?_⟩⟩;have g:=AB (vs:=cs.map V.ref) sr.wf hT;exact Fin.sh (Fin.after f g) g.wf (.bl _) q
end
theorem SR.Fp{K:PySem.W.Frag}{Hs H:Hp}{ρ:Env}{σ:St}{ae:List Addr}{j:Nat}{o:Option V}(s:SR K Hs H (ρ.set j none) σ ae):SR K Hs H (ρ.set j none) (σ.set j o) ae:=by
 generalize e:ρ.set j none=b9 at s
 induction s generalizing ρ j with
 |nil=>exact .nil
 |non s ih =>
  cases ρ with
  |nil=>cases e
  |cons x ρ =>
   cases j with
   |zero=>exact .non s
   |succ j=>exact .non (ih (List.cons.inj e).2)
 |sh r s ih =>
  cases ρ with
  |nil=>cases e
  |cons x ρ =>
   cases j with
   |zero=>cases e
   |succ j=>exact .sh r (ih (List.cons.inj e).2)
 |xc s ih =>
  cases ρ with
  |nil=>cases e
  |cons x ρ =>
   cases j with
   |zero=>cases e
   |succ j=>exact .xc (ih (List.cons.inj e).2)
 |ow ne r s ih =>
  cases ρ with
  |nil=>cases e
  |cons x ρ =>
   cases j with
   |zero=>cases e
   |succ j=>exact .ow ne r (ih (List.cons.inj e).2)
 |lk ne r s ih =>
  cases ρ with
  |nil=>cases e
  |cons x ρ =>
   cases j with
   |zero=>cases e
   |succ j=>exact .lk ne r (ih (List.cons.inj e).2)
theorem DP{α:Type}{l:List α}(h:l.Nodup){i j:Nat}{x:α}(a:l[i]? = some x)(b:l[j]? = some x):i=j:=by
 obtain⟨hi,ei⟩:=kU.mp a;obtain⟨hj,ej⟩:=kU.mp b;rcases Nat.lt_trichotomy i j with q|q|q
 ·exact absurd (ei.trans ej.symm) (List.pairwise_iff_getElem.mp h i j hi hj q)
 ·exact q
 ·exact absurd (ej.trans ei.symm) (List.pairwise_iff_getElem.mp h j i hj hi q)
section
variable {X:Cx}{pins:List (Addr × Obj)}{σ:St}{H:Hp}{s:Shared}
theorem Inv.drop(I:Inv X pins σ H s)(hN:X.N.Nodup)(hj:X.N[j]? = some en)(lk:∀ (i:Nat) (x:Str) (v:V),X.N[i]? = some x->σ[i]? = some (some v)->DJ X.env.scope x->∃ u,RelV v u/\Look X.env s.heap m x u)(hn:h'.Ns X.env.locals fun x=>if x=en then v else m x) (hs:Heap.SameBut X.env.locals s.heap h'):Inv X pins (σ.set j none) H { s with heap:=h',toks:=t }:=by
 have F:=Inv.forget (t:=t) I hn hs;refine⟨F.ok,F.os,F.bare,F.base,⟨_,hn,fun i x v' e1 e2 vs=>?_⟩,F.cell,F.free,F.kN,F.pin,F.aE,by rw[List.length_set];exact I.len⟩;have Py:j≠i:=fun z=>by
  subst z;rw[List.getElem?_set] at e2;split at e2
  ·split at e2<;>cases e2
  ·rename_i z;exact z rfl
 rw[MX Py] at e2;obtain⟨u,r,l⟩:=lk i x v' e1 e2 vs;refine⟨u,r,?_⟩;rcases l with⟨a,b⟩|⟨a,c,b,d⟩
 ·refine .inl ⟨a,?_⟩;show(if x=en then v else m x)=some u;rw[if_neg fun z=>Py ?_]
  ·exact b
  ·subst z;exact DP hN hj e1
 ·exact .inr ⟨a,c,b,d.sameBut hs (I.wa x c b)⟩
end
end L2.Q
namespace L2.Q.R
open PySem PySem.Spec PyProof.Rows L2.Q
end L2.Q.R
namespace L2
open PySem PySem.Spec PyProof.Rows Builtin Builtin.Str Builtin.Int
end L2
namespace L2.Q
open PySem PySem.Spec PyProof.Rows
section
variable {X:Cx}{K:PySem.W.Frag}{a b:Expr}{ta tb:WE}{pos:Pos}
def B6(t:WE):WE:=fun ρ Q=>t ρ fun m d=>pZ m/\Q .sh d
theorem L3(h:QE X K a ta):QE X K a (B6 ta):=by
 refine PE.imp h fun σ H Qv hx=>gX hx fun Hs ρ ae Q sr h fin=>?_;refine⟨Hs,ρ,ae,_,sr,h,fun v H1 aw m d As g1 r1 f1 q1=>?_⟩;obtain⟨nb,q⟩:=q1
 cases m with
 |sh=>exact fin v H1 aw .sh d As g1 r1 f1 q
 |bo=>exact nb.elim
 |ow fl =>
  obtain⟨r,ne⟩:=r1;have hn:∀ a∈As,aw a=none:=fun a h=>(f1.2 a h).1;have s:=kO (H:=H1) hn;refine fin v H1 (oP aw H1 As) .sh d [] ⟨g1.all,g1.sh.trans s,Ak g1.wf r.own,fun c hc=>?_⟩ ⟨rfl,r.rep s fun c hc=>by unfold oP;rw[if_pos hc]⟩ ⟨mz,fun _ h=>oB h⟩ q;unfold oP at hc;split at hc
  ·rename_i m;exact .inr (f1.2 c m).2
  ·exact g1.new c hc
def ve(o:Option (Option Sl))(k:List D->Prop):Prop:=match o with
 |some (some (.ow true (.list xs)))=>k xs
 |_=>False
def intD(y:D)(k:Int->Prop):Prop:=match y with
 |.int i=>k i
 |_=>False
def rz(d:D):Md:=bif d.flat then .sh else .ow true
def xK(i:Nat)(tb:WE):WS:=fun E ρ=>ve ρ[i]? fun xs=>tb ρ fun _ y=>intD y fun k=>∃ d,L2.eB xs k=some d/\E.rt (rz d) d
theorem Ba(he:PE X a (sv i))(hb:QE X K b tb)(hs:IQ b:=by exact fun _ _=>rfl)(hK:X.K=K:=by rfl):QS X K L (.Return (some (.Subscript a b pos)) pos') (xK i tb) :=
 PS.imp (zo (OO (UZ hK) he hb hs)) fun D σ H hx=>jw hx fun Hs ρ ae E sr h k1 k2 k3 k4=>by
 unfold xK ve at h;split at h
 ·rename_i xs e1;obtain⟨v,As,e2,ne,r,sb⟩:=sr.sr.at e1
  cases r with
  |sh _ _=>exact absurd rfl ne
  |@list a vs _ As z e rs =>
   refine⟨_,e2,Hs,ρ,ae,_,sr,h,fun u H1 aw m y Bs g1 r1 f1 q1=>?_⟩;have ry:=r1.rep g1.wf
   cases ry with
   |int k =>
    obtain⟨d,e3,q⟩:=q1;obtain⟨j,ej,ed⟩:=CT e3;have nd:As.Nodup:=(mx.mp (sb.nodup sr.kz)).2;obtain⟨w,B,ew,mS,sB,_⟩:=rs.at ed nd;have sub:∀ c∈B,c∈ae:=fun c hc=>sb.subset (dz _ (sB.subset hc));have r2:=mS.grow g1.sh g1.all;refine .inl ⟨vs,w,.inl (.inl (g1.all _ _ e)),Gw (by rw[<- rs.length];exact ej) ew,?_⟩;have sr1:=sr.grow g1
    cases hf:d.flat with
    |true =>rw[rz,hf] at q;exact k4 w H1 aw .sh d [] g1.sh g1.wf ⟨rfl,(r2.rep g1.wf.sub fun _ _=>rfl).kj g1.wf.gE hf⟩ mz (fun c hc=>oB hc) q
    |false =>rw[rz,hf] at q;exact k4 w H1 aw (.ow true) d B g1.sh g1.wf ⟨r2,r2.ne hf⟩ (sB.nodup nd) (fun c hc=>sr1.own c (sub c hc)) q
   |_=>exact q1.elim
 ·exact h.elim
end
end L2.Q
namespace L2.Q.R
open PySem PySem.Spec PyProof.Rows L2.Q
section
variable {ρ:Env}{te:WE}{m:Md}{ys:List L2.Q.D}{Q:Md->L2.Q.D->Prop}
theorem Ib:xK i te E ρ=bp ρ[i]? (f:=fun o=>ve o fun xs=>te ρ fun _ y=>bp y (f:=fun y=>intD y fun k=>∃ d,eB xs k=some d/\bp d (f:=fun d=>E.rt (rz d) d) ⟨⟩) ⟨⟩) ⟨⟩:=rfl
theorem J8:ve (some (some (.ow true (.list ys)))) k=k ys:=rfl
theorem Ky:intD (.int i) k=k i:=rfl
theorem cx':B6 te ρ Q=te ρ fun m d=>pZ m/\Q .sh d:=rfl
end
end L2.Q.R
namespace L2
open PySem PySem.Spec PyProof.Rows
end L2
namespace L2.Q
open PySem PySem.Spec PyProof.Rows
section
variable {K:PySem.W.Frag}{a:Expr}
def Vv(x:D)(f:List (Key × D)->Prop)(g:List (List Key × D)->Prop):Prop:=match x with
 |.dK ah=>f ah
 |.dT ah=>g ah
 |_=>False
def cy'(y:D)(k:List D->Prop):Prop:=match y with
 |.tup ys=>k ys
 |_=>False
def Vw(o:Option D)(m n:Md)(z:D)(Q:Md->D->Prop):Prop:=match o with
 |some d=>Q (kA m d) d
 |none=>Q n z
def cz'(o:Option (Option Sl))(k:List (List Key × D)->Prop):Prop:=match o with
 |some (some (.ow true (.dT ah)))=>k ah
 |_=>False
theorem cS.place(sr:cS K Hs ρ σ H ae)(e:ρ[i]? = some (some (.ow fl d))):∃ v,σ[i]? = some (some v)/\Place K Hs H σ fl d v fun cE d2=>ρ.set i (some (.ow cE d2)):=by obtain⟨v,As,t,e2,ne,r,sb,g⟩:=SR.put i sr.sr e sr.kz;refine⟨v,e2,As,r,ne,sb.nodup sr.kz,fun a h=>sr.own a (sb.subset h),fun ax H2 cE d2 fA s2 w2 n2 _ r2 ne2 iP o2 st=>?_⟩;obtain⟨t2,x,y,z⟩:=g ax H2 cE d2 fA s2 r2 ne2 iP (fun a ha m=>(o2 a ha).2.elim id fun q=>absurd q (sr.sr.own a m).ne) fun a ha m=>st a (sr.sr.own a ha).ne m;exact⟨t2,z,w2,x,fun a h=>(y a h).elim (fun q=>n2 a (sr.own a q) (sr.sr.own a q).ne) fun q=>(o2 a q).1⟩
end
end L2.Q
namespace L2
open PySem PySem.Spec PyProof.Rows
end L2
namespace L2.Q
open PySem PySem.Spec PyProof.Rows
section
variable {K:PySem.W.Frag}{a b c:Expr}
def cA'(d:D)(k:List (Key × D)->Prop):Prop:=match d with
 |.dK ah=>k ah
 |_=>False
theorem SR.take(i:Nat)(s:SR K Hs H ρ σ ae):ρ[i]? = some (some (.ow fl d))->ae.Nodup ->
  ∃ (v:V) (As bX:List Addr),σ[i]? = some (some v)/\bP K Hs H fl d v As/\As.Sublist ae/\bX.Sublist ae/\(∀ a∈As,a∉bX)/\SR K Hs H (ρ.set i none) σ bX:=by
 induction s generalizing i with
 |nil=>intro e;simp at e
 |non q ih =>
  intro e n
  cases i with
  |zero=>simp at e
  |succ i =>obtain⟨v,As,t,o,a,b,c,d,f⟩:=ih i e n;exact⟨v,As,t,o,a,b,c,d,.non f⟩
 |sh r q ih =>
  intro e n
  cases i with
  |zero=>simp at e
  |succ i =>obtain⟨v,As,t,o,a,b,c,d,f⟩:=ih i e n;exact⟨v,As,t,o,a,b,c,d,.sh r f⟩
 |xc q ih =>
  intro e n
  cases i with
  |zero=>simp at e
  |succ i =>obtain⟨v,As,t,o,a,b,c,d,f⟩:=ih i e n;exact⟨v,As,t,o,a,b,c,d,.xc f⟩
 |ow ne r q ih =>
  intro e n;obtain⟨n1,n2,n3⟩:=hU.mp n
  cases i with
  |zero =>simp at e;obtain⟨rfl,rfl⟩:=e;exact⟨_,_,_,rfl,r,A5 _ _,kF _ _,fun a h m=>n3 a h a m rfl,.non q⟩
  |succ i =>obtain⟨v,As,t,o,a,b,c,d,f⟩:=ih i e n2;exact⟨v,As,_,o,a,b.trans (kF _ _),c.append_left _,qQ n b d,.ow ne r f⟩
 |lk ne r q ih =>
  intro e n;obtain⟨n1,n2,n3⟩:=hU.mp n
  cases i with
  |zero=>simp at e
  |succ i =>obtain⟨v,As,t,o,a,b,c,d,f⟩:=ih i e n2;exact⟨v,As,_,o,a,b.trans (kF _ _),c.append_left _,qQ n b d,.lk ne r f⟩
theorem CN(h:ve o k):∃ xs,o=some (some (.ow true (.list xs)))/\k xs:=by
 unfold ve at h;split at h
 ·exact⟨_,rfl,h⟩
 ·exact h.elim
end
end L2.Q
namespace L2.Q.R
open PySem PySem.Spec PyProof.Rows L2.Q
section
variable {ys:List L2.Q.D}{Q:Md->L2.Q.D->Prop}{k:Nat}
theorem Mm{ah:List (Key × L2.Q.D)}{k:List (Key × L2.Q.D)->Prop}:cA' (.dK ah) k=k ah:=rfl
theorem M4:Vv (.dK ah) f g=f ah:=rfl
theorem Mt:Vv (.dT ah) f g=g ah:=rfl
theorem Nq{k:List L2.Q.D->Prop}:cy' (.tup ys) k=k ys:=rfl
theorem N7{ah:List (List Key × L2.Q.D)}{k:List (List Key × L2.Q.D)->Prop}:cz' (some (some (.ow true (.dT ah)))) k=k ah:=rfl
end
end L2.Q.R
namespace L2
open PySem PySem.Spec PyProof.Rows
section
variable {X:Cx}
def oo{α:Type}(xs:List α)(k:Nat)(y:α):List α:=xs.take k++y :: xs.drop k
def cB':V->List V->Hp->VK->Prop:=fun x vs H Q=>∃ l xs i y,x=.ref l/\vs=[.int i,y]/\H l=some (.lst xs)/\0<=i/\i<=sizeLine/\xs.length<sizeLine/\Q .non (upd H l (.lst (oo xs i.toNat y)))
theorem Ea{α:Type}(xs:List α)(k:Nat)(y:α):(xs.toArray.extract 0 (min k xs.length)).push y++xs.toArray.extract (min k xs.length)=(oo xs k y).toArray:=by
 apply Array.toList_inj.mp;rcases Nat.le_total k xs.length with h|h
 ·rw[Nat.min_eq_left h];simp[oo];exact zi (by rw[qB];lia)
 ·rw[Nat.min_eq_right h];simp[oo,zi h,List.drop_eq_nil_of_le h]
theorem GQ:UB X "list.insert" cB':=by
 intro pins s σ H x vs v us Q I rx rv h;obtain⟨l,xs,i,y,rfl,rfl,hH,h0,h1,hz,q⟩:=h;cases rx;obtain⟨u,w,rfl,ru,mS⟩:=rv.two;obtain⟨t,rfl⟩:=ru;obtain⟨z,its,n,r,hl,e⟩:=I.UD hH;have hs:sizeLine<2 ^ 62:=by rw[sizeLine_eq];decide
 have Ve:¬ (!Builtin.List.listFitsIndex i)=true:=by rw[fitsIndex_both (by lia) (by lia)];decide
 refine call_meets F.slot_list_insert ⟨_,e,rfl⟩ F.entry_list_insert (F.args_list_insert_3 _ _ _) (AutoSeq1.list_insert_list_int_val_1 l its.toArray n i t w Ve (by rw[hR];lia)) ⟨e,?_⟩;have ei:(if i<0 then (i+(its.toArray.size:Int)).toNat else min i.toNat its.toArray.size)=min i.toNat its.length:=by rw[if_neg (by lia),hR]
 have rl:Vals (oo xs i.toNat y) (oo its i.toNat w):=(r.take i.toNat).append (.cons mS (r.drop i.toNat));refine⟨.non,_,I.UC (its':=oo its i.toNat w) hH e ?_ rl ?_,rfl,q⟩
 ·show(its.toArray.extract 0 (if i<0 then (i+(its.toArray.size:Int)).toNat else min i.toNat its.toArray.size)).push w++its.toArray.extract (if i<0 then (i+(its.toArray.size:Int)).toNat else min i.toNat its.toArray.size)=_;rw[ei];exact Ea its i.toNat w
 ·unfold oo;simp;lia
end
end L2
namespace L2.Q
open PySem PySem.Spec PyProof.Rows
section
variable {X:Cx}{K:PySem.W.Frag}{L:Str->Hp->Prop}{e e2 e3:Expr}{p:WP}{te E4 Vx:WE}{apos eh pos:Pos}
theorem xq:bootBuiltins "int" = some (.type "int"):=by decide +kernel
theorem aF.ins(r:bP K Hs H fl d v [])(k:Nat)(q:aF K Hs H fl ds vs As):aF K Hs H fl (oo ds k d) (oo vs k v) As:=by
 induction k generalizing ds vs As with
 |zero=>exact aF.cons r q
 |succ k ih =>
  cases ds with
  |nil =>obtain⟨rfl,rfl⟩:=q.n0;exact aF.cons r .nil
  |cons e ds =>obtain⟨u,us,A,B,rfl,rfl,q,qs⟩:=q.c;exact aF.cons q (ih qs)
def P6(p:WP)(tk te:WE):WS:=fun E ρ=>p ρ fun fl d up=>match d with
 |.list xs=>tk ρ fun _ j=>te ρ fun _ x=>match j with
  |.int j=>0<=j/\j<=sizeLine/\xs.length<sizeLine/\x.flat=true/\E.nx (up fl (.list (oo xs j.toNat x)))
  |_=>False
 |_=>False
theorem Hy(ho:QP X K e p)(he:QE X K e2 E4)(he3:QE X K e3 Vx)(hK:X.K=K:=by rfl) (w_:attributeBase e "insert" X.env (eval e X.env)=eval e X.env:=by rfl) (xa:((backTo eh (starEach [e2,e3] X.env)).all (fun x=>!x.1) && (backToKw eh (keywordEach [] X.env)).all (fun x=>x.1.isSome)
   && decide ([e2,e3].length+([]:List Keyword).length+(if ([]:List Keyword).isEmpty then 0 else 1)<30))=true:=by rfl)
  (hline:(apos.endLine == eh.line)=true:=by rfl) (tj:starEach (e2 :: [e3]) X.env=(false,eval e2 X.env) :: starEach [e3] X.env:=by rfl) (z5:starEach (e3 :: []) X.env=(false,eval e3 X.env) :: starEach [] X.env:=by rfl) (xh:(backTo eh (starEach [e3] X.env)).any (·.1)=false:=by rfl)
  (hs:swapsWith (.Call (.Attribute e "insert" apos) [e2,e3] [] eh) none pos.line X.env=pure false:=by rfl) :
  QS X K L (.Expr (.Call (.Attribute e "insert" apos) [e2,e3] [] eh) pos) (P6 p E4 Vx):=by
 subst hK;refine PS.imp (HZ (IY PySem.F.plainAttrs_list PySem.F.slot_list_insert PySem.F.type_list_insert GQ ho (iA he (iA he3 lI z5) tj) w_ xa hline tj xh) hs) fun D σ H hx=>jw hx fun Hs ρ ae E sr h k1 k2 k3 k4=>?_;refine⟨Hs,ρ,ae,_,sr,h,fun v H1 aw fl d up g1 p1 q1=>?_⟩
 cases d with
 |list xs =>
  obtain⟨a1,vs1,e1,s1⟩:=p1.Vj g1.wf;refine⟨by subst e1;exact .inl ⟨rfl,_,s1⟩,aw,ρ,ae,_,sr.grow g1,q1,fun w H2 ax m jd As g2 r2 f2 q2=>⟨ax,ρ,ae,_,(sr.grow g1).grow g2,q2,fun y H3 g7 m3 x As3 g3 r3 f3 q3=>?_⟩⟩;have rj:=(r2.grow g3).rep g3.wf
  cases rj with
  |int j =>obtain⟨h0,h1,hz,fx,q3⟩:=q3;obtain⟨a,vs,A,ea,e2,e21,rs,nd,hn,k⟩:=p1.put (g2.trans g3);obtain⟨nA,AO⟩:=mx.mp nd;have hl:=rs.length;refine⟨a,vs,j,y,ea,rfl,e2,h0,h1,by lia,?_⟩;obtain⟨fk,qc⟩:=k fl _ _ A id (aF.ins (.sh (fun _=>fx) (r3.flat g3.wf fx)) j.toNat rs) (by unfold oo;simp;lia) AO nA (fun x hx=>.inl hx);exact k1 _ _ g7 _ fk ((g1.sh.trans g2.sh).trans g3.sh) qc q3
  |_=>exact q3.elim
 |_=>exact q1.elim
end
end L2.Q
namespace L2.Q.R
open PySem PySem.Spec PyProof.Rows L2.Q
section
variable {ρ:Env}{E:m5}{te tk:WE}{m:Md}{Q:Md->L2.Q.D->Prop}{p:WP}{xs:List L2.Q.D}{k:List L2.Q.D->Prop}
def Vy(d:L2.Q.D)(k:List L2.Q.D->Prop):Prop:=match d with
 |.list xs=>k xs
 |_=>False
theorem Mu:Vy (.list xs) k=k xs:=rfl
theorem NT:P6 p tk te E ρ=p ρ fun fl d up=>bp d (f:=fun d=>Vy d fun xs=>tk ρ fun _ j=>te ρ fun _ x=>bp j (f:=fun j=>intD j fun j=>0<=j/\j<=sizeLine/\xs.length<sizeLine/\x.flat=true/\E.nx (up fl (.list (oo xs j.toNat x)))) ⟨⟩) ⟨⟩:=rfl
theorem Km:Vw (some d) m n z Q=Q (kA m d) d:=rfl
theorem Kv:Vw none m n z Q=Q n z:=rfl
end
end L2.Q.R
namespace L2
open PySem PySem.Spec PyProof.Rows PySem.SeqAt
end L2
namespace L2.Q
open PySem PySem.Spec PyProof.Rows PySem.SeqAt
end L2.Q
namespace L2.Q.R
open PySem PySem.Spec PyProof.Rows L2.Q PySem.SeqAt
end L2.Q.R
namespace L2
open PySem PySem.Spec PyProof.Rows PySem.SeqAt
section
variable {X:Cx}
def Dh(K:PySem.W.Frag):R2:=fun x y H Q=>∃ l xs n,x=.ref l/\y=.int n/\dk K H l xs/\0<=n/\n<=4000/\xs.length<=1000/\∀ p,H p=none->Q (.ref p) (upd H p (.lst (List.replicate n.toNat xs).flatten))
theorem Az(h:Vals xs vs)(k:Nat):Vals (List.replicate k xs).flatten (List.replicate k vs).flatten:=by
 induction k with
 |zero=>exact .nil
 |succ k ih=>rw[qA,qA,se,se];exact h.append ih
theorem qX{α:Type}(xs:List α)(k:Nat):(List.replicate k xs).flatten.length=xs.length*k:=by
 induction k with
 |zero=>rfl
 |succ k ih=>rw[qA,se,kg,ih,Nat.mul_succ];lia
theorem Ff:cy X (binaryOp .Mult) (Dh X.K):=by
 intro pins s σ H x y v u Q I rx ry h;obtain⟨l,xs,n,rfl,rfl,hH,h0,h1,h2,q⟩:=h;cases rx;obtain⟨t,rfl⟩:=ry;obtain⟨its,r,pl,z⟩:=I.list hH;have hl:=r.length;obtain⟨⟨cls,dd,data,sl⟩,ho,hc,k,hd⟩:=id pl.isList;simp only at hc hd;subst hc hd;have hm:its.toArray.size*n.toNat<=1000*4000:=Dx (by rw[hR];lia) (by lia);have yv:=sizeLine_eq;refine wpAny_binaryOp_repeat_ref (T := "list") (U := "int") (by decide) ⟨_,ho,rfl⟩ (fun s'=>typeIs_int s' n t) noFill_list_mul PySem.F.fills_int_mul PySem.F.slot_int_rmul repeat_list PySem.F.slot_int_index.lookup (call_meets PySem.F.slot_int_rmul (typeIs_int s n t) PySem.F.entry_int_rmul (PySem.F.args_int_rmul_2 _ _) (lm_int_rmul_list_any n t l its.toArray k dd sl) ⟨ho,rfl,⟨_,ho,rfl⟩,call_meets PySem.F.slot_list_mul ⟨_,ho,rfl⟩ PySem.F.entry_list_mul (PySem.F.args_list_mul_2 _ _) (lm_list_mul_any l its.toArray k dd sl n t (by simp[Builtin.List.listFitsIndex];lia) (by lia) (by simp only[Builtin.List.listTooLong,decide_eq_true_eq];lia)) ⟨ho,?_⟩⟩)
 rw[listMul_foldl_if];exact⟨.ref _,_,I.D4 (t':=s.toks) (Az r _) (by
  rw[qX];have:xs.length*n.toNat<=1000*4000:=Dx h2 (by lia);lia),rfl,q _ I.fresh⟩
end
end L2
namespace L2.Q
open PySem PySem.Spec PyProof.Rows PySem.SeqAt
section
variable {X:Cx}{K:PySem.W.Frag}{a b:Expr}{ta tb:WE}{pos:Pos}
def yp:W2:=fun _ x _ y Q=>match x with
 |.list xs=>match y with
  |.int n=>(0<=n/\n<=4000/\xs.length<=1000)/\ck xs=true/\Q (.ow true) (.list (List.replicate n.toNat xs).flatten)
  |_=>False
 |_=>False
theorem Bo(h:aS K H xs vs)(k:Nat):aS K H (List.replicate k xs).flatten (List.replicate k vs).flatten:=by
 induction k with
 |zero=>exact .nil
 |succ k ih=>rw[qA,qA,se,se];exact h.append ih
theorem zG(h:ck xs=true)(k:Nat):ck (List.replicate k xs).flatten=true:=by
 induction k with
 |zero=>rfl
 |succ k ih=>rw[qA,se,iQ,h,ih];rfl
theorem EY:hZ K (Dh K) yp:=by
 intro Hs H m x v As n y u Bs Qd Qv w rx ry h f;have r1:=rx.rep w;have r2:=ry.rep w
 cases r1 with
 |list z s q=>cases r2 with
  |int n =>obtain⟨⟨h0,h1,h2⟩,fl,h⟩:=h;have hl:=q.length;refine⟨_,_,_,rfl,rfl,s,h0,h1,by lia,?_⟩;refine f.lst w ?_ (Bo q _) (zG fl _) h;rw[qX,sizeLine_eq];have:List.length _*n.toNat<=1000*4000:=Dx h2 (by lia);exact fE this (by decide)
  |_=>exact h.elim
 |_=>exact h.elim
theorem Jm(hK:X.K=K:=by rfl):cy X (binaryOp .Mult) (Dh K):=by subst hK;exact Ff
theorem Ai(ha:QE X K a ta)(hb:QE X K b tb)(hK:X.K=K:=by rfl):QE X K (.BinOp a .Mult b pos) (av yp ta tb):=AF (Jm hK) EY ha hb
end
end L2.Q
namespace L2.Q.R
open PySem PySem.Spec PyProof.Rows L2.Q PySem.SeqAt
section
variable {Q:Md->L2.Q.D->Prop}{m m':Md}{xs:List L2.Q.D}{a:Int}
theorem K7:yp m (.list xs) m' (.int a) Q=((0<=a/\a<=4000/\xs.length<=1000)/\ck xs=true/\Q (.ow true) (.list (List.replicate a.toNat xs).flatten)):=rfl
end
end L2.Q.R
namespace L2
open PySem PySem.Spec PyProof.Rows
end L2
namespace L2.Q
open PySem PySem.Spec PyProof.Rows
section
theorem wI{es rest:List Expr}:starEach (.Tuple es k p :: rest) env=(false,eval (.Tuple es k p) env) :: starEach rest env:=by rfl
def shA(m:Md)(P:Prop):Prop:=match m with
 |.sh=>P
 |_=>False
end
end L2.Q
namespace L2.Q.R
open PySem PySem.Spec PyProof.Rows L2.Q
theorem Kp{P:Prop}:shA .sh P=P:=rfl
end L2.Q.R
namespace L2
open PySem PySem.Spec PyProof.Rows PySem.Calls
end L2
namespace PySem
open Sem (wp)
open Builtin Builtin.Str
theorem zR{prog:Program}{w:World}{A:Around}{E:Value->Shared->Prop}{s:Shared}{x y:Str}{t u:Tok}{Q:Value->Shared->Prop}(hy:(y.length == 0)=false)(yv:x.length<=sizeLine)(cF':(partsBetween x (occurrences x y 0 x.length (x.length+1)) y.length).length<=sizeLine)(hq:∀ l k,l.map (·.1)=Txt.split x y->Q (.ref s.heap.objs.size) { s with heap:=s.heap.push { cls:=.type "list",data:=.seq (strValues l).toArray },toks:=k }) :
  wpAny (model prog w) A (call (.builtin "str.split") [.str x t,.str y u]) Q E s:=by
 cases h1:(decide (x.length<y.length) || decide (Builtin.Str.strKind x<Builtin.Str.strKind y))
 ·cases hf:(occurrences x y 0 x.length (x.length+1)).isEmpty
  ·refine call_meets F.slot_str_split (typeIs_str _ _ _) F.entry_str_split (F.args_str_split_2 _ _) (meets_str_split_sep x y t u h1 hy hf yv cF') ?_;show wants Q E _ { s with toks:=_,heap:=s.heap.push { cls:=.type "list",data:=.seq (strsFrom s.toks (partsBetween x (occurrences x y 0 x.length (x.length+1)) y.length)).toArray } };rw[strsFrom_eq];exact hq (numbered s.toks _) _ ((numbered_texts _ _).trans ((if_neg (ne_true_of_eq_false h1)).trans (if_neg (ne_true_of_eq_false hf))).symm)
  ·exact call_meets F.slot_str_split (typeIs_str _ _ _) F.entry_str_split (F.args_str_split_2 _ _) (meets_str_split_not_found x y t u h1 hy hf) (hq [(x,t)] s.toks ((if_neg (ne_true_of_eq_false h1)).trans (if_pos hf)).symm)
 ·exact call_meets F.slot_str_split (typeIs_str _ _ _) F.entry_str_split (F.args_str_split_2 _ _) (meets_str_split_cannot_occur x y t u h1) (hq [(x,t)] s.toks (if_pos h1).symm)
end PySem
namespace PySem
open Builtin Builtin.Str StrLaws
theorem uI(x y:Str)(hi:Nat)(hw:1<=y.length):∀ (cs:List Nat) (a f:Nat),ChainG x y hi a cs f->cs=[]\/cs.length+a<=hi
 |[],_,_,_=>.inl rfl
 |d :: r,a,f,h=>by
  have h1:=h.1;have h2:=h.2.1.1;rcases uI x y hi hw r _ f h.2.2.2 with e|e
  ·subst e;right;simp;lia
  ·right;simp only[ox];lia
theorem tX(x:Str)(w:Nat):∀ (cs:List Nat) (a:Nat),(partsFrom x w a cs).length=cs.length+1
 |[],_=>rfl
 |d :: r,a=>by show(partsFrom x w _ r).length+1=_;rw[tX x w r];rfl
theorem pH(x y:Str)(hw:1<=y.length):(partsBetween x (occurrences x y 0 x.length (x.length+1)) y.length).length<=x.length+1:=by
 obtain⟨f,hG,_⟩:=occ_tight x y hw;rw[partsBetween_eq,tX];rcases uI x y x.length hw _ 0 f hG with e|e
 ·rw[e];simp
 ·lia
theorem uv(x y:Str)(hw:1<=y.length):(Txt.split x y).length<=x.length+1:=by
 unfold Txt.split;split
 ·simp
 ·split
  ·simp
  ·exact pH x y hw
end PySem
namespace L2
open PySem PySem.Spec PyProof.Rows PySem.Calls
section
variable {X:Cx}
theorem uG:∀ l:List (Str × Tok),Vals ((l.map (·.1)).map V.str) (PySem.strValues l)
 |[]=>.nil
 |p :: l=>.cons ⟨p.2,rfl⟩ (uG l)
theorem BR:z4 X "str.split" (fun x xs H Q=>∃ z y,x=.str z/\xs=[.str y]/\1<=y.length/\z.length<=1000000/\∀ p,H p=none->Q (.ref p) (upd H p (.lst ((Txt.split z y).map V.str)))):=by intro pins s σ H x vs v us Q I rx rv h;obtain⟨z,y,rfl,rfl,hy,hz,q⟩:=h;obtain⟨t,rfl⟩:=rx;obtain⟨u,rfl,ru⟩:=Vals.one rv;obtain⟨t',rfl⟩:=ru;have hb:=pH z y hy;refine zR (beq_eq_false_iff_ne.mpr (by lia)) (fE hz (by decide)) (fE hb (by rw[sizeLine_eq];lia)) fun l k el=>?_;have I2:=I.D4 (t':=k) (uG l) (by rw[da,el];exact fE (uv z y hy) (by rw[sizeLine_eq];lia));rw[el] at I2;exact⟨.ref _,_,I2,rfl,q _ I.fresh⟩
theorem z7:h8 X (.type "int") (fun xs H Q=>∃ z n,xs=[.str z]/\z.length<=640/\intText? z=some n/\Q (.int n) H):=by intro pins s σ H xs us Q I r h;obtain⟨z,n,rfl,hl,hn,q⟩:=h;obtain⟨u,rfl,t,rfl⟩:=vals1 r;exact PySem.W.KIN.call_text hn hl ⟨.int n,H,I.tok _,⟨_,rfl⟩,q⟩
theorem gQ:h8 X (.type "str") (fun xs H Q=>∃ n,xs=[.int n]/\n.natAbs.log2<1920/\Q (.str (toString n)) H):=by intro pins s σ H xs us Q I r h;obtain⟨n,rfl,hl,q⟩:=h;obtain⟨u,rfl,t,rfl⟩:=vals1 r;exact PySem.P.str_of_int hl ⟨.str (toString n),H,I.tok _,⟨_,rfl⟩,q⟩
end
end L2
namespace L2.Q
open PySem PySem.Spec PyProof.Rows
theorem ug{y p:Str}:∀ {zs:List Str},p∈zs->p.length<=(Str.join y zs).length
 |[],h=>nomatch h
 |[x],h=>by rw[mw.mp h];exact cK _
 |x :: z :: r,h=>by
  show _<=(x++y++Str.join y (z :: r)).length;rw[bQ,bQ];rcases eK.mp h with rfl|h
  ·lia
  ·have:=ug (y:=y) h;lia
theorem qp{x y p:Str}(h:p∈Txt.split x y):p.length<=x.length:=by have:=ug (y:=y) h;rwa[StrLaws.join_split] at this
theorem ue{K:PySem.W.Frag}{H:Hp}:∀ {l:List Str},(∀ x∈l,x.length<=sizeLine)->aS K H (l.map .str) (l.map V.str)
 |[],_=>.nil
 |x :: l,h=>.cons (.str (h x fo)) (ue fun y hy=>h y (dz _ hy))
theorem qi:∀ l:List Str,ck (l.map D.str)=true
 |[]=>rfl
 |x :: l=>by simp[ck,qi l,D.flat]
def um(to te:WE):WE:=fun ρ Q=>to ρ fun _ x=>match x with
 |.str z=>te ρ fun _ y=>match y with
  |.str s=>1<=s.length/\z.length<=1000000/\Q (.ow true) (.list ((Txt.split z s).map .str))
  |_=>False
 |_=>False
def Dv:W1:=fun _ x Q=>match x with
 |.str z=>z.length<=640/\∃ n,intText? z=some n/\Q .sh (.int n)
 |_=>False
section
variable {X:Cx}{K:PySem.W.Frag}{o e:Expr}{to te:WE}{apos eh:Pos}
theorem vX (ho:QE X K o to) (he:QE X K e te) (w_:attributeBase o "split" X.env (eval o X.env)=eval o X.env:=by rfl) (xa:((backTo eh (starEach [e] X.env)).all (fun x=>!x.1) && (backToKw eh (keywordEach [] X.env)).all (fun x=>x.1.isSome) && decide ([e].length+([]:List Keyword).length+(if ([]:List Keyword).isEmpty then 0 else 1)<30))=true:=by rfl) (hline:(apos.endLine == eh.line)=true:=by rfl) (tj:starEach (e :: []) X.env=(false,eval e X.env) :: starEach [] X.env:=by rfl) (xh:(backTo eh (starEach [] X.env)).any (·.1)=false:=by rfl) :
  QE X K (.Call (.Attribute o "split" apos) [e] [] eh) (um to te):=by
 refine PE.imp (IY PySem.F.plainAttrs_str PySem.F.slot_str_split PySem.F.type_str_split BR ho (iA he lI tj) w_ xa hline tj xh) fun σ H Qv hx=>gX hx fun Hs ρ ae Q sr h f=>?_;refine⟨Hs,ρ,ae,_,sr,h,fun v H1 aw m x As g1 r1 f1 q1=>?_⟩;have r:=r1.rep g1.wf
 cases r with
 |str hz =>
  refine⟨rfl,aw,ρ,ae,_,sr.grow g1,q1,fun y H2 ax m2 x2 fA g2 r2 f2 q2=>?_⟩;have rr:=r2.rep g2.wf
  cases rr with
  |str hz2 =>
   obtain⟨h1,h2,q⟩:=q2;refine⟨_,_,rfl,rfl,h1,h2,Fin.lst (Fin.after f (g1.trans g2)) g2.wf ?_ (ue fun p hp=>?_) (qi _) q⟩
   ·rw[da];exact fE (uv _ _ h1) (by rw[sizeLine_eq];lia)
   ·exact fE (qp hp) hz
  |_=>exact q2.elim
 |_=>exact q1.elim
theorem Ew:uk K (fun xs H Q=>∃ z n,xs=[.str z]/\z.length<=640/\intText? z=some n/\Q (.int n) H) Dv:=by
 intro Hs H m x v As Qd Qv w rx h f;have r1:=rx.rep w
 cases r1 with
 |str hz =>obtain⟨h1,n,h2,q⟩:=h;exact⟨_,n,rfl,h1,h2,f.sh w (.int _) q⟩
 |_=>exact h.elim
def sO:W1:=fun _ x Q=>match x with
 |.int i=>i.natAbs.log2<1920/\Q .sh (.str (toString i))
 |_=>False
theorem lM:uk K (fun xs H Q=>∃ n,xs=[.int n]/\n.natAbs.log2<1920/\Q (.str (toString n)) H) sO:=by
 intro Hs H m x v As Qd Qv w rx h f;have r1:=rx.rep w
 cases r1 with
 |int i=>exact⟨i,rfl,h.1,f.sh w (.str (int_text_fits h.1)) h.2⟩
 |_=>exact h.elim
end
end L2.Q
namespace L2.Q.R
open PySem PySem.Spec PyProof.Rows L2.Q
section
variable {ρ:L2.Q.Env}{to te:WE}{m:Md}{Q:Md->L2.Q.D->Prop}
theorem Jc:um to te ρ Q=to ρ fun _ x=>bp x (f:=fun x=>AR x fun z=>te ρ fun _ y=>bp y (f:=fun y=>AR y fun s=>1<=s.length/\z.length<=1000000/\Q (.ow true) (.list ((Txt.split z s).map .str))) ⟨⟩) ⟨⟩:=rfl
theorem J0{i:Int}:sO m (.int i) Q=(i.natAbs.log2<1920/\Q .sh (.str (toString i))):=rfl
theorem Lj{z:Str}:Dv m (.str z) Q=(z.length<=640/\∃ n,intText? z=some n/\Q .sh (.int n)):=rfl
end
end L2.Q.R
namespace L2.Q
open PySem PySem.Spec PyProof.Rows PySem.StrLaws PySem.Builtin.Str
theorem gA{c:Nat}{x r:List Nat}(h:c∉x):(x++c :: r).takeWhile (· != c)=x/\(x++c :: r).dropWhile (· != c)=c :: r:=by
 induction x with
 |nil=>simp
 |cons a x ih =>
  have ha:(a != c)=true:=by simp;intro e;exact h (by simp[e])
  have:=ih fun m=>h (dz _ m);simp[ha,this.1,this.2]
theorem xN{c:Nat}{x:List Nat}(h:c∉x):x.takeWhile (· != c)=x/\x.dropWhile (· != c)=[]:=by
 induction x with
 |nil=>simp
 |cons a x ih =>
  have ha:(a != c)=true:=by simp;intro e;exact h (by simp[e])
  have:=ih fun m=>h (dz _ m);simp[ha,this.1,this.2]
theorem du(y a b:Str)(r:List Str):sg (Str.join y (a :: b :: r))=sg a++(sg y++sg (Str.join y (b :: r))):=by show sg (a++y++Str.join y (b :: r))=_;rw[bf,bf,A6]
theorem sG{c:Nat}{y:Str}{s:List Nat}(hy:sg y=c :: s):∀ {ps qs:List Str},ps≠[]->qs≠[]->(∀ p∈ps,c∉sg p)->(∀ p∈qs,c∉sg p)->sg (Str.join y ps)=sg (Str.join y qs)->ps=qs
 |[],_,h,_,_,_,_=>absurd rfl h
 |_,[],_,h,_,_,_=>absurd rfl h
 |[a],[b],_,_,_,_,e=>by rw[oh (show sg a=sg b from e)]
 |[a],b :: b2 :: r,_,_,ha,hb,e=>by rw[du,hy] at e;have e:sg a=_:=e;have:=congrArg (List.dropWhile (· != c)) e;rw[(xN (ha a (by simp))).2,vk,(gA (hb b (by simp))).2] at this;cases this
 |a :: a2 :: r,[b],_,_,ha,hb,e=>by rw[du,hy] at e;have e:_=sg b:=e;have:=congrArg (List.dropWhile (· != c)) e;rw[(xN (hb b (by simp))).2,vk,(gA (ha a (by simp))).2] at this;cases this
 |a :: a2 :: r,b :: b2 :: t,_,_,ha,hb,e=>by rw[du,du,hy,vk,vk] at e;have h1:=congrArg (List.takeWhile (· != c)) e;have h2:=congrArg (List.dropWhile (· != c)) e;rw[(gA (ha a (by simp))).1,(gA (hb b (by simp))).1] at h1;rw[(gA (ha a (by simp))).2,(gA (hb b (by simp))).2] at h2;have h3:=List.append_cancel_left (List.cons.inj h2).2;rw[oh h1,sG hy (ps:=a2 :: r) (qs:=b2 :: t) (by simp) (by simp) (fun p hp=>ha p (dz _ hp)) (fun p hp=>hb p (dz _ hp)) h3]
theorem rT(x y:Str):Txt.split x y≠[]:=by
 unfold Txt.split;split
 ·simp
 ·split
  ·simp
  ·rw[partsBetween_eq];obtain⟨p,r,e⟩:=partsFrom_ne x y.length 0 (occurrences x y 0 x.length (x.length+1));rw[e];simp
theorem xm(x y:Str)(c:Nat)(H:∀ k,At x ⟨#[c]⟩ x.length k->At x y x.length k):∀ (cs:List Nat) (a f:Nat),ChainG x y x.length a cs f->(∀ k,f<=k->¬ At x y x.length k)->∀ p∈partsFrom x y.length a cs,c∉sg p
 |[],a,f,h,hn,p,hp=>by obtain rfl:f=a:=h;rw[mw.mp hp];exact part_free x c f x.length (cK _) fun k h1 _ z=>hn k h1 (H k z)
 |d :: r,a,f,h,hn,p,hp=>by
  rcases eK.mp hp with rfl|hp
  ·exact part_free x c a d (by have:=h.2.1.1;lia) fun k h1 h2 z=>h.2.2.1 k h1 h2 (H k z)
  ·exact xm x y c H r _ f h.2.2.2 hn p hp
theorem Bx(x y:Str)(c:Nat)(hw:1<=y.length)(hk:strKind y=strKind ⟨#[c]⟩)(H:∀ k,At x ⟨#[c]⟩ x.length k->At x y x.length k):∀ p∈Txt.split x y,c∉sg p:=by
 have none:(∀ k,¬ At x y x.length k)->c∉sg x:=fun h m=>by obtain⟨j,hj⟩:=List.getElem?_of_mem m;exact h j (H j ((subAt_one x c j).mpr hj))
 obtain⟨f,hG,hn⟩:=occ_tight x y hw;unfold Txt.split;split
 ·rename_i hc;intro p hp;rw[mw.mp hp];rw[GY,decide_eq_true_eq,decide_eq_true_eq] at hc;rcases hc with h|h
  ·exact none fun k z=>by have:=z.1;lia
  ·rw[hk] at h;exact kind_free x c h
 ·split
  ·rename_i he;intro p hp;rw[mw.mp hp];rw[List.isEmpty_iff.mp he] at hG;obtain rfl:f=0:=hG;exact none fun k=>hn k (i5 _)
  ·rw[partsBetween_eq];exact xm x y c H _ 0 f hG hn
theorem iZ{c:Nat}{ps:List Str}(h:ps≠[])(hc:∀ p∈ps,c∉sg p):Txt.split (Str.join ⟨#[c]⟩ ps) ⟨#[c]⟩=ps :=
 sG (c:=c) (s:=[]) rfl (rT _ _) h (split_free _ c) hc (by rw[join_split])
theorem follows{c d:Nat}{y:Str}(hy:sg y=[c,d])(jI:c≠d):∀ {ps:List Str},(∀ p∈ps,c∉sg p)->∀ k,(sg (Str.join y ps))[k]? = some c->(sg (Str.join y ps))[k+1]? = some d
 |[],_,k,e=>by have:sg (Str.join y [])=[]:=rfl;rw[this] at e;simp at e
 |[a],h,k,e=>absurd (CF e) (h a (by simp))
 |a :: b :: r,h,k,e=>by
  rw[du,hy] at e ⊢;have ha:=h a (by simp);rcases Nat.lt_trichotomy k (sg a).length with z|z|z
  ·rw[x3 z] at e;exact absurd (CF e) ha
  ·subst z;rw[n4 (by lia)];simp
  ·rw[n4 (by lia)] at e ⊢;obtain⟨j,rfl⟩:∃ j,k=(sg a).length+1+j:=⟨k-(sg a).length-1,by lia⟩
   rw[show(sg a).length+1+j-(sg a).length=j+1 by lia] at e;rw[show(sg a).length+1+j+1-(sg a).length=j+1+1 by lia]
   cases j with
   |zero=>simp at e;exact absurd e.symm jI
   |succ j =>simp only[vk,GU,List.getElem?_cons_succ] at e ⊢;exact follows hy jI (fun p hp=>h p (dz _ hp)) j e
theorem GD{x y:Str}{c d k:Nat}(hy:sg y=[c,d])(h1:(sg x)[k]? = some c)(h2:(sg x)[k+1]? = some d):At x y x.length k:=by
 have hl:y.length=2:=by rw[iw,hy];rfl
 have hk:=(kU.mp h2).1;refine⟨by rw[hl,iw];lia,?_⟩;rw[subAt_eq,hl];show((List.drop k (sg x)).take 2 == sg y)=true;rw[hy,zh (by lia),zh (by lia)];have e1:=(kU.mp h1).2;have e2:=(kU.mp h2).2;rw[e1,e2];simp
theorem vy{c d:Nat}{y:Str}(hy:sg y=[c,d])(jI:c≠d)(hk:strKind y=strKind ⟨#[c]⟩){ps:List Str}(h:ps≠[])(hc:∀ p∈ps,c∉sg p):Txt.split (Str.join y ps) y=ps:=by refine sG hy (rT _ _) h (Bx _ y c (by rw[iw,hy];simp) hk fun k z=>?_) hc (by rw[join_split]);have e:=(subAt_one _ c k).mp z;exact GD hy e (follows hy jI hc k e)
end L2.Q
namespace L2.Q
open PySem PySem.Spec PyProof.Rows PySem.W
abbrev WX:=Env->(Md->D->Prop)->(Str->Prop)->Prop
def Vz(K:PySem.W.Frag)(rn:List Str)(mg:Str->Option Value)(E1:XK)(nk:St)(t:WX):TE:=fun σ H Qv=>σ=nk/\∃ Hs ρ ae Q Y,cS K Hs ρ σ H ae/\t ρ Q Y /\ (∀ v H' ai m d As,eu Hs H ai H'->RM K ai H' m d v As->dU ai H As->Q m d->Qv v H')/\∀ n H',ay H H'->Y n->LX rn mg E1 n H'
def yw(rn:List Str)(X:Cx)(nk:St)(E1:XK):Prop:=∀ pins H s e s',Inv X pins nk H s->fN X.prog X.w X.mg rn X.stack H s E1 e s'->X.xe e s'
def Al(sp:dS)(t:WA):WX:=fun ρ Q Y=>t ρ fun ps=>sp (ps.map (·.2)) fun m d=>kb m d Y (bp (m,d) (f:=fun p=>Q (oi p.1 p.2) p.2) ⟨⟩)
section
variable {X:Cx}{K:PySem.W.Frag}{rn:List Str}{E:XK}{nk:St}{e:Expr}{es:List Expr}{t:WA}{ta:TA}{pos p:Pos}{k:Nat}{x:Str}{ps:List Str}{sp:dS}
theorem Aa (C:gL X.prog X.w X.K X.mg X.base rn k x ps sp) (hr:fe k X.A) (hx:yw rn X nk E) (ha:PA X (e :: es) ta) (hg:Gl X x) (fz:(x == ("__debug__" : Str))=false) (he:starEach (e :: es) X.env=(false,eval e X.env) :: starEach es X.env)(gy:(backTo pos (starEach es X.env)).any (·.1)=false):PE X (.Call (.Name x p) (e :: es) [] pos) (fun σ H Q=>σ=nk/\zI (dh X.K rn X.mg sp) [] E ta σ H Q):=by
 intro pins s σ H Q I ⟨e0,h⟩;subst e0;obtain⟨g,fd,hm,hk,hb,F⟩:=C.ex;refine wpAny_Call_Name_kw (DS I hg hm ?_ fz);refine PySem.W.callWith_K (h₀:=X.base) I.ok.mod.DI hk (cf (ha pos pins s σ H _ I h) fun us s1 cq=>L2.fq cq fun vs H1 I1 r q=>⟨I1.gS,?_⟩) he gy;have r2:Vals (vs++[]) (us++[]):=r.append .nil;have hl:(us++[]).length=ps.length:=by rw[<- r2.length];exact F.len _ _ _ _ q
 refine wpAny_call (codeAny_mono (F.run X.A X.stack s1 H1 ⟨us,[]⟩ (us++[]) (vs++[]) Q E hr I1.Ug (hb s1 us I1.gS hl) r2 q) fun r s' hq=>?_)
 cases r with
 |error e=>exact hx pins H1 s1 e s' I1 hq
 |ok fl =>
  cases fl with
  |ret u=>exact I1.after hq
  |next=>exact False.elim hq
  |brk=>exact False.elim hq
  |cont=>exact False.elim hq
theorem vB{σ:St}{H:Hp}{Qv:VK}{Hs:Hp}{ρ:Env}{ae:List Addr}{Y:Str->Prop}{N:Md->D->Prop}(sr:cS K Hs ρ σ H ae)(h:t ρ fun ps=>sp (ps.map (·.2)) fun m d=>kb m d Y (N m d))(f:∀ v H1 aw H' ai m d As,eu Hs H aw H1->ay H1 ai->Wf ai H'->RM K ai H' m d v As->As.Nodup->(∀ a∈As,ai a=none)->N m d->Qv v H') (fx:∀ n H',ay H H'->Y n->LX rn X.mg E n H'):zI (dh K rn X.mg sp) [] E (LB K t) σ H Qv:=by
 refine⟨Hs,ρ,ae,_,sr,h,fun vs H1 aw ps As g1 r1 f1 q1=>?_⟩;exact⟨_,_,by rw[kX];exact r1.reps g1.wf,q1,fun v H' ai m d As s w r nd own q=>f v H1 aw H' ai m d As g1 s w r nd own (Ag r q),fun n H' s q=>fx n H' (g1.all.trans s) q⟩
theorem Em (C:gL X.prog X.w X.K X.mg X.base rn k x ps sp) (hr:fe k X.A) (hx:yw rn X nk E) (ha:QA X K (e :: es) t) (hK:X.K=K:=by rfl) (hg:Gl X x:=by rfl) (fz:(x == ("__debug__" : Str))=false:=by decide) (he:starEach (e :: es) X.env=(false,eval e X.env) :: starEach es X.env:=by rfl) (gy:(backTo pos (starEach es X.env)).any (·.1)=false:=by rfl):PE X (.Call (.Name x p) (e :: es) [] pos) (Vz K rn X.mg E nk (Al sp t)):=by
 subst hK;refine PE.imp (Aa C hr hx ha hg fz he gy) fun σ H Qv ⟨e0,Hs,ρ,ae,Q,Y,sr,h,f,fx⟩=>⟨e0,vB sr h (fun v H1 aw H' ai m d As g1 s w r nd own q=>?_) fx⟩
 obtain⟨fv,r',fr⟩:=oA g1.wf s w r nd own;exact Fin.after f g1 v H' _ (oi m d) d fv (fH g1.wf s w) r' fr q
end
end L2.Q
namespace L2.Q.R
open PySem PySem.Spec PyProof.Rows L2.Q
end L2.Q.R
namespace L2.Q
open PySem PySem.Spec PyProof.Rows PySem.W
abbrev WB:=Env->(Env->Prop)->(Str->Prop)->Prop
def VA(K:PySem.W.Frag)(rn:List Str)(mg:Str->Option Value)(E1:XK)(nk:St)(t:WB):TS:=fun D σ H=>σ=nk/\∃ Hs ρ ae N Y,cS K Hs ρ σ H ae/\t ρ N Y /\ (∀ bE H' ai b9 bX,ay Hs ai->cS K ai b9 bE H' bX->N b9->D.nx bE H')/\∀ n H',ay H H'->Y n->LX rn mg E1 n H'
def yW(wx:WX):WB:=fun ρ N Y=>wx ρ (fun _ _=>N ρ) Y
theorem SR.Gz{K:PySem.W.Frag}{Hs H:Hp}{ρ:Env}{σ:St}{ae:List Addr}{a:Addr}:∀ (i:Nat),SR K Hs H ρ σ ae->∃ bX,bX.Sublist ae/\SR K Hs H (ρ.set i (some (.xc a))) (σ.set i (some (.ref a))) bX:=by
 intro i s
 induction s generalizing i with
 |nil=>exact⟨[],vn _,.nil⟩
 |non s ih =>
  cases i with
  |zero=>exact⟨_,List.Sublist.refl _,.xc s⟩
  |succ i=>obtain⟨t,a,b⟩:=ih i;exact⟨t,a,.non b⟩
 |sh q s ih =>
  cases i with
  |zero=>exact⟨_,List.Sublist.refl _,.xc s⟩
  |succ i=>obtain⟨t,a,b⟩:=ih i;exact⟨t,a,.sh q b⟩
 |xc s ih =>
  cases i with
  |zero=>exact⟨_,List.Sublist.refl _,.xc s⟩
  |succ i=>obtain⟨t,a,b⟩:=ih i;exact⟨t,a,.xc b⟩
 |ow ne q s ih =>
  cases i with
  |zero=>exact⟨_,kF _ _,.xc s⟩
  |succ i=>obtain⟨t,a,b⟩:=ih i;exact⟨_,a.append_left _,.ow ne q b⟩
 |lk ne q s ih =>
  cases i with
  |zero=>exact⟨_,kF _ _,.xc s⟩
  |succ i=>obtain⟨t,a,b⟩:=ih i;exact⟨_,a.append_left _,.lk ne q b⟩
section
variable {X:Cx}{K:PySem.W.Frag}{rn:List Str}{E1:XK}{nk:St}{e:Expr}{wx:WX}{pos:Pos}
theorem El(he:PE X e (Vz K rn X.mg E1 nk wx))(hs:swapsWith e none pos.line X.env=pure false:=by rfl):kK X [.Expr e pos] (VA K rn X.mg E1 nk (yW wx)):=by intro pins s σ H D I ⟨e0,Hs,ρ,ae,N,Y,sr,h,f,fx⟩;exact TV (HZ he hs) pins s σ H D I ⟨e0,Hs,ρ,ae,_,_,sr,h,fun v H' ai m d As g1 r1 f1 q1=>f _ H' ai _ ae g1.sh (sr.grow g1) q1,fx⟩
end
def Du(j:Nat)(wb:WB)(hd:Addr->Str->WS):WS:=fun E ρ=>wb ρ E.nx fun n=>∀ a,hd a n { nx:=fun b9=>E.nx (b9.set j none),rt:=E.rt } (ρ.set j (some (.xc a)))
theorem Fd{X:Cx}{K:PySem.W.Frag}{L:Str->Hp->Prop}{rn:List Str}{R:Str}{body suite:List Stmt}{VB:Stmt}{np cG' pos:Pos}{j:Nat}{en:Str}{wb:WB}{hd:Addr->Str->WS}(xr:Hm X.K X.mg rn R) (hN:X.N.Nodup) (hj:X.N[j]? = some en) (hl:X.env.scope.names.lookup en=some .local) (kr:X.stack=X.env :: X.outer) (hf:X.env.frame=some X.env.locals)(hb:∀ pn xe E1 nk,yw rn (lR X pn xe) nk E1->kK (lR X pn xe) body (VA K rn X.mg E1 nk wb))(hh:∀ pn a oe n C,n∈rn->X.mg n=some (.ref C)->kD X.K C->(a,oe)∈pn->oe.cls=.ref C->lT (xD X pn a) K L (VB :: suite) (hd a n)) (hg:Gl X R:=by rfl) (fz:(R == ("__debug__" : Str))=false:=by decide) :
  QS X K L (.Try body [.ExceptHandler (some (.Name R np)) (some en) (VB :: suite) cG'] [] [] pos) (Du j wb hd):=by
 intro pins s σ H D I hx;obtain⟨Hs,ρ,ae,E,sr,h,k1,k2,k3,k4,kx⟩:=hx;obtain⟨r,hm,xr,sub⟩:=xr.ex;have sp0:∀ p∈X.pn++pins,p∈(X.pn++pins)++[]:=fun p hp=>by rw[kX];exact hp
 have wo:=hb (X.pn++pins) (fun e s'=>∃ kH H1 s1,Inv (lR X (X.pn++pins) X.xe) kH σ H1 s1/\fN X.prog X.w X.mg rn X.stack H1 s1 (fun c _ H'=>∃ n C,c=.ref C/\n∈rn/\X.mg n=some (.ref C)/\ay H H'/\∀ a,hd a n { nx:=fun b9=>E.nx (b9.set j none),rt:=E.rt } (ρ.set j (some (.xc a)))) e s') _ σ (fun kH H1 s1 e s' I1 c=>⟨kH,H1,s1,Inv.HW I1,c⟩) [] s σ H D (Inv.lR I fun p hp=>I.pin p (by rw[kX] at hp;exact hp)) ⟨rfl,Hs,ρ,ae,_,_,sr,h,k1,fun n H' s2 q hn C hC=>⟨n,C,rfl,hn,hC,s2,q⟩⟩
 refine wpAny_Try_except (oa wo (fun f s1 hs=>?_) fun e s' hx=>?_)
 ·have hs:=SP.qm hs sp0
  cases f with
  |next =>obtain⟨bE,H',I',q⟩:=hs;exact TR pins s1 bE H' D I' q
  |brk=>exact hs
  |cont=>exact hs
  |ret u=>exact hs
 ·obtain⟨kH,H1,s1,I1,a,n',C,a0,H',B,rfl,HM,os,bare,un,aE,qo,cov,fr,n,C2,eC,hn,VC,sm,hq⟩:=hx;cases eC;obtain⟨xc,cI'⟩:=sub n C hn VC;obtain⟨P7,g',d',t',Oz⟩:=s';obtain rfl:Oz=s1.os:=os;have cJ':Heap.FlyingW B (X.env :: X.outer) a (.ref C) a0 P7:=kr ▸ qo;have th:∀ b o,s1.heap.get? b=some o->∃ o',P7.get? b=some o':=fun b o e=>un.there b o e (by simp);refine wpAny_looks_onW (kr ▸ I.ok.frames) hf cJ' fun h4 held AW=>wpAny_landsW held fun h5 L4 up5=>?_;have P8:gj (dE X.stack) H' s1.heap P7 h5:=gj.of cov L4.1 (AW.trans up5) qo.2.2.1;have VD:=cov.next P8 aE th;have P9:=P8.un un;have P_:=P8.aE fr aE;have I5:Inv (lR X (X.pn++pins) X.xe) kH σ H' ⟨h5,g',d',t',s1.os⟩:=I1.call (h':=h5) (g':=g') (d':=d') (t':=t') (ch:=[]) P9 P_ bare (fun b z=>absurd z (by simp));refine wpAny_handleBy_cons (codeAny_handlers_test ?_) (by intro q;cases q);refine DS (X:=xD X (X.pn++pins) a) (pins:=kH) (Inv.xD I5 fun p hp=>I5.pin p hp) hg hm ?_ fz;refine vP xc xr cI' I5.gS L4.there (codeAny_handlers_suite_as ?_);refine lands_againW L4 fun h6 L5 up6=>?_;have ff5:h5.FunFrames B X.stack:=kr ▸ L4.2.2.1;have Qa:gj (dE X.stack) H' s1.heap h5 h6:=gj.of VD L5.1 up6 ff5;have un6:=Qa.un P9;have cO':=Qa.aE fr P_;have I6:Inv (lR X (X.pn++pins) X.xe) kH σ H' ⟨h6,g',d',t',s1.os⟩:=I1.call (h':=h6) (g':=g') (d':=d') (t':=t') (ch:=[]) un6 cO' bare (fun b z=>absurd z (by simp));obtain⟨oe,vs,he,ky,VF,_⟩:=L5.first;have nf:a∉dE X.stack:=fun z=>by have ff6:h6.FunFrames B X.stack:=kr ▸ L5.2.2.1;obtain⟨_,o,e1,d1⟩:=ff6.mem z;rw[he] at e1;cases e1;exact d1 vs VF
  have na:H' a=none:=by
   cases z:H' a with
   |none=>rfl
   |some u =>have:=(VD.next Qa P_ fun b o e=>P9.there b o e (by simp)) a oe he (.inl (by rw[z];exact fun z=>nomatch z)) nf;rw[L5.2.1] at this;cases this
  have frm:∀ b,b∈dE X.stack↔b=X.env.locals\/b∈X.fs:=fun b=>by rw[kr];unfold dE;rw[sd,hf];exact eK
  have pa:Es X H' ⟨h6,g',d',t',s1.os⟩ (a,oe):=⟨he,na,fun z=>nf ((frm a).mpr (.inl z)),fun z=>nf ((frm a).mpr (.inr z)),fun v z=>by rw[VF] at z;cases z⟩
  have I6h:Inv (xD X ((a,oe) :: (X.pn++pins)) a) [] σ H' ⟨h6,g',d',t',s1.os⟩:=Inv.xD I6 fun p hp=>by
   rw[kX] at hp;rcases eK.mp hp with z|z
   ·rw[z];exact pa
   ·exact I6.pin p (js _ z)
  have gr:=fH sr.wf sm ⟨ay.refl H',fun _ _ e=>e⟩;have sg:=sr.grow gr;obtain⟨cR',VG,r6⟩:=SR.Gz (a:=a) j sg.sr;refine N4 (X:=xD X ((a,oe) :: (X.pn++pins)) a) (v:=.ref a) I6h hN hj (.inl hl) rfl (fun s7 I7 _=>?_) (.inr hl);refine oa (hh ((a,oe) :: (X.pn++pins)) a oe n C hn VC xc fo ky [] s7 (σ.set j (some (.ref a))) H' { nx:=fun AX H8=>∃ B7 Fs L6,ay _ B7/\cS K B7 Fs AX H8 L6/\E.nx (Fs.set j none),rt:=D.rt } I7 ⟨_,ρ.set j (some (.xc a)),cR',_,⟨r6,sg.wf,VG.nodup sg.kz,fun b hb=>sg.own b (VG.subset hb)⟩,hq a,fun AX H8 B7 Fs L6 m8 r8 q8=>⟨B7,Fs,L6,m8,r8,q8⟩,fun _ _ _ _ _ _ _ z=>z,fun _ _ _ _ _ _ _ z=>z,
    fun v H2 ax m d As s2=>k4 v H2 ax m d As (gr.sh.trans s2),fun n H2 s2=>kx n H2 (gr.sh.trans s2)⟩) (fun f s8 hs=>?_) fun _ _ z=>z.elim
  cases f with
  |next =>
   obtain⟨AX,H8,I8,B7,Fs,L6,m8,r8,q8⟩:=hs;have I9:Inv X pins AX H8 s8:=Inv.Ae I8 I.ok.hd fun p hp=>by rw[kX];exact dz _ hp
   obtain⟨m,Qb,lk⟩:=id I9.loc;obtain⟨cS',VH,r9⟩:=SR.Dj j r8.sr;exact wpAny_nameGoes_keeps hl Qb (by rw[I9.ok.kind];rfl) fun h9 v Qc sb=>⟨AX.set j none,H8,Inv.drop I9 hN hj lk Qc sb,k1 _ H8 B7 _ cS' (gr.sh.trans m8) ⟨r9.Fp,r8.wf,VH.nodup r8.kz,fun b hb=>r8.own b (VH.subset hb)⟩ q8⟩
  |brk=>obtain⟨_,_,_,z⟩:=hs;exact z.elim
  |cont=>obtain⟨_,_,_,z⟩:=hs;exact z.elim
  |ret u =>
   obtain⟨v,AX,H8,I8,rv,q⟩:=hs;have I9:Inv X pins AX H8 s8:=Inv.Ae I8 I.ok.hd fun p hp=>by rw[kX];exact dz _ hp
   obtain⟨m,Qb,_⟩:=id I9.loc;exact wpAny_nameGoes hl Qb (by rw[I9.ok.kind];rfl) fun h9 m9 Qc sb=>⟨v,_,H8,Inv.forget I9 Qc sb,rv,q⟩
structure fx'(K:PySem.W.Frag)(mg:Str->Option Value)(R2 R1:Str):Prop where
 ex:∀ r C,mg R1=some (.ref r)->mg R2=some (.ref C)->mroIn K C (.ref r)=some false
end L2.Q
namespace L2.Q.R
open PySem PySem.Spec PyProof.Rows L2.Q
section
variable {ρ:L2.Q.Env}{E:m5}{j:Nat}{wb:WB}{hd:Addr->Str->WS}{sp:dS}{t:WA}{N:L2.Q.Env->Prop}{Y:Str->Prop}
theorem Kz:Du j wb hd E ρ=wb ρ E.nx fun n=>∀ a,hd a n { nx:=fun b9=>E.nx (b9.set j none),rt:=E.rt } (ρ.set j (some (.xc a))):=rfl
theorem Ih:yW (Al sp t) ρ N Y=t ρ fun ps=>sp (ps.map (·.2)) fun m d=>kb m d Y (bp (m,d) (f:=fun _=>N ρ) ⟨⟩):=rfl
end
end L2.Q.R
namespace L2
open PySem PySem.Spec PyProof.Rows
end L2
namespace L2.Q
open PySem PySem.Spec PyProof.Rows
def AY(m:Md)(y:D)(k:List D->Prop):Prop:=match m,y with
 |.ow true,.list ys=>k ys
 |_,_=>False
theorem CJ{m:Md}{y:D}{k:List D->Prop}(h:AY m y k):∃ ys,m=.ow true/\y=.list ys/\k ys:=by
 unfold AY at h;split at h
 ·exact⟨_,rfl,rfl,h⟩
 ·exact h.elim
section
variable {X:Cx}{K:PySem.W.Frag}{L:Str->Hp->Prop}{a b c:Expr}{tb tk:WE}{pos pos' apos:Pos}{i:Nat}{x:Str}
theorem bP.L7{Hs H:Hp}{xs:List D}{v:V}{As:List Addr}(r:bP K Hs H true (.list xs) v As):∃ a vs A,v=.ref a/\As=a :: A/\vs.length<=sizeLine/\H a=some (.lst vs)/\aF K Hs H true xs vs A:=by
 cases r with
 |sh hf _=>exact absurd (hf rfl) (by simp[D.flat])
 |list z e rs=>exact⟨_,_,_,rfl,rfl,z,e,rs⟩
def zp(i:Nat)(tb:WE):WS:=fun E ρ=>ve ρ[i]? fun xs=>tb ρ fun m y=>AY m y fun ys=>xs.length+ys.length<=sizeLine/\E.nx (ρ.set i (some (.ow true (.list (xs++ys)))))
theorem Bl(hN:X.N.Nodup)(hi:X.N[i]? = some x)(hx:Loc X.env.scope x)(ha:PE X a (sv i))(hb:QE X K b tb)(hK:X.K=K:=by rfl)(hs:swapsWith (.BinOp a .Add b pos) (some (.Name x pos')) apos.line X.env=pure false:=by rfl) (hf:X.fn x=true\/X.env.scope.names.lookup x=some .local:=by first|exact .inl rfl|exact .inr rfl|assumption):QS X K L (.Assign [.Name x pos'] (.BinOp a .Add b pos) apos) (zp i tb):=by
 subst hK;refine PS.imp (TY hN hi hx (Oo vh ha hb) hs hf) fun D σ H hx=>jw hx fun Hs ρ ae E sr h k1 k2 k3 k4=>?_;obtain⟨xs,ei,h⟩:=CN h;obtain⟨v,As,bX,ev,r,sA,sT,dj,VJ⟩:=SR.take i sr.sr ei sr.kz;obtain⟨a0,vs,A,rfl,rfl,z,ea,rs⟩:=r.L7;refine⟨_,ev,Hs,ρ,ae,_,sr,h,fun u H1 aw m y Bs g1 r1 f1 q1=>?_⟩;obtain⟨ys,rfl,rfl,hz,q⟩:=CJ q1;obtain⟨c0,ws,B,rfl,rfl,z2,ec,oj⟩:=r1.1.L7;have l1:=rs.length;have l2:=oj.length;refine⟨vs,ws,.inl (.inl (g1.all _ _ ea)),.inl (.inl ec),by lia,fun p hp=>?_⟩;have g2:=BU (o:=.lst (vs++ws)) g1.wf hp (fun _ z=>nomatch z);have g:=g1.trans g2;have sn:cS X.K Hs (ρ.set i none) σ H bX:=⟨VJ,sr.wf,sT.nodup sr.kz,fun x hx=>sr.own x (sT.subset hx)⟩
 have s3:=sn.grow g;obtain⟨nA,AO⟩:=mx.mp (sA.nodup sr.kz);obtain⟨nB,Qe⟩:=mx.mp f1.1;have hA:∀ w∈A,H w≠none:=fun w hw=>(rs.own w hw).ne;have hB:∀ w∈B,H1 w≠none:=fun w hw=>(oj.own w hw).ne;have fB:∀ w∈B,aw w=none/\H w=none:=fun w hw=>f1.2 w (dz _ hw);have p1:∀ w,H1 w≠none->w≠p:=fun w hw e=>hw (e ▸ hp);have L8:∀ w∈A,H1 w≠none:=fun w hw=>by obtain⟨o,e⟩:=DF.mp (hA w hw);rw[g1.all _ _ e];exact fun z=>nomatch z
 have rr:bP X.K aw (upd H1 p (.lst (vs++ws))) true (.list (xs++ys)) (.ref p) (p :: (A++B)) :=
  .list (by rw[kg];lia) gg (((rs.grow g1.sh g1.all).fF (ay.refl _) fun w hw=>eS (p1 w (L8 w hw))).append (oj.fF (ay.refl _) fun w hw=>eS (p1 w (hB w hw))))
 obtain⟨fk,s4⟩:=s3.set i (m:=.ow true) (sl:=.ow true (.list (xs++ys))) ⟨rr,CY _ _⟩ (mx.mpr ⟨fun w=>(eW.mp w).elim (fun w=>p1 p (L8 p w) rfl) fun w=>p1 p (hB p w) rfl,hU.mpr ⟨AO,Qe,fun w h1 y h2 e=>hA w h1 (e ▸ (fB y h2).2)⟩⟩) (fun w hw=>by
  rcases eK.mp hw with rfl|hw
  ·exact⟨g1.wf.sub.free hp,fun t=>(by
    have:=(sr.sr.own w (sT.subset t)).ne;obtain⟨o,e⟩:=DF.mp this;rw[g1.all _ _ e] at hp;cases hp)⟩
  ·rcases eW.mp hw with hw|hw
   ·exact⟨g1.lS (sr.own w (sA.subset (dz _ hw))) (hA w hw),dj w (dz _ hw)⟩
   ·exact⟨(fB w hw).1,fun t=>(sr.sr.own w (sT.subset t)).ne (fB w hw).2⟩) rfl
 rw[List.set_set] at s4;exact k1 _ _ aw _ fk g.sh s4 q
def jV(i:Nat)(tb tk:WE):WS:=fun E ρ=>ve ρ[i]? fun xs=>tb ρ fun m y=>AY m y fun ys=>xs.length+ys.length<=sizeLine/\tk ρ fun _ j=>intD j fun k=>∃ d,L2.eB (xs++ys) k=some d/\E.rt (rz d) d
theorem oG{p2:Pos}(ha:PE X a (sv i))(hb:QE X K b tb)(hc:QE X K c tk)(hs:IQ c:=by exact fun _ _=>rfl)(hK:X.K=K:=by rfl):QS X K L (.Return (some (.Subscript (.BinOp a .Add b pos) c p2)) pos') (jV i tb tk):=by
 subst hK;refine PS.imp (zo (OO (UZ rfl) (Oo vh ha hb) hc hs)) fun D σ H hx=>jw hx fun Hs ρ ae E sr h k1 k2 k3 k4=>?_;obtain⟨xs,ei,h⟩:=CN h;obtain⟨v,As,bX,ev,r,sA,sT,dj,VJ⟩:=SR.take i sr.sr ei sr.kz;obtain⟨a0,vs,A,rfl,rfl,z,ea,rs⟩:=r.L7;refine⟨_,ev,Hs,ρ,ae,_,sr,h,fun u H1 aw m y Bs g1 r1 f1 q1=>?_⟩;obtain⟨ys,rfl,rfl,hz,q⟩:=CJ q1;obtain⟨c0,ws,B,rfl,rfl,z2,ec,oj⟩:=r1.1.L7;have l1:=rs.length;have l2:=oj.length;refine⟨vs,ws,.inl (.inl (g1.all _ _ ea)),.inl (.inl ec),by lia,fun p hp=>?_⟩;have g2:=BU (o:=.lst (vs++ws)) g1.wf hp (fun _ z=>nomatch z);have g:=g1.trans g2;obtain⟨nA,AO⟩:=mx.mp (sA.nodup sr.kz);obtain⟨nB,Qe⟩:=mx.mp f1.1;have hA:∀ w∈A,H w≠none:=fun w hw=>(rs.own w hw).ne;have hB:∀ w∈B,H1 w≠none:=fun w hw=>(oj.own w hw).ne;have fB:∀ w∈B,aw w=none/\H w=none:=fun w hw=>f1.2 w (dz _ hw);have p1:∀ w,H1 w≠none->w≠p:=fun w hw e=>hw (e ▸ hp);have L8:∀ w∈A,H1 w≠none:=fun w hw=>by obtain⟨o,e⟩:=DF.mp (hA w hw);rw[g1.all _ _ e];exact fun z=>nomatch z
 have ra:aF X.K aw (upd H1 p (.lst (vs++ws))) true (xs++ys) (vs++ws) (A++B):=(((rs.grow g1.sh g1.all).fF (ay.refl _) fun w hw=>eS (p1 w (L8 w hw))).append (oj.fF (ay.refl _) fun w hw=>eS (p1 w (hB w hw))))
 have nd:(A++B).Nodup:=hU.mpr ⟨AO,Qe,fun w h1 y h2 e=>hA w h1 (e ▸ (fB y h2).2)⟩;have own:∀ w∈A++B,aw w=none:=fun w hw=>by
  rcases eW.mp hw with hw|hw
  ·exact g1.lS (sr.own w (sA.subset (dz _ hw))) (hA w hw)
  ·exact(fB w hw).1
 have ow1:∀ w∈A++B,upd H1 p (.lst (vs++ws)) w≠none:=fun w hw=>(ra.own w hw).ne;refine⟨aw,ρ,ae,_,sr.grow g,q,fun u H3 g7 m y Bs g3 r3 f3 q3=>?_⟩;have ry:=r3.rep g3.wf
 cases ry with
 |int k =>
  obtain⟨d,e3,q⟩:=q3;obtain⟨j,ej,ed⟩:=CT e3;obtain⟨w,C,ew,mS,sC,_⟩:=ra.at ed nd;have r2:=mS.grow g3.sh g3.all;refine .inl ⟨vs++ws,w,.inl (.inl (g3.all _ _ gg)),Gw (by rw[<- ra.length];exact ej) ew,?_⟩
  cases hf:d.flat with
  |true =>rw[rz,hf] at q;exact k4 w H3 g7 .sh d [] (g.sh.trans g3.sh) g3.wf ⟨rfl,(r2.rep g3.wf.sub fun _ _=>rfl).kj g3.wf.gE hf⟩ mz (fun c hc=>oB hc) q
  |false =>rw[rz,hf] at q;exact k4 w H3 g7 (.ow true) d C (g.sh.trans g3.sh) g3.wf ⟨r2,r2.ne hf⟩ (sC.nodup nd) (fun c hc=>g3.lS (own c (sC.subset hc)) (ow1 c (sC.subset hc))) q
 |_=>exact q3.elim
end
end L2.Q
namespace L2.Q.R
open PySem PySem.Spec PyProof.Rows L2.Q
section
variable {tb tk:WE}{ρ:L2.Q.Env}{E:m5}{i:Nat}
theorem cU'{ys:List L2.Q.D}{k:List L2.Q.D->Prop}:AY (.ow true) (.list ys) k=k ys:=rfl
theorem Ik:zp i tb E ρ=bp ρ[i]? (f:=fun o=>ve o fun xs=>tb ρ fun m y=>bp (m,y) (f:=fun p=>AY p.1 p.2 fun ys=>xs.length+ys.length<=sizeLine/\E.nx (ρ.set i (some (.ow true (.list (xs++ys)))))) ⟨⟩) ⟨⟩:=rfl
theorem Gh:jV i tb tk E ρ=bp ρ[i]? (f:=fun o=>ve o fun xs=>tb ρ fun m y=>bp (m,y) (f:=fun p=>AY p.1 p.2 fun ys=>xs.length+ys.length<=sizeLine/\tk ρ fun _ j=>bp j (f:=fun j=>intD j fun k=>∃ d,L2.eB (xs++ys) k=some d/\bp d (f:=fun d=>E.rt (rz d) d) ⟨⟩) ⟨⟩) ⟨⟩) ⟨⟩:=rfl
end
end L2.Q.R
namespace L2.Q
open PySem PySem.Spec PyProof.Rows PySem.W
section
variable {M:Model}{A:Around}{E:Value->Shared->Prop}{s:Shared}
theorem yc{base:Heap}{env:PySem.Env}{outer:List PySem.Env}{L e:Addr}{cls a0 fl:Value}{Q:Unit->Shared->Prop}(AZ:A.frames=some (env :: outer))(hf:env.frame=some L)(k1:base.StaysIn s.heap)(k2:base.get? e=none)(k3:s.heap.FunFrames base (env :: outer))(k4:s.heap.TracedAtW base e cls a0 fl)(hQ:∀ h',Heap.FlyingW base outer e cls a0 h'->s.heap.UpToSlots h'->Q () { s with heap:=h' }):wpAny M A (leaving env (.ref e)) Q E s:=by
 by_cases z:fl=rawInt L
 ·subst z;unfold leaving;exact bS (wpAny_noteFrame_againW hf k4 (wpAny_landsW ⟨k1,k2,k3,k4⟩ fun h' fy up=>hQ h' ⟨fy.1,fy.2.1,fy.2.2.1.2.2,fy.2.2.2⟩ up))
 ·obtain⟨oe,vs,T,oT,ts,ge,gc,gd,g1,gn,ne,gT,gD,g3⟩:=k4;have ot:∀ b,b≠T->(s.heap.update T (Obj.mapFields (·.setIfInBounds 3 Value.none))).get? b=s.heap.get? b:=fun b hb=>NH _ _ (Ne.symm hb);have nr:∀ b o,s.heap.get? b=some o->(∀ us,o.data≠.fields us)->b≠T:=fun b o hb hn q=>by rw[q,gT] at hb;cases hb;exact hn _ gD
  obtain⟨rfl,g0⟩:=gc;unfold leaving noteFrame;simp only[hf];refine bS (bS (wpAny_field ge gd g1 ?_));rw[if_pos (by simp)];refine bS (wpAny_field gT gD g3 ?_);rw[if_neg (by simpa using z)];refine bS (wpAny_setField gT gD (DC.mp g3).1 ?_);refine wpAny_newEntryW AZ (k3.of_keeps fun b o hb hn=>⟨o,(ot b (nr b o hb hn)).trans hb,rfl⟩) hf ((ot e (Ne.symm ne)).trans ge) (fun b o hb=>(ot b fun q=>by rw[q,gn] at hb;cases hb).trans (k1 b o hb)) k2 gd (DC.mp g1).1 g0 fun h' lf=>?_;exact hQ h' ⟨lf.1,k2,lf.2.1.2.2,lf.2.2.1⟩ fun b o hb hn=>lf.2.2.2 b o ((ot b (nr b o hb hn)).trans hb) hn
end
def L9(X:Cx)(scope:Scope)(C:Addr):Value->Shared->Prop:=notedBy (model X.prog X.w) X.A (compEnvC scope (kL X.env scope.names []) C X.env) fun e s'=>∃ m,s'.heap.Ns C m/\∀ h',Heap.SameBut C s'.heap h'->∀ ce:PySem.Env,ce.locals=C ->
 wpAny (model X.prog X.w) X.A (PySem.passOn "comprehension.variables-let-go" e ce:Sem Value) (fun _ _=>False) X.xe { s' with heap:=h' }
def aU(X:Cx)(scope:Scope)(C:Addr)(N:List Str)(fp:List Addr)(cw:Shared)(cx:Hp):Cx:={ cM X scope C N fp cw cx with xe:=L9 X scope C }
def qI(X:Cx)(C:Addr)(fp:List Addr)(cw:Shared)(cx:Hp):Prop:=∃ pins σ,Inv X pins σ cx cw/\(∀ b∈fp,mM X pins cx b)/\C=cw.heap.objs.size
section
variable {P:Program}{w:World}{K:PySem.W.Frag}{mg:Str->Option Value}{base:Heap}{N N':List Str}{qual:Str}{scope sc:Scope}{f:Addr}{cd:Value}{A:Around}{outer:List PySem.Env}{df:Shared}{nv:Hp}{E:XK}{rn:List Str}
theorem Hu{C:Addr}{fp:List Addr}{cw:Shared}{cx:Hp}(S:qI (i9 (fN P w mg rn) P w K mg base N qual scope f cd A outer df nv E) C fp cw cx):Passes (fN P w mg rn) (aU (i9 (fN P w mg rn) P w K mg base N qual scope f cd A outer df nv E) sc C N' fp cw cx) E:=by
 intro kH τ H s e s' I hx;obtain⟨pins,σ,I3,f3,eC⟩:=S;generalize hX:i9 (fN P w mg rn) P w K mg base N qual scope f cd A outer df nv E=X at *
 obtain⟨a,n,C',a0,H',B,rfl,hn,os,bare,un,aE,qo,cov,fr,hE⟩:=hx;have J:Inv X pins σ H s:=Inv.Oi (ch:=fp) I3 I.os I.base I.aE I.bare fun b hb=>by obtain⟨_,f1,_,D7,f4,f5⟩:=f3 b hb;exact⟨D7,f1,f4,f5⟩
 have kC:=I3.yk (b:=C) (H':=H) (by rw[eC];exact cK _) I.free;have kr:X.stack=X.env :: X.outer:=by subst hX;rfl
 have AZ:X.env.frame=some X.env.locals:=by subst hX;rfl
 have hex:X.ex=[]:=by subst hX;rfl
 have hs:∀ b,b∈dE X.stack↔b=X.env.locals\/b∈X.fs:=fun b=>by rw[kr];unfold dE;rw[sd,AZ];exact eK
 have nC:C∉dE X.stack:=fun z=>((hs C).mp z).elim kC.2.1 kC.2.2.1;have sC:X.df.heap.get? C=none:=by
  cases q:X.df.heap.get? C with
  |none=>rfl
  |some o=>exact absurd (kl (eR q) (kC.2.2.2.1.elim (fun z=>by rw[hex] at z;cases z) id)) (x6 _)
 have sL:X.df.heap.get? X.env.locals=none:=by
  cases q:X.df.heap.get? X.env.locals with
  |none=>rfl
  |some o=>exact absurd (kl (eR q) J.ok.above) (x6 _)
 obtain⟨m,ns,_⟩:=I.loc;obtain⟨oC,es,ep,gC,dC,rC⟩:=ns;have gC':s'.heap.get? C=some oC:=un.keep C oC gC I.free nC (by simp);have VL:H' C=none:=un.free C oC gC I.free (by simp);have VM:s'.heap.Ns C m:=⟨oC,es,ep,gC',dC,rC⟩
 obtain⟨u0,c0⟩:=rq.up (X:=X) (h':=s'.heap) kr AZ hex J un cov ⟨fun b o e _ _=>e,fun b o e _=>⟨o.slots,e⟩⟩ fr (by subst hX;exact aE);show wpAny (model X.prog X.w) X.A (noteFrame (.ref a) (compEnvC sc (kL X.env sc.names []) C X.env)) _ _ s';have en:noteFrame (.ref a) (compEnvC sc (kL X.env sc.names []) C X.env)=noteFrame (.ref a) X.env:=by unfold noteFrame PySem.frameOf;rfl
 rw[en];have qo:Heap.FlyingW B (X.env :: X.outer) a (.ref C') a0 s'.heap:=kr ▸ qo;have hA:X.A.frames=some (X.env :: X.outer):=by rw[<- kr];exact J.ok.frames
 refine wpAny_looks_onW hA AZ qo fun h1 held up1=>⟨m,up1.ns VM,fun h2 sb ce _=>?_⟩
 obtain⟨b1,b2,b3,b4⟩:=held;obtain⟨oC1,_,_,VN,VP,_⟩:=up1.ns VM;obtain⟨oe,vs,T,oT,ts,ge,gc,gd,g1,gn,ne,gT,gD,g3⟩:=b4;have aC:a≠C:=fun z=>by rw[z,VN] at ge;cases ge;rw[VP] at gd;cases gd
 have tC:T≠C:=fun z=>by rw[z,VN] at gT;cases gT;rw[VP] at gD;cases gD
 have Qf:h2.get? a=some oe:=(sb.2 a aC).trans ge;have VQ:h2.get? T=some oT:=(sb.2 T tC).trans gT;have gz:3<ts.size:=(DC.mp g3).1;unfold PySem.passOn;refine bS (wpAny_field Qf gd g1 ?_);rw[if_neg (by simp)];refine bS ?_;unfold setFlight;refine bS (wpAny_field Qf gd g1 ?_);rw[if_pos (by simp)];refine wpAny_setField VQ gD gz (wpAny_throw ?_);generalize (ce.frame.elim Value.none fun f=>rawInt f)=fl;have ot:∀ b,b≠T->(h2.update T (Obj.mapFields (·.setIfInBounds 3 fl))).get? b=h2.get? b:=fun b hb=>NH _ _ (Ne.symm hb);have gT3:=Heap.get?_update_self (Obj.mapFields (·.setIfInBounds 3 fl)) VQ (Obj.isFreed_of_fields (Obj.data_mapFields gD _));have nf:∀ b∈dE (X.env :: X.outer),∃ o,s'.heap.get? b=some o/\∀ us,o.data≠.fields us:=fun b hb=>(qo.2.2.1.mem hb).2;have bk:∀ b o,B.get? b=some o->b≠C->(h2.update T (Obj.mapFields (·.setIfInBounds 3 fl))).get? b=some o:=fun b o hb nb=>by rw[ot b (fun z=>by rw[z,gn] at hb;cases hb),sb.2 b nb];exact b1 b o hb
 have VR:∀ b o,h1.get? b=some o->(∀ us,o.data≠.fields us)->b≠C->(h2.update T (Obj.mapFields (·.setIfInBounds 3 fl))).get? b=some o:=fun b o hb hn nb=>by rw[ot b (fun z=>by rw[z,gT] at hb;cases hb;exact hn _ gD),sb.2 b nb];exact hb
 have VS:∀ b∈dE (X.env :: X.outer),H' b=none:=fun b hb=>fr b (by rw[show(aU X sc C N' fp cw cx).stack=X.stack from rfl,kr];exact hb);have VW:C∉dE (X.env :: X.outer):=by rw[<- kr];exact nC
 have Qg:∀ b o,(hideAll B [C]).get? b=some o->B.get? b=some o/\b≠C:=fun b o q=>⟨of_hideAll _ q,fun z=>by rw[z,hideAll_none [C] (mw.mpr rfl)] at q;cases q⟩
 have Qh:∀ b,B.get? b=none->(hideAll B [C]).get? b=none:=fun b q=>by
  cases z:(hideAll B [C]).get? b with
  |none=>rfl
  |some o=>rw[(Qg b o z).1] at q;cases q
 have ff3:∀ {l:List PySem.Env},h1.FunFrames B l->C∉dE l->(h2.update T (Obj.mapFields (·.setIfInBounds 3 fl))).FunFrames (hideAll B [C]) l:=fun {l}=>by
  induction l with
  |nil=>exact fun _ _=>trivial
  |cons v l ih =>
   rintro⟨q1,⟨L,o,q2,q3,q4,q5⟩,q6⟩ nl;have VX:C≠L/\C∉dE l:=by unfold dE at nl ⊢;rw[sd,q2] at nl;exact⟨fun z=>nl (z ▸ fo),fun z=>nl (dz _ z)⟩
   exact⟨q1,⟨L,o,q2,Qh L q3,VR L o q4 q5 (Ne.symm VX.1),q5⟩,ih q6 VX.2⟩
 have kx:∀ {h4:Heap},Heap.FlyingW (hideAll B [C]) X.outer a (.ref C') a0 h4->(h2.update T (Obj.mapFields (·.setIfInBounds 3 fl))).UpToSlots h4->gj (dE X.stack) H' X.df.heap s'.heap h4:=fun {h4} f4 AW=>by
  refine⟨fun b o e k nb=>?_,fun b o e hb=>?_⟩
  ·have nbC:b≠C:=fun z=>by subst z;exact k.elim (fun y=>y VL) fun y=>y sC
   have:=c0 b o e k fun z=>nb ((hs b).mpr (.inr z));exact f4.1 b o (hideAll_get [C] this (fun z=>nbC (mw.mp z)))
  ·rw[kr] at hb;obtain⟨o',e',hd⟩:=nf b hb;rw[e] at e';cases e';obtain⟨sl,e1⟩:=up1 b o e hd;obtain⟨DH,e2⟩:=AW b _ (VR b _ e1 hd fun z=>VW (z ▸ hb)) hd;exact⟨DH,e2⟩
 have fin:∀ {h4:Heap},Heap.FlyingW (hideAll B [C]) X.outer a (.ref C') a0 h4->(h2.update T (Obj.mapFields (·.setIfInBounds 3 fl))).UpToSlots h4->fN P w mg rn X.outer X.nv X.df E (.ref a) { s' with heap:=h4 }:=fun {h4} f4 AW=>by
  have mv:=kx f4 AW;have nL:∀ b,(H' b≠none\/X.df.heap.get? b≠none)->b∉X.fs->b∉dE X.stack:=fun b k nb z=>by
   rcases (hs b).mp z with rfl|z
   ·exact k.elim (fun y=>y (VS _ (by rw[<- kr];exact(hs _).mpr (.inl rfl)))) fun y=>y sL
   ·exact nb z
  have VY:gj X.fs H' X.df.heap s'.heap h4:=⟨fun b o e k nb=>mv.keep b o e k (nL b k nb),fun b o e hb=>mv.slot b o e ((hs b).mpr (.inr hb))⟩
  have VZ:∀ b∈X.fs,H' b=none:=fun b hb=>VS b (by rw[<- kr];exact(hs b).mpr (.inr hb));refine⟨a,n,C',a0,H',hideAll B [C],rfl,hn,os.trans J.os,bare,VY.un u0,VY.aE VZ (by subst hX;exact aE),f4,fun b o e k nb=>?_,VZ,hE⟩;have ex:∃ o',s'.heap.get? b=some o':=by
   rcases k with k|k
   ·cases q:H' b with
    |none=>exact absurd q k
    |some u=>exact fw.there (aE b u q)
   ·cases q:X.df.heap.get? b with
    |none=>exact absurd q k
    |some o0=>exact u0.there b o0 q (by simp)
  obtain⟨o',e'⟩:=ex;have e2:=mv.keep b o' e' k (nL b k nb);rw[show({ s' with heap:=h4 }:Shared).heap=h4 from rfl] at e;rw[e] at e2;cases e2;exact hideAll_get [C] (c0 b o e' k nb) fun z=>by have:=mw.mp z;subst this;exact k.elim (fun y=>y VL) fun y=>y sC
 subst hX;refine yc (fl:=fl) hA rfl (fun b o q=>bk b o (Qg b o q).1 (Qg b o q).2) (Qh a b2) (ff3 b3 VW) ⟨oe,vs,T,_,_,(ot a (Ne.symm ne)).trans Qf,gc,gd,g1,Qh T gn,ne,gT3,Obj.data_mapFields gD _,by simp[Array.getElem?_setIfInBounds,gz]⟩ fun h4 f4 AW=>fin f4 AW
end
section
variable {X:Cx}{tg iter elt:Expr}{ifs:List Expr}{scope:Scope}{pos:Pos}{wi:TI}{g:TG}{tc:TT}{te:TE}{tn cn:List Str}{ix:List Nat}
theorem tY{UU:Pos}{use:Option (Value->Sem Unit)}{P:Value->Shared->Prop}(hc:X.calm=true)(hi:PI X tg iter wi)(O:cC X scope tn cn ix)(hg:∀ C fp cw cx,PG (aU X scope C (tn++cn) fp cw cx) tg g) (lP:∀ C fp cw cx,sM (aU X scope C (tn++cn) fp cw cx) ifs tc) (he:∀ C fp cw cx,qI X C fp cw cx->PE (aU X scope C (tn++cn) fp cw cx) elt te)(hs:∀ x,foldedSetIterable iter X.env x=pure x) {pins:List (Addr × Obj)} {s:Shared} {σ:St} {H:Hp} {Q:V->Hp->Prop} (I:Inv X pins σ H s) (h:uH wi g tc te tn.length ix σ H Q)(fin:∀ (C D:Addr) (m:Str->Option Value) (H5:Hp) (s6:Shared) (r:Flow),Inv X pins σ H5 s6->s6.heap.Ns C m->H5 C=none->mM X pins H5 C->Q (.ref D) H5->compPost (model X.prog X.w) X.A X.xe use P (.ref D) C (.ok r) s6) :
  wpAny (model X.prog X.w) X.A (comprehension (.ListComp elt [⟨tg,iter,ifs,0⟩] scope pos) scope X.env UU (newList []) false (eval iter X.env) use) P X.xe s:=by
 have ky:∀ y∈scope.names,y.2=.free->∃ c,X.env.cells.lookup y.1=some c:=fun y hy hk=>I.ok.has y.1 (O.free y hy hk);have sub:∀ x c,(kL X.env scope.names []).lookup x=some c->X.env.cells.lookup x=some c:=fun x c e=>nH ky (fun y d h=>by simp at h) e;refine wpAny_comprehension_free (use:=use) rfl hs (lr ky) O.kind O.names (cf (hi pins s σ H _ I h) fun v s1 h1=>cf h1 fun H0 s2 h2=>?_);obtain⟨it,fp,xi,J,H2,e,I2,T,zv,f2,h2⟩:=h2;subst e;obtain⟨W,⟨m0,w0⟩,turn⟩:=h2 s2.heap.objs.size (I2.aE.fresh (cK _));refine wpAny_newObj_type ?_;have I3:Inv X pins σ (upd H2 s2.heap.objs.size (.lst [])) { s2 with heap:=s2.heap.push { cls:=.type "list",data:=.seq ([]:List Value).toArray } }:=I2.D4 (its:=[]) (t':=s2.toks) .nil (i5 _);generalize hD:s2.heap.objs.size=D at *
 generalize z5:({ s2 with heap:=s2.heap.push { cls:=.type "list",data:=.seq ([]:List Value).toArray } }:Shared)=s3 at *
 have An:∀ b o,s2.heap.get? b=some o->s3.heap.get? b=some o:=fun b o e=>by rw[<- z5];exact jv _ e
 have sz3:s3.heap.objs.size=D+1:=by rw[<- z5,<- hD];exact Heap.size_push ..
 have f3:∀ b∈fp,mM X pins (upd H2 D (.lst [])) b:=fun b hb=>by obtain⟨f0,fr⟩:=f2 b hb;obtain⟨o,ho,_⟩:=T.obj _ _ zv b hb;refine⟨?_,fr⟩;rw[eS (i3 (by rw[<- hD];exact eR ho))];exact f0
 have qV:xi 0 s3.heap:=T.keep _ _ _ zv fun b hb o e=>An b o e;have O2:∀ b∈fp,b<s3.heap.objs.size:=fun b hb=>by obtain⟨o,ho,_⟩:=T.obj _ _ qV b hb;exact eR ho
 refine wpAny_newFunctionEnv O.UT (by intro y hy;simp at hy) (fun yy O3 O4=>?_) O.kind;have og:∀ b o,s3.heap.get? b=some o->yy.get? b=some o:=fun b o e=>O4.extBut b o (i3 (eR e)) (jv _ e)
 -- the block's context
 have xk:(aU X scope s3.heap.objs.size (tn++cn) fp s3 (upd H2 D (.lst []))).Ok:=by have:=tW (C:=s3.heap.objs.size) O I3 f3 O2 (cK _);cases this;constructor<;>assumption
 have I4:Inv (aU X scope s3.heap.objs.size (tn++cn) fp s3 (upd H2 D (.lst []))) [] (jh tn.length ix σ) (upd H2 D (.lst [])) { s3 with heap:=yy,toks:=s3.toks+([]:List (Str × Value)).length }:=by
  refine⟨xk,rfl,I3.bare,Un.kept og,⟨_,O3,fun i x v e1 e2 e3=>?_⟩,fun x c e=>?_,I3.aE.fresh (cK _),fun x c e=>I3.kN x c (sub x c e),fun p hp=>absurd hp (by simp[aU,cM]),I3.aE.kept og,?_⟩
  ·have ub:tn.length<=i:=by
    by_cases q:i<tn.length
    ·unfold jh at e2;rw[x3 (by simpa using q),GB] at e2;simp[q] at e2
    ·lia
   unfold jh at e2;rw[n4 (by simpa using ub),x4,vj] at e2;have e1:(tn++cn)[i]? = some x:=e1;rw[n4 ub] at e1
   cases q:ix[i-tn.length]? with
   |none=>rw[q] at e2;cases e2
   |some j =>
    rw[q] at e2;obtain⟨y,c1,c2,c3,c4,c5⟩:=O.cap _ _ q;rw[c1] at e1;cases e1;have e2:σ[j]?.join=some v:=Option.some.inj e2;have ej:σ[j]? = some (some v):=by
     cases z:σ[j]? with
     |none=>rw[z] at e2;cases e2
     |some o=>rw[z] at e2;exact congrArg some e2
    obtain⟨m,hn,hl⟩:=I3.loc;obtain⟨u,r,l⟩:=hl j x v c2 ej (c3.elim (fun z=>.inr (.inl z)) fun z=>.inr (.inr z));refine⟨u,r,.inr ⟨c5,?_⟩⟩;rcases l with⟨hk,_⟩|⟨hk,c,Bz,O5⟩
    ·have hk:X.env.scope.names.lookup x=some .local:=hk;rcases c3 with z|z
     ·rw[z] at hk;cases hk
     ·rw[z] at hk;cases hk
    ·obtain⟨c',yi⟩:=kI (env:=X.env) (cs:=[]) (Or.inl c4);have:=sub x c' yi;rw[Bz] at this;cases this;obtain⟨o,ho,hd⟩:=O5;exact⟨c,yi,o,og _ _ ho,hd⟩
  ·obtain⟨v,o,ho,hd⟩:=I3.cell x c (sub x c e);exact⟨v,o,og _ _ ho,hd⟩
  ·show(jh tn.length ix σ).length=(tn++cn).length;unfold jh;simp[O.len]
 -- from the block back to the body
 have back:∀ {τ:St} {H':Hp} {s':Shared},Inv (aU X scope s3.heap.objs.size (tn++cn) fp s3 (upd H2 D (.lst []))) [] τ H' s'->Inv X pins σ H' s':=fun {τ H' s'} I' =>
  Inv.Oi (ch:=fp) I3 I'.os I'.base I'.aE I'.bare fun b hb=>by obtain⟨_,f1,_,D7,f4,f5⟩:=f3 b hb;exact⟨D7,f1,f4,f5⟩
 have Ap:∀ {H':Hp},(∀ b∈fp,H' b=none)->∀ b∈fp,mM (aU X scope s3.heap.objs.size (tn++cn) fp s3 (upd H2 D (.lst []))) [] H' b:=fun hn b hb =>
  ⟨hn b hb,(xk.sj b hb).1,xk.sq b hb,.inl hb,(xk.sj b hb).2,fun p hp=>absurd hp (by simp[aU,cM])⟩
 have loop:∀ s4:Shared,Inv (aU X scope s3.heap.objs.size (tn++cn) fp s3 (upd H2 D (.lst []))) [] (jh tn.length ix σ) (upd H2 D (.lst [])) s4->xi 0 s4.heap ->
   codeAny (model X.prog X.w) X.A (.compLoop (.ListComp elt [⟨tg,iter,ifs,0⟩] scope pos) 0 (.ref it) (.ref D) (compEnvC scope (kL X.env scope.names []) s3.heap.objs.size X.env)) (compPost (model X.prog X.w) X.A X.xe use P (.ref D) s3.heap.objs.size) s4:=by
  intro s4 I4 O6;refine eX (fun n s'=>∃ i τ H',Inv (aU X scope s3.heap.objs.size (tn++cn) fp s3 (upd H2 D (.lst []))) [] τ H' s'/\xi i s'.heap/\(∀ b∈fp,H' b=none)/\W i n τ H') (L9 X scope s3.heap.objs.size) ?_ (fun e s' z=>by cases use<;>exact z) m0 ⟨0,_,_,I4,O6,fun b hb=>(f3 b hb).1,w0⟩
  rintro n s5 ⟨i,τ,H5,I5,wd,zC,w5⟩;rcases turn i n τ H5 w5 with⟨stop,qn⟩|⟨go,N1,N2,O7,oy,step⟩
  ·refine cf (T.done (aU X scope s3.heap.objs.size (tn++cn) fp s3 (upd H2 D (.lst []))) rfl rfl rfl hc i [] s5 τ H5 (L9 X scope s3.heap.objs.size) I5 (Ap zC) wd stop) fun r s6 dc=>?_;obtain⟨hr,I6⟩:=dc;subst hr;have J6:=back I6;obtain⟨m,hn,_⟩:=I6.loc;exact fin _ D m H5 s6 _ J6 hn I6.free (I3.yk (b:=s3.heap.objs.size) (H':=H5) (cK _) I6.free) qn
  ·refine cf (T.item (aU X scope s3.heap.objs.size (tn++cn) fp s3 (upd H2 D (.lst []))) rfl rfl rfl hc i [] s5 τ H5 (L9 X scope s3.heap.objs.size) I5 (Ap zC) wd go) fun r s6 dc=>?_;obtain⟨u,hr,h6⟩:=dc;subst hr;refine cf h6 fun _ s7 dc=>?_;obtain⟨x,H7,I7,r7,y7,Au,O8⟩:=dc;have O9:=I7.pinned (Ap O8) (T.obj _ _ Au);refine cf (hg _ _ _ _ _ s7 τ H7 x u _ O9 r7 (step x H7 y7)) fun _ s8 dc=>?_;obtain⟨pE,H8,I8,q8⟩:=dc;refine cf (lP _ _ _ _ _ s8 pE H8 _ I8 q8) fun ok s9 dc=>?_;obtain⟨H9,I9,q9⟩:=dc;have again:∀ {s':Shared} {H':Hp} {m':Nat},Inv (aU X scope s3.heap.objs.size (tn++cn) fp s3 (upd H2 D (.lst []))) ([]++BG fp s7.heap) pE H' s'->m'<n->W (i+1) m' pE H' ->
     ∃ m,m<n/\∃ i τ H',Inv (aU X scope s3.heap.objs.size (tn++cn) fp s3 (upd H2 D (.lst []))) [] τ H' s'/\xi i s'.heap/\(∀ b∈fp,H' b=none)/\W i m τ H':=fun {s' H' m'} J hm w'=>by
    refine⟨m',hm,i+1,pE,H',J.DT,T.keep _ _ _ Au fun b hb o e=>(J.pin (b,o) (eT _ (eT _ (BH hb e)))).1,fun b hb=>?_,w'⟩;obtain⟨o,e,d⟩:=T.obj _ _ Au b hb;exact(J.pin (b,o) (eT _ (eT _ (BH hb e)))).2.1
   cases ok with
   |false =>rw[if_neg ko] at q9 ⊢;obtain⟨m',hm,w'⟩:=oy _ _ q9;exact again I9 hm w'
   |true =>rw[if_pos rfl] at q9 ⊢;refine cf (he _ _ _ _ ⟨pins,σ,I3,f3,rfl⟩ _ s9 pE H9 _ I9 q9) fun x9 O_ cq=>L2.fq cq fun v10 D8 Pa D9 Pb=>?_;obtain⟨ys,m',hH,hz,hm,w'⟩:=O7 _ _ _ Pb;refine cf (OU _ O_ pE D8 (.ref D) [v10] (.ref D) [x9] (fun _ H'=>H'=upd D8 D (.lst (ys++[v10]))) Pa rfl (.cons D9 .nil) ⟨D,ys,v10,rfl,rfl,hH,hz,rfl⟩) fun _ s11 cq=>L2.fq cq fun _ H11 Pg _ Ph=>?_;subst Ph;exact again Pg hm w'
 exact codeAny_compStart_list (loop _ I4 (T.keep _ _ _ qV fun b hb o e=>og b o e)) (T.self _ 0 _ _ _ (T.keep _ _ _ qV fun b hb o e=>og b o e) (loop _ I4 (T.keep _ _ _ qV fun b hb o e=>og b o e)))
theorem Ar(hc:X.calm=true)(hi:PI X tg iter wi)(O:cC X scope tn cn ix)(hg:∀ C fp cw cx,PG (aU X scope C (tn++cn) fp cw cx) tg g) (lP:∀ C fp cw cx,sM (aU X scope C (tn++cn) fp cw cx) ifs tc) (he:∀ C fp cw cx,qI X C fp cw cx->PE (aU X scope C (tn++cn) fp cw cx) elt te)(hs:∀ x,foldedSetIterable iter X.env x=pure x:=by intro _;rfl):PE X (.ListComp elt [⟨tg,iter,ifs,0⟩] scope pos) (uH wi g tc te tn.length ix):=by
 intro pins s σ H Q I h;rw[eval_ListComp];refine tY (use:=none) (P:=EP X pins σ Q) hc hi O hg lP he hs I h fun C D m H5 s6 r J6 hn hf ⟨_,g1,_,g3,g4,g5⟩ qn=>⟨m,hn,fun h' Ee=>⟨.ref D,H5,?_,rfl,qn⟩⟩
 exact J6.turned (t':=s6.toks) (fun b o hb e=>Ee.extBut b o hb e) hf g1 g3 g4 g5
end
abbrev kc:=Env->(Str->Prop)->(Md->D->Prop)->Prop
abbrev xE:=Env->(Str->Prop)->(List (Md × D)->Prop)->Prop
def Qi(K:PySem.W.Frag)(L:Str->Hp->Prop)(t:kc):TE:=fun σ H Qv=>∃ Hs ρ ae Y Q,cS K Hs ρ σ H ae/\t ρ Y Q /\ (∀ v H' ai m d As,eu Hs H ai H'->RM K ai H' m d v As->dU ai H As->Q m d->Qv v H')/\∀ n H',ay Hs H'->Y n->L n H'
def Jp(K:PySem.W.Frag)(L:Str->Hp->Prop)(t:xE):TA:=fun σ H Qv=>∃ Hs ρ ae Y Q,cS K Hs ρ σ H ae/\t ρ Y Q /\ (∀ vs H' ai ps As,eu Hs H ai H'->nh K ai H' ps vs As->dU ai H As->Q ps->Qv vs H')/\∀ n H',ay Hs H'->Y n->L n H'
abbrev vi(X:Cx)(K:PySem.W.Frag)(L:Str->Hp->Prop)(e:Expr)(t:kc):Prop:=PE X e (Qi K L t)
abbrev Mb(X:Cx)(K:PySem.W.Frag)(L:Str->Hp->Prop)(es:List Expr)(t:xE):Prop:=PA X es (Jp K L t)
def A0(te:WE):kc:=fun ρ _ Q=>te ρ Q
def iu(sp:dS)(t:WA):kc:=fun ρ Y Q=>t ρ fun ps=>sp (ps.map (·.2)) fun m d=>kb m d Y (bp (m,d) (f:=fun p=>Q (oi p.1 p.2) p.2) ⟨⟩)
def vq:xE:=fun _ _ Q=>Q []
def fL(te:kc)(t:xE):xE:=fun ρ Y Q=>te ρ Y fun m d=>t ρ Y fun ps=>Q ((m,d) :: ps)
def vW(t:xE):kc:=fun ρ Y Q=>t ρ Y fun ps=>ps.length<=sizeLine/\ps.all qa=true/\Q .sh (.tup (ps.map (·.2)))
def oM(wi:WI)(g:WG)(tc:WT)(te:kc)(tn:Nat)(ix:List Nat):kc:=fun ρ Y Q=>iz wi g tc (te · Y ·) tn ix ρ Q
def uU(t:kc):WS:=fun E ρ=>t ρ (fun n=>E.rt (.ow false) (.str n)) E.rt
section
variable {X:Cx}{K:PySem.W.Frag}{rn:List Str}{E:XK}{e:Expr}{es:List Expr}{te:WE}{t:WA}{tx:kc}{ta:xE}{pos:Pos}{L:Str->Hp->Prop}
theorem Qj(h:QE X K e te):vi X K L e (A0 te):=PE.imp h fun σ H Qv hx=>by obtain⟨Hs,ρ,ae,Y,Q,sr,h,f,fx⟩:=hx;exact⟨Hs,ρ,ae,Q,sr,h,f⟩
theorem zx:Mb X K L [] vq:=PA.imp aq fun σ H Qv hx=>by obtain⟨Hs,ρ,ae,Y,Q,sr,h,f,fx⟩:=hx;exact⟨Hs,ρ,ae,Q,sr,h,f⟩
theorem jK(ha:vi X K L e tx)(hr:Mb X K L es ta)(hs:starEach (e :: es) X.env=(false,eval e X.env) :: starEach es X.env:=by rfl):Mb X K L (e :: es) (fL tx ta):=by refine PA.imp (iA ha hr hs) fun σ H Qv hx=>?_;obtain⟨Hs,ρ,ae,Y,Q,sr,h,f,fx⟩:=hx;refine⟨Hs,ρ,ae,Y,_,sr,h,fun v H1 aw m x As g1 r1 f1 q1=>⟨aw,ρ,ae,Y,_,sr.grow g1,q1,fun vs H2 ax ps Bs g2 r2 f2 q2=>?_,fun n H' s y=>fx n H' (g1.sh.trans s) y⟩,fx⟩;exact f (v :: vs) H2 ax _ _ (g1.trans g2) (.cons (r1.grow g2) r2) (f1.app (fun a h=>(r1.own a h).ne) f2 g1.all fun a h1 h2=>g2.lS h1 h2) q2
theorem yz{x1}(h:Mb X K L es ta):vi X K L (.Tuple es x1 pos) (vW ta):=by refine PE.imp (IE h) fun σ H Qv hx=>?_;obtain⟨Hs,ρ,ae,Y,Q,sr,h,f,fx⟩:=hx;refine⟨Hs,ρ,ae,Y,_,sr,h,fun vs H1 aw ps As g1 r1 f1 q1=>?_,fx⟩;obtain⟨hz,h1,q⟩:=q1;have hl:=(r1.reps g1.wf).length;rw[da] at hl;refine⟨by lia,fun p hp=>?_⟩;have g2:=AB (vs:=vs) g1.wf hp;exact Fin.after f g1 _ _ _ .sh _ [] g2 ⟨rfl,.tup (by lia) gg ((r1.sh g1.wf h1).same g2.sh)⟩ dU.nil q
theorem u_(he:vi X K L e tx):QS X K L (.Return (some e) pos) (uU tx) :=
 PS.imp (zo he) fun D σ H hx=>iM hx fun Hs ρ ae E' sr h k1 k2 k3 k4 kx=>⟨Hs,ρ,ae,_,_,sr,h,fun v H1 aw m d As g1 r1 f1 q1=>k4 v H1 aw m d As g1.sh g1.wf r1 f1.1 (fun a ha=>(f1.2 a ha).1) q1,kx⟩
theorem n_ {k:Nat} {x:Str} {ps:List Str} {sp:dS} {p:Pos} (C:gL X.prog X.w X.K X.mg X.base rn k x ps sp) (hr:fe k X.A) (hx:Passes (fN X.prog X.w X.mg rn) X E) (ha:QA X K (e :: es) t) (hK:X.K=K:=by rfl) (hg:Gl X x:=by rfl) (fz:(x == ("__debug__" : Str))=false:=by decide) (he:starEach (e :: es) X.env=(false,eval e X.env) :: starEach es X.env:=by rfl) (gy:(backTo pos (starEach es X.env)).any (·.1)=false:=by rfl):vi X K (LX rn X.mg E) (.Call (.Name x p) (e :: es) [] pos) (iu sp t):=by
 subst hK;refine PE.imp (sW C hr hx ha hg fz he gy) fun σ H Qv h=>?_;obtain⟨Hs,ρ,ae,Y,Q,sr,h,f,fx⟩:=h;exact jf sr h f fx
theorem qH{L:Str->Hp->Prop}{wi:WI}{g:WG}{tc:WT}{te:kc}{tn:Nat}{ix:List Nat}{σ:St}{H:Hp}{Qv:VK}(h:Qi K L (oM wi g tc te tn ix) σ H Qv):uH (PQ K wi) (PN K g) (ui K tc) (Qi K L te) tn ix σ H Qv:=by
 obtain⟨Hs,ρ,ae,Y,Q,sr,h,f,fx⟩:=h;rw[wK];refine⟨Hs,ρ,ae,_,sr,h,fun J H1 aw ds g1 S hz q1 b hb=>?_⟩;have st:CompI K H1 b [] [] [] H1 (BL tn ix ρ) (jh tn ix σ) (upd H1 b (.lst [])):=by
  refine⟨ay.refl _,⟨nT (lJ (G:=H1) (sr.grow g1) _ ix) tn,⟨(ay.refl H1).upd hb,fun a xs e=>?_⟩,mz,fun a h=>nomatch h⟩,gg,hb,.nil,by simp,fun a h=>nomatch h⟩;by_cases ha:a=b
  ·subst ha;rw[gg] at e;cases e
  ·rw[eS ha] at e;exact e
 refine⟨fun i m τ H2=>m=ds.length-i/\i<=ds.length/\∃ ax fI acc ys As,CompI K H1 b acc ys As ax fI τ H2/\acc.length<=i/\dN g tc (te · Y ·) (ds.drop i) fI (fun out=>Q (.ow true) (.list (acc++out))), ⟨ds.length,by simp,i5 _,H1,_,[],[],[],st,cK _,by simpa using q1⟩,?_⟩
 rintro i m τ H2 ⟨rfl,hi,ax,fI,acc,ys,As,c,la,q2⟩;by_cases kP:i<ds.length
 ·refine .inr ⟨S.go i ax H2 c.sm c.sr.wf kP,
   fun qh v H4=>∃ sR iO d,CompI K H1 b acc ys As sR iO qh H4/\(∃ fv,CompI K H1 b (acc++[d]) (ys++[v]) fv sR iO qh (upd H4 b (.lst (ys++[v]))))/\dN g tc (te · Y ·) (ds.drop (i+1)) iO (fun out=>Q (.ow true) (.list (acc++d :: out))),
   fun qh H3=>∃ g7 ti,CompI K H1 b acc ys As g7 ti qh H3/\dN g tc (te · Y ·) (ds.drop (i+1)) ti (fun out=>Q (.ow true) (.list (acc++out))),?_,?_,?_⟩
  ·rintro qh v H4 ⟨sR,iO,d,c4,⟨fv,c5⟩,q4⟩;have PX:=c4.ra.length;exact⟨ys,ds.length-(i+1),c4.eD,by lia,by lia,rfl,kP,sR,iO,acc++[d],ys++[v],fv,c5,by rw[kg];simpa using la,by simpa using q4⟩
  ·rintro qh H3 ⟨g7,ti,c3,q3⟩;exact⟨ds.length-(i+1),by lia,rfl,kP,g7,ti,acc,ys,As,c3,by lia,q3⟩
  ·intro x H3 y;obtain⟨g7,g3,rd⟩:=S.i7 i ax H2 x H3 ds[i] c.sm c.sr.wf (by simp[kP]) y;rw[zh kP] at q2;have c3:=c.grow g3;refine⟨g7,fI,[],ds[i],_,c3.sr,rd,q2,fun PY iO E6 AJ m4 q4=>?_⟩;have t4:E6=[]:=Ts.mpr fun a ha=>nomatch m4 a ha;subst t4;have c4:CompI K H1 b acc ys As g7 iO PY H3:=⟨c3.sm,AJ,c3.eD,c3.nD,c3.ra,c3.nd,c3.own⟩
   refine⟨g7,iO,[],_,AJ,q4,fun k H5 qf g5 q5=>?_⟩;have c5:=c4.grow g5
   cases k with
   |false=>exact⟨qf,iO,c5,q5⟩
   |true =>
    refine⟨qf,iO,[],Y,_,c5.sr,q5,fun v H6 PZ m6 d6 As6 g6 r6 f6 q6=>?_,fun n H' sm y=>fx n H' (g1.sh.trans (g1.wf.sub.trans (c5.sm.trans sm))) y⟩;have c6:=c5.grow g6;refine⟨PZ,iO,d6,c6,c6.push r6 q6.1 f6.1 fun a ha=>⟨(f6.2 a ha).1,fun m=>?_⟩,q6.2⟩;rcases eK.mp m with rfl|m
    ·have:=(f6.2 _ ha).2;rw[c5.eD] at this;cases this
    ·exact(c5.ra.own a m).ne (f6.2 a ha).2
 ·have e:i=ds.length:=by lia
  subst e;refine .inl ⟨S.stop ax H2 c.sm c.sr.wf,?_⟩;rw[GP] at q2;have q2:Q (.ow true) (.list (acc++[])):=q2;rw[kX] at q2;have PX:=c.ra.length;have rm:RM K ax H2 (.ow true) (.list acc) (.ref b) (b :: As):=⟨.list (by lia) c.eD c.ra,by simp⟩
  obtain⟨fv,r',fr⟩:=oA g1.wf c.sm c.sr.wf rm c.nd fun a ha=>(eK.mp ha).elim (fun z=>z ▸ c.nD) (c.own a);exact Fin.after f g1 (.ref b) H2 _ (.ow true) (.list acc) fv (fH g1.wf c.sm c.sr.wf) r' fr q2
theorem Eh{tg iter elt:Expr}{ifs:List Expr}{scope:Scope}{pos:Pos}{wi:WI}{g:WG}{tc:WT}{te:kc}{tn cn:List Str}{ix:List Nat}(hc:X.calm=true)(hi:AI X K tg iter wi)(O:cC X scope tn cn ix)(hg:∀ C fp cw cx,QG (aU X scope C (tn++cn) fp cw cx) K tg g) (lP:∀ C fp cw cx,LV (aU X scope C (tn++cn) fp cw cx) K ifs tc) (he:∀ C fp cw cx,qI X C fp cw cx->vi (aU X scope C (tn++cn) fp cw cx) K L elt te)(hs:∀ x,foldedSetIterable iter X.env x=pure x:=by intro _;rfl):vi X K L (.ListComp elt [⟨tg,iter,ifs,0⟩] scope pos) (oM wi g tc te tn.length ix) :=
 PE.imp (Ar hc hi O hg lP he hs) fun σ H Qv h=>qH h
end
end L2.Q
namespace L2.Q.R
open L2.Q PySem
section
variable {Q:Md->L2.Q.D->Prop}{Y:Str->Prop}{ρ:L2.Q.Env}{E:m5}
theorem cZ'{te:WE}:A0 te ρ Y Q=te ρ Q:=rfl
theorem Jz{sp:dS}{t:WA}:iu sp t ρ Y Q=t ρ fun ps=>sp (ps.map (·.2)) fun m d=>kb m d Y (bp (m,d) (f:=fun p=>Q (oi p.1 p.2) p.2) ⟨⟩):=rfl
theorem J7{Q:List (Md × L2.Q.D)->Prop}:vq ρ Y Q=Q []:=rfl
theorem HX{te:kc}{t:xE}{Q:List (Md × L2.Q.D)->Prop}:fL te t ρ Y Q=te ρ Y fun m d=>t ρ Y fun ps=>Q ((m,d) :: ps):=rfl
theorem J5{t:xE}:vW t ρ Y Q=t ρ Y fun ps=>ps.length<=sizeLine/\ps.all qa=true/\Q .sh (.tup (ps.map (·.2))):=rfl
theorem Je{wi:WI}{g:WG}{tc:WT}{te:kc}{tn:Nat}{ix:List Nat}:oM wi g tc te tn ix ρ Y Q=iz wi g tc (te · Y ·) tn ix ρ Q:=rfl
theorem Lx{t:kc}:uU t E ρ=t ρ (fun n=>E.rt (.ow false) (.str n)) E.rt:=rfl
end
end L2.Q.R
namespace L2
open PySem PySem.Spec PyProof.Rows L2.Q
section
variable {X:Cx}{tg iter elt:Expr}{ifs:List Expr}{scope:Scope}{pos:Pos}{wi:TI}{g:TG}{tc:TT}{te:TE}{tn cn:List Str}{ix:List Nat}
theorem vH{i:Nat}{x:Str}{pos' Fu:Pos}(hN:X.N.Nodup)(KW:X.N[i]? = some x)(hx:Loc X.env.scope x)(hc:X.calm=true)(hi:PI X tg iter wi)(O:cC X scope tn cn ix)(hg:∀ C fp cw cx,PG (aU X scope C (tn++cn) fp cw cx) tg g) (lP:∀ C fp cw cx,sM (aU X scope C (tn++cn) fp cw cx) ifs tc) (he:∀ C fp cw cx,qI X C fp cw cx->PE (aU X scope C (tn++cn) fp cw cx) elt te)(Qk:swapsWith (.ListComp elt [⟨tg,iter,ifs,0⟩] scope pos) (some (.Name x pos')) Fu.line X.env=pure true)(hs:∀ x,foldedSetIterable iter X.env x=pure x:=by intro _;rfl) (hf:X.fn x=true\/X.env.scope.names.lookup x=some .local:=by first|exact .inl rfl|exact .inr rfl|assumption) :
  PS X (.Assign [.Name x pos'] (.ListComp elt [⟨tg,iter,ifs,0⟩] scope pos) Fu) (TX (uH wi g tc te tn.length ix) (Oj i)):=by
 intro pins s σ H D0 I h;rw[exec_Assign_Name_used _ _ _ _ Qk];refine bS (wpAny_standAt (bS ?_));show wpAny _ _ (do let _ <- comprehension (.ListComp elt [⟨tg,iter,ifs,0⟩] scope pos) scope X.env _ (newList []) false (eval iter X.env) (some (assign (.Name x pos') X.env))) _ _ s;refine bS (oa (tY (use:=some (assign (.Name x pos') X.env)) (P:=fun _ s'=>SP X pins D0 .next s') hc hi O hg lP he hs I h fun C D m H5 s6 r J6 hn AZ ⟨_,g1,_,g3,g4,g5⟩ qn=>?_) (fun _ s' hq=>dv (dv hq)) fun _ _ e=>e);refine(show wpAny _ _ (assign (.Name x pos') X.env (.ref D)) _ _ s6 from wpAny_assign_Name (N4 J6 hN KW hx (v:=.ref D) rfl (fun s7 I7 dc=>?_) hf));obtain⟨a,sb,ha⟩:=dc;have hCa:C≠a:=by
  rcases ha with rfl|ha
  ·exact g1
  ·exact Ne.symm (g4 _ a ha)
 refine⟨m,hn.sameBut sb hCa,fun h' Ee=>⟨_,H5,?_,qn⟩⟩;exact I7.turned (t':=s7.toks) (fun b o hb e=>Ee.extBut b o hb e) AZ g1 g3 g4 g5
end
end L2
namespace L2.Q
open PySem PySem.Spec PyProof.Rows PySem.W
def Fz(i:Nat)(t:kc):WS:=fun E ρ=>t ρ (fun n=>E.rt (.ow false) (.str n)) fun m d=>match asg m d with
 |some sl=>E.nx (ρ.set i (some sl))
 |none=>False
def My(f:W1)(t:kc):kc:=fun ρ Y Q=>t ρ Y fun m x=>f m x Q
section
variable {X:Cx}{K:PySem.W.Frag}{L:Str->Hp->Prop}{e:Expr}{tx:kc}{p pos:Pos}{x:Str}{T:String}
theorem vR{i:Nat}{x:Str}{tg iter elt:Expr}{ifs:List Expr}{scope:Scope}{pos pos' Fu:Pos}{wi:WI}{g:WG}{tc:WT}{te:kc}{tn cn:List Str}{ix:List Nat}(hN:X.N.Nodup)(KW:X.N[i]? = some x)(hx:Loc X.env.scope x)(hc:X.calm=true)(hi:AI X K tg iter wi) (O:cC X scope tn cn ix)(hg:∀ C fp cw cx,QG (aU X scope C (tn++cn) fp cw cx) K tg g) (lP:∀ C fp cw cx,LV (aU X scope C (tn++cn) fp cw cx) K ifs tc) (he:∀ C fp cw cx,qI X C fp cw cx->vi (aU X scope C (tn++cn) fp cw cx) K L elt te)(Qk:swapsWith (.ListComp elt [⟨tg,iter,ifs,0⟩] scope pos) (some (.Name x pos')) Fu.line X.env=pure true:=by rfl) (hs:∀ x,foldedSetIterable iter X.env x=pure x:=by intro _;rfl) (hf:X.fn x=true\/X.env.scope.names.lookup x=some .local:=by first|exact .inl rfl|exact .inr rfl|assumption) :
  QS X K L (.Assign [.Name x pos'] (.ListComp elt [⟨tg,iter,ifs,0⟩] scope pos) Fu) (Fz i (oM wi g tc te tn.length ix)) :=
 PS.imp (vH hN KW hx hc hi O hg lP he Qk hs hf) fun D σ H hx=>iM hx fun Hs ρ ae E sr h k1 k2 k3 k4 kx=>by
  refine qH ⟨Hs,ρ,ae,_,_,sr,h,fun v H1 aw m d As g1 r1 f1 q1=>?_,kx⟩
  have q1:match asg m d with
   |some sl=>E.nx (ρ.set i (some sl))
   |none=>False:=q1
  cases e:asg m d with
  |none=>rw[e] at q1;exact q1.elim
  |some sl =>rw[e] at q1;obtain⟨bX,s'⟩:=(sr.grow g1).set i r1 f1.1 (fun a ha=>⟨(f1.2 a ha).1,fun m=>(sr.sr.own a m).ne (f1.2 a ha).2⟩) e;exact k1 _ H1 aw _ bX g1.sh s' q1
theorem JV{r:List V->Hp->VK->Prop}{f:W1}(hc:h8 X (.type T) r)(br:uk K r f)(hg:Gl X x)(hm:X.mg x=none)(hv:bootBuiltins x=some (.type T))(he:vi X K L e tx)(hs:starEach [e] X.env=(false,eval e X.env) :: starEach [] X.env:=by rfl) (hn:x ≠ "__name__" := by decide) (fz:(x == ("__debug__" : Str))=false:=by decide):vi X K L (.Call (.Name x p) [e] [] pos) (My f tx):=by
 refine PE.imp (Ur hc hg hm hv (iA he lI hs) hn fz hs) fun σ H Qv h=>?_;obtain⟨Hs,ρ,ae,Y,Q,sr,h,fin,fx⟩:=h;exact⟨Hs,ρ,ae,Y,_,sr,h,fun v H1 aw m d As g1 r1 f1 q1=>br aw H1 m d v As Q Qv g1.wf r1 q1 (Fin.after fin g1),fx⟩
end
end L2.Q
namespace L2.Q.R
open L2.Q PySem
theorem KD{E:m5}{ρ:L2.Q.Env}{i:Nat}{t:kc}:Fz i t E ρ=t ρ (fun n=>E.rt (.ow false) (.str n)) fun m d=>bp (m,d) (f:=fun p=>bp (asg p.1 p.2) (f:=fun o=>put o fun sl=>E.nx (ρ.set i (some sl))) ⟨⟩) ⟨⟩:=rfl
theorem Nj{f:W1}{t:kc}{Q:Md->L2.Q.D->Prop}{Y:Str->Prop}{ρ:L2.Q.Env}:My f t ρ Y Q=t ρ Y fun m x=>f m x Q:=rfl
end L2.Q.R
namespace L2.Q
open PySem PySem.Spec PyProof.Rows
namespace R
theorem Kl:nK m (.bl i) m' (.bl j) Q=Q .sh (.bl (!decide (i=j))):=rfl
end R
end L2.Q
local macro_rules | `(tactic| walk_at "q") => do
 let nm (s:String):Lean.Ident:=Lean.mkIdent ((s.splitOn ".").foldl Lean.Name.mkStr .anonymous)
 let ds ← ("KD Nj cZ' Jz J7 HX J5 Je Lx K5 Ms Ls K9 Ir Ln M7 Nr JX HR Lh Mi Kf Mf Lz J3 Mw J9 LR J_ cU' Ik Gh Kz Ih NT Mu Km Kv Mm M4 Mt Nq N7 Ny Np KN Ke N_ Ob Lw LC Hf JH HS Jh M3 Lf wB_ Nh Oa bZ' M8 Nu Jk Jo wC_ cb' cc' JZ KC Mq Jc Lj J0 KY Kq Nv Nf Oe Ku Ij JL JC Iw H_ Js Jv JW K1 Kd Lp L_ La KR Kg Li Nt NK Mr Ly KJ MJ N8 M5 Mz JQ Mh Ml K7 Kp Kl Mp Nk Og NP N6 MP MN Nz M_ Nm MF Ka KZ J1 Kc Ko Nb Jq IK IV cd' HH J4 LK NZ NB Ng KQ Jj JP ce' HD Mx Ji Oc MK M6 Ja Kr Ks KH IW JS HN HJ HQ gN_ gT_ Ld NQ K_ Mj K8 Jd Il Jy JG J2 Ig Jr JM Lq N5 M9 K6 Kw Kh Mv MT Ni Od Ib J8 Ky cx'".splitOn " ").toArray.mapM fun s=>`(Lean.Parser.Tactic.simpLemma| ↓$(nm ("L2.Q.R." ++ s)):ident)
 let us ← ("L2.Q.LZ L2.Q.rz L2.Q.yd L2.Q.Dr L2.Q.qa L2.Q.AG L2.Q.yT L2.Q.oi L2.Q.ji L2.Q.E3 L2.Q.E2 L2.Q.PL L2.Q.qx L2.Q.BL L2.Q.asg L2.Q.kA L2.Q.aO L2.Q.D.flat L2.Q.ck L2.Q.D.isN L2.Q.D.ty L2.Q.bB' L2.Q.D.key1 L2.Q.pX L2.Q.K4 L2.Q.Lr List.length_map List.map_cons List.map_nil List.length_cons List.length_nil List.replicate_succ List.replicate_zero List.cons_append List.nil_append List.append_nil List.getElem?_cons_zero List.getElem?_cons_succ List.getElem?_nil List.set_cons_zero List.set_cons_succ List.all_cons List.all_nil Option.some.injEq Option.join_some Option.map_some Option.map_none Nat.reduceAdd Nat.reduceSub true_and and_true Bool.and_true Bool.true_and Bool.and_false Bool.false_and Bool.not_true Bool.not_false Bool.false_eq_true if_true if_false decide_true decide_false reduceIte cond_true cond_false PySem.sizeLine_eq L2.Q.P1 L2.Q.bW' L2.Q.bX' L2.Q.bQ L2.Q.Gk L2.Q.empty_app Nat.zero_add exists_eq_left' Int.reduceLT Int.reduceLE Int.reducePow Int.reduceNeg Int.reduceToNat Int.reduceAdd Int.reduceMul Int.reduceSub Nat.reduceLeDiff Nat.reduceLT false_or or_false and_self L2.Nx".splitOn " ").toArray.mapM fun s=>`(Lean.Parser.Tactic.simpLemma| $(nm s):ident)
 let as:Lean.TSyntaxArray [`Lean.Parser.Tactic.simpStar,`Lean.Parser.Tactic.simpErase,`Lean.Parser.Tactic.simpLemma]:=(ds++us).map fun x=>⟨x.raw⟩
 `(tactic| simp -dsimp only [$as,*])
namespace L2.Q.Ql
open PySem PySem.Spec PyProof.Rows
theorem small{n:Nat}(h:n<=10000):n<=sizeLine:=fE h (by decide)
theorem K3{n:Nat}(h:n<=10000):n<sizeLine:=Yg h (by decide)
def isLet(c:Nat):Bool:=decide (97<=c/\c<=122)
abbrev abc:Str := "abcdefghijklmnopqrstuvwxyz"
theorem rH:sg abc=(List.range 26).map (97 + ·):=by decide +kernel
theorem Hh{i:Int}(h0:0<=i)(h1:i<26):∃ c,eB (sg abc) i=some c/\isLet c=true:=by
 refine⟨97+i.toNat,?_,?_⟩
 ·have:eB (sg abc) ((i.toNat:Nat):Int)=some (97+i.toNat):=wt (by
   rw[rH];have:i.toNat<26:=by lia
   simp[this])
  rwa[x8 h0] at this
 ·simp[isLet];lia
theorem Ei(x:Int):∃ c,eB (sg abc) (x % 26)=some c/\isLet c=true:=Hh (mG _ (by decide)) (mE _ (by decide))
def lets(x:Str):Prop:=∀ c∈sg x,isLet c=true
def Open(x:Str):Prop:=1<=x.length/\x.length<=6/\lets x
def rL (x:Str):Prop:=x = "*"\/Open x
theorem wN{x y:Str}(hx:lets x)(hy:lets y):lets (x++y):=fun c hc=>by rw[bf] at hc;exact(eW.mp hc).elim (hx c) (hy c)
theorem BX{c:Nat}(h:isLet c=true):lets ⟨#[c]⟩:=fun d hd=>by
 have:d=c:=by simpa[sg] using hd
 rw[this];exact h
theorem rW{x:Str}(h:lets x)(lo hi:Option Int):lets (iE x lo hi):=fun c hc=>by unfold iE sg at hc;rw[List.toList_toArray] at hc;exact h c (CH (CL hc))
theorem iY(c:Nat):(⟨#[c]⟩:Str).length=1:=rfl
theorem rL.len{x:Str}(h:rL x):x.length<=6:=by
 rcases h with rfl|h
 ·decide
 ·exact h.2.1
theorem rL.ok{x:Str}(h:rL x):PyData.strOk x=true:=by
 rw[zB];rcases h with rfl|h
 ·have:sg "*" = [42]:=by decide +kernel
  intro c hc;rw[this] at hc;have:c=42:=by simpa using hc
  lia
 ·intro c hc;have:=h.2.2 c hc;simp[isLet] at this;lia
theorem aN:∀ (l:List Str),ck (l.map D.str)=true
 |[]=>rfl
 |x :: l=>by simp[ck,aN l,D.flat]
theorem di:∀ (l:List Int),ck (l.map D.int)=true
 |[]=>rfl
 |x :: l=>by simp[ck,di l,D.flat]
theorem Aw:∀ (l:List Bool),ck (l.map D.bl)=true
 |[]=>rfl
 |x :: l=>by simp[ck,Aw l,D.flat]
theorem Cj(l:List Str)(x:Str):l.map D.str++[D.str x]=(l++[x]).map D.str:=by simp
theorem ints_app(l:List Int)(x:Int):l.map D.int++[D.int x]=(l++[x]).map D.int:=by simp
theorem iR{n i:Nat}{lo:Int}{x:D}(h:(mW lo n)[i]? = some x):i<n/\x=.int (lo+(i:Nat)):=by
 unfold mW at h;rw[vj] at h;by_cases hi:i<n
 ·rw[List.getElem?_range hi] at h;exact⟨hi,(Option.some.inj h).symm⟩
 ·rw[GL (by simpa using hi)] at h;cases h
theorem jg(lo:Int)(n:Nat):(mW lo n).length=n:=by simp[mW]
theorem A_{lo:Int}{n:Nat}{x:D}(h:x∈mW lo n):∃ i:Nat,i<n/\x=.int (lo+i):=by obtain⟨i,hi⟩:=GN.mp h;exact⟨i,iR hi⟩
inductive Rw where
 |st (w d:Str) (j:Int)
 |nt (j:Int)
 |jn (w:Str) (ps:List Int)
def bq:Rw->D
 |.st w d j=>.tup [.str w,.str d,.int j]
 |.nt j=>.tup [.str "not",.int j]
 |.jn w ps=>.tup [.str w,.tup (ps.map .int)]
def rS(k:Int):Rw->Prop
 |.st w d j=>(w = "some"\/w = "all")/\rL d/\0<=j/\j<k
 |.nt j=>0<=j/\j<k
 |.jn w ps=>(w = "and"\/w = "or")/\ps.length<=200/\∀ p∈ps,0<=p/\p<k
def kf(l:List Rw):Prop:=∀ (i:Nat) (r:Rw),l[i]? = some r->rS i r
theorem vJ:∀ r:Rw,(bq r).flat=true
 |.st _ _ _=>rfl
 |.nt _=>rfl
 |.jn _ ps=>by simp[bq,D.flat,ck,di]
theorem g_:∀ l:List Rw,ck (l.map bq)=true
 |[]=>rfl
 |r :: l=>by simp[ck,vJ r,g_ l]
theorem Jt(l:List Rw)(r:Rw):l.map bq++[bq r]=(l++[r]).map bq:=by simp
theorem rS.mono{k k':Int}(hk:k<=k'):∀ {r:Rw},rS k r->rS k' r
 |.st _ _ _,⟨a,b,c,d⟩=>⟨a,b,c,by lia⟩
 |.nt _,⟨c,d⟩=>⟨c,by lia⟩
 |.jn _ _,⟨a,b,c⟩=>⟨a,b,fun p hp=>⟨(c p hp).1,by have:=(c p hp).2;lia⟩⟩
theorem kf.app{l:List Rw}{r:Rw}(h:kf l)(hr:rS l.length r):kf (l++[r]):=fun i x hx=>by
 by_cases hi:i<l.length
 ·rw[x3 hi] at hx;exact h i x hx
 ·rw[n4 (by lia)] at hx;by_cases h0:i=l.length
  ·subst h0;rw[Nat.sub_self] at hx;cases hx;exact hr
  ·rw[GL (by simp;lia)] at hx;cases hx
theorem kf.take{l:List Rw}(h:kf l)(n:Nat):kf (l.take n):=fun i x hx=>by
 rw[List.getElem?_take] at hx;split at hx
 ·exact h i x hx
 ·cases hx
theorem kf.nil:kf []:=fun i r h=>by simp at h
theorem A2:∀ {w:Str},(w = "and"\/w = "or")->w ≠ "some"/\w ≠ "all"/\w ≠ "not" := by rintro w (rfl|rfl)<;>decide +kernel
theorem V0:∀ {w:Str},(w = "some"\/w = "all")->w ≠ "not"/\w ≠ "and"/\w ≠ "or" := by rintro w (rfl|rfl)<;>decide +kernel
theorem MA:("not" : Str) ≠ "some"/\("not" : Str) ≠ "all" := by decide +kernel
theorem jM{α:Type}(l:List α):l.filter (fun _=>true)=l:=List.filter_eq_self.mpr fun _ _=>rfl
def gG (x:Str):Bool:=(decide (1<=x.length/\x.length<=6) && (sg x).all isLet) || decide (x = "*")
theorem lL{x:Str}:gG x=true↔rL x:=by
 unfold gG rL Open lets;simp only[GY,i6,decide_eq_true_eq,ki];constructor
 ·rintro(⟨⟨h1,h2⟩,h3⟩|h)
  ·exact .inr ⟨h1,h2,h3⟩
  ·exact .inl h
 ·rintro(h|⟨h1,h2,h3⟩)
  ·exact .inr h
  ·exact .inl ⟨⟨h1,h2⟩,h3⟩
def Qm:D->Bool
 |.str x=>decide (1<=x.length/\x.length<=6) && (sg x).all isLet
 |_=>false
def y3:D->Bool
 |.str x=>gG x
 |_=>false
def kT(k:Int):D->Bool
 |.int j=>decide (0<=j/\j<k)
 |_=>false
def FC(k:Int):D->Bool
 |.tup xs=>decide (xs.length<=200) && xs.all (kT k)
 |_=>false
def oq(k:Int)(w:Str)(r:List D):Bool :=
 if w = "some"\/w = "all" then (match r with
  |[d,j]=>y3 d && kT k j
  |_=>false)
 else if w = "not" then (match r with
  |[j]=>kT k j
  |_=>false)
 else if w = "and"\/w = "or" then (match r with
  |[p]=>FC k p
  |_=>false)
 else false
def oQ(k:Int):D->Bool
 |.tup (.str w :: r)=>oq k w r
 |_=>false
def iF:D->Bool
 |.list xs=>decide (1<=xs.length/\xs.length<=2000) && xs.zipIdx.all fun p=>oQ (p.2:Int) p.1
 |_=>false
theorem CV {k:Int} {w:Str} {r:List D} (h:w = "some"\/w = "all"):oq k w r=(match r with
  |[d,j]=>y3 d && kT k j
  |_=>false):=if_pos h
theorem Eo {k:Int} {r:List D}:oq k "not" r=(match r with
  |[j]=>kT k j
  |_=>false):=(if_neg (by decide +kernel)).trans (if_pos rfl)
theorem Dd {k:Int} {w:Str} {r:List D} (h:w = "and"\/w = "or"):oq k w r=(match r with
  |[p]=>FC k p
  |_=>false):=(if_neg (by rcases h with rfl|rfl<;>decide +kernel)).trans ((if_neg (by rcases h with rfl|rfl<;>decide +kernel)).trans (if_pos h))
theorem rw_ok{k:Int}:∀ {r:Rw} (n:Nat),rS k r->dy (n+2) (bq r)=true
 |.st w d j,n,h=>by
  have h1:=h.2.1.ok;have h2:PyData.strOk w=true:=by rcases h.1 with rfl|rfl<;>decide +kernel
  simp[bq,dy,h1,h2]
 |.nt j,n,h=>by
  have h2:PyData.strOk "not" = true:=by decide +kernel
  simp[bq,dy,h2]
 |.jn w ps,n,h=>by
  have h2:PyData.strOk w=true:=by rcases h.1 with rfl|rfl<;>decide +kernel
  simp[bq,dy,h2]
theorem HB{l:List Rw}(h:kf l)(n:Nat):dy (n+3) (.list (l.map bq))=true:=by simp only[dy,x5,ki];intro r hr;obtain⟨i,hi⟩:=GN.mp hr;exact rw_ok n (h i r hi)
theorem zg:∀ l:List Int,rh (l.map D.int)=true
 |[]=>rfl
 |x :: l=>by simp[rh,zg l,D.nb]
theorem uF:∀ l:List Rw,rh (l.map bq)=true
 |[]=>rfl
 |.st _ _ _ :: l=>by simp[rh,uF l,bq,D.nb]
 |.nt _ :: l=>by simp[rh,uF l,bq,D.nb]
 |.jn _ ps :: l=>by simp[rh,uF l,bq,D.nb,zg]
theorem zu{names:List Str}{i:Int}(h0:0<=i)(h1:i<names.length):∃ n,n∈names/\eB (names.map D.str) i=some (.str n):=by
 have hn:i.toNat<names.length:=by lia
 refine⟨names[i.toNat],List.getElem_mem hn,?_⟩;have:=wt (xs:=names.map D.str) (j:=i.toNat) (v:=.str names[i.toNat]) (by simp[hn]);rwa[x8 h0] at this
theorem name_mod{names:List Str}(x:Int)(h:1<=names.length):∃ n,n∈names/\eB (names.map D.str) (x % (names.length:Int))=some (.str n) :=
 zu (mG _ (by lia)) (mE _ (by lia))
def pO(c:Nat):Bool:=decide (48<=c/\c<=57)
def fK (x:Str):Bool:=decide (1<=x.length/\x.length<=4) && ((sg x).all pO && (decide (x = "0") || !decide ((sg x)[0]? = some 48)))
def valN(x:Str):Int:=(intText? x).getD 0
theorem Fq{x:Str}(h:fK x=true):intText? x=some (valN x)/\0<=valN x:=by
 unfold fK at h;simp only[i6,decide_eq_true_eq,ki] at h;have:=intText_digits (x:=x) (fun c hc=>by have:=h.2.1 c hc;simpa[pO] using this) (fun z=>by
  have:=h.1.1;rw[iw] at this;unfold sg at this;rw[z] at this;simp at this) (by lia)
 unfold valN;rw[this];exact⟨rfl,by simp⟩
theorem FN{x:Str}(h:fK x=true):x.length<=4:=by unfold fK at h;simp only[i6,decide_eq_true_eq] at h;exact h.1.2
theorem Gd {c:Nat}:pS ⟨#[c]⟩ "0123456789" = pO c:=by
 rw[zr,show("0123456789" : Str).cps.toList=(List.range 10).map (48 + ·) by decide +kernel,vx];simp only[decide_eq_true_eq,pO,iL,vt];constructor
 ·rintro⟨i,hi,rfl⟩;lia
 ·intro h;exact⟨c-48,by lia,by lia⟩
theorem Ft{x:Str}(h:1<=x.length):∃ c r,sg x=c :: r:=by
 cases es:sg x with
 |nil=>rw[iw,es] at h;simp at h
 |cons c r=>exact⟨c,r,rfl⟩
theorem Gv{c d:Nat}:decide ((⟨#[c]⟩:Str)=⟨#[d]⟩)=decide (c=d):=by
 by_cases h:c=d
 ·rw[h];simp
 ·rw[decide_eq_false h,decide_eq_false fun z=>h (by cases z;rfl)]
theorem xg:(" " : Str)=⟨#[32]⟩:=by decide +kernel
theorem Jx:("0" : Str)=⟨#[48]⟩:=by decide +kernel
theorem str_len{n:Int}{k:Nat}(h0:0<=n)(hk:0<k)(h:n<10 ^ k):(toString n:Str).length<=k:=by show(Str.ofString (toString n)).length<=k;rw[PySem.ofString_length];obtain⟨m,rfl⟩:=Int.eq_ofNat_of_zero_le h0;show m.repr.length<=k;exact(Nat.length_repr_le_iff hk).mpr (by exact_mod_cast h)
theorem pI{n:Int}(h0:0<=n)(h1:n<2 ^ 20):n.natAbs.log2<1920:=by
 have h:n.natAbs<2 ^ 20:=by lia
 rcases Nat.eq_zero_or_pos n.natAbs with z|z
 ·rw[z];decide
 ·exact NF ((Nat.log2_lt (by lia)).mpr h) (by decide)
theorem Ma(s:String):AQ (Str.ofString s):=fun c hc=>by unfold sg at hc;rw[signs_ofString] at hc;obtain⟨ch,_,rfl⟩:=iL.mp hc;have:=ch.valid;unfold UInt32.isValidChar Nat.isValidChar at this;show ch.val.toNat<_;lia
theorem Lb{x y:Str}(h:AQ x)(g:AQ y):AQ (x++y):=fun c hc=>by rw[bf] at hc;exact(eW.mp hc).elim (h c) (g c)
theorem jQ(y:Str):∀ (zs:List Str) (k:Nat),(∀ z∈zs,z.length<=k)->(Str.join y zs).length<=zs.length*(k+y.length)
 |[],k,_=>by show(Str.join y []).length<=_;rw[iw,show sg (Str.join y [])=[] from rfl];simp
 |[z],k,h=>by have:=h z (by simp);show z.length<=_;rw[zk,DB];lia
 |z :: q :: zs,k,h=>by
  have ih:=jQ y (q :: zs) k fun x hx=>h x (dz _ hx);have hz:=h z fo;have e:(Str.join y (z :: q :: zs)).length=z.length+(y.length+(Str.join y (q :: zs)).length):=by rw[iw,du,kg,kg,<- iw,<- iw,<- iw]
  rw[e,ox,Nat.add_mul,DB];lia
theorem eG:∀ (l:List Str),ji (l.map D.str)=some l
 |[]=>rfl
 |x :: l=>by simp[ji,eG l]
theorem vI:∀ (zs:List Str) (k:Nat),(∀ z∈zs,z.length<=k)->(zs.map (·.length)).sum<=zs.length*k
 |[],k,_=>by simp
 |z :: zs,k,h=>by have:=vI zs k fun x hx=>h x (dz _ hx);have:=h z fo;rw[hV,List.sum_cons,ox,Nat.add_mul,DB];lia
theorem HF{l:List Str}(h:∀ x∈l,AQ x):dy 12 (.list (l.map D.str))=true:=by simp only[dy,x5,ki];intro s hs;have:=(zB s).mpr (h s hs);simpa[dy] using this
abbrev num(n:Int):Str:=toString n
theorem lead:∀ (m:Nat),1<=m->((A9 10 m).map Char.toNat)[0]?≠some 48:=by
 intro m
 induction m using Nat.strongRecOn with
 |_ m ih =>
  intro h1;by_cases h:m<10
  ·rw[Nat.toDigits_of_lt_base h];have:∀ d:_root_.Fin 10,1<=d.val->((Nat.digitChar d.val).toNat:Nat)≠48:=by decide
   have:=this ⟨m,h⟩ h1;simpa using this
  ·have hm:m % 10<10:=Nat.mod_lt m (by decide);have t:A9 10 (m / 10)++A9 10 (m % 10)=A9 10 (10*(m / 10)+m % 10):=Nat.toDigits_append_toDigits (by decide) (by lia) hm;rw[Nat.div_add_mod] at t;rw[<- t,n9];have:=ih (m / 10) (by lia) (by lia)
   cases e:A9 10 (m / 10) with
   |nil =>have:=toDigits_len_ge 10 (m / 10);rw[e] at this;exact absurd this (by decide)
   |cons a r=>rw[e] at this;exact this
theorem Am{n:Int}(h0:0<=n):∃ m:Nat,n=m/\sg (num n)=(A9 10 m).map Char.toNat:=by obtain⟨m,rfl⟩:=Int.eq_ofNat_of_zero_le h0;exact⟨m,rfl,PySem.W.KIN.signs_num m⟩
theorem yS{n:Int}(h0:0<=n):(sg (num n)).all pO=true:=by obtain⟨m,rfl,e⟩:=Am h0;rw[e,ki];intro c hc;obtain⟨ch,qS,rfl⟩:=iL.mp hc;have r:=digit_range (Nat.isDigit_of_mem_toDigits (by decide) (by decide) qS);exact decide_eq_true r
theorem wL{n:Int}(h0:0<=n)(h1:n<10000):fK (num n)=true/\valN (num n)=n:=by
 have l4:=str_len (n:=n) (k:=4) h0 (by decide) (by lia);have l1:1<=(num n).length:=by obtain⟨m,rfl,e⟩:=Am h0;rw[iw,e,da];exact toDigits_len_ge 10 m
 constructor
 ·unfold fK;rw[decide_eq_true ⟨l1,l4⟩,yS h0,tq,tq];obtain⟨m,rfl,e⟩:=Am h0;rcases Nat.eq_zero_or_pos m with rfl|z
  ·rw[decide_eq_true (show(num ((0:Nat):Int)) = "0" by decide +kernel)];rfl
  ·rw[e,decide_eq_false (lead m z),Bool.not_false,Bool.or_true]
 ·unfold valN;rw[show intText? (num n)=some n from PySem.W.KIN.num_reads h0 (by lia)];rfl
def gu:Rw->Prop
 |.st w d j=>(w = "some"\/w = "all")/\rL d/\0<=j/\j<10000
 |.nt j=>0<=j/\j<10000
 |.jn w ps=>(w = "and"\/w = "or")/\ps.length<=201/\∀ p∈ps,0<=p/\p<10000
def e_:Rw->List Str
 |.st w d j=>[w,d,num j]
 |.nt j=>["not",num j]
 |.jn w ps=>w :: ps.map num
def bt (r:Rw):Str:=Str.join " " (e_ r)
def textOf (l:List Rw):Str:=Str.join "; " (l.map bt)
theorem rS.n{k:Int}(hk:k<=2001):∀ {r:Rw},rS k r->gu r
 |.st w d j,⟨a,b,c,d'⟩=>⟨a,b,c,by lia⟩
 |.nt j,⟨a,b⟩=>⟨a,by lia⟩
 |.jn w ps,⟨a,b,c⟩=>⟨a,by lia,fun p hp=>⟨(c p hp).1,by have:=(c p hp).2;lia⟩⟩
theorem kf.n{l:List Rw}(h:kf l)(hl:l.length<=2000):∀ r∈l,gu r:=fun r hr=>by obtain⟨i,hi⟩:=GN.mp hr;have:=(kU.mp hi).1;exact(h i r hi).n (by lia)
def isWs(c:Nat):Bool:=isLet c || (pO c || decide (c=42))
theorem Qn:∀ w∈(["some", "all", "not", "and", "or"]:List Str),(sg w).all isWs=true:=by decide +kernel
theorem zZ{d:Str}(h:rL d):(sg d).all isWs=true:=by
 rcases h with rfl|h
 ·decide +kernel
 ·rw[ki];intro c hc;unfold isWs;rw[h.2.2 c hc];rfl
theorem yq{n:Int}(h0:0<=n):(sg (num n)).all isWs=true:=by rw[ki];intro c hc;unfold isWs;rw[ki.mp (yS h0) c hc];simp
theorem yX:∀ {r:Rw},gu r->∀ x∈e_ r,(sg x).all isWs=true
 |.st w d j,⟨hw,hd,j0,_⟩,x,hx=>by
  simp only[e_,eK,sf,or_false] at hx;rcases hx with rfl|rfl|rfl
  ·exact Qn x (by rcases hw with rfl|rfl<;>simp)
  ·exact zZ hd
  ·exact yq j0
 |.nt j,⟨j0,_⟩,x,hx=>by
  simp only[e_,eK,sf,or_false] at hx;rcases hx with rfl|rfl
  ·exact Qn _ (by simp)
  ·exact yq j0
 |.jn w ps,⟨hw,_,hp⟩,x,hx=>by
  rcases eK.mp hx with rfl|hx
  ·exact Qn x (by rcases hw with rfl|rfl<;>simp)
  ·obtain⟨p,h,rfl⟩:=iL.mp hx;exact yq (hp p h).1
theorem zT(r:Rw):e_ r≠[]:=by cases r<;>simp[e_]
theorem yJ {r:Rw} (h:gu r):Txt.split (bt r) " " = e_ r:=by unfold bt;rw[xg];refine iZ (zT r) fun p hp hc=>?_;have:=ki.mp (yX h p hp) 32 hc;exact absurd this (by decide)
theorem vz{c:Nat}{y:Str}(hy:c∉sg y):∀ {ps:List Str},(∀ p∈ps,c∉sg p)->c∉sg (Str.join y ps)
 |[],_=>by rw[show sg (Str.join y [])=[] from rfl];simp
 |[a],h=>h a (by simp)
 |a :: b :: r,h=>by
  rw[du];intro m;rcases eW.mp m with m|m
  ·exact h a (by simp) m
  ·rcases eW.mp m with m|m
   ·exact hy m
   ·exact vz hy (fun p hp=>h p (dz _ hp)) m
theorem mO{r:Rw}(h:gu r):59∉sg (bt r):=vz (by decide +kernel) fun p hp hc=>by have:=ki.mp (yX h p hp) 59 hc;exact absurd this (by decide)
theorem Ao:sg ("; " : Str)=[59,32]:=by decide +kernel
theorem gZ {P:List Str} (h:P≠[]) (hc:∀ p∈P,59∉sg p):Txt.split (Str.join "; " P) "; " = P:=vy Ao (by decide) (by decide +kernel) h hc
def kM(w:Str)(r:List Str):Option Rw :=
 if (w = "some"\/w = "all")/\r.length=2 then (match r with
  |[a,b]=>if gG a && fK b then some (.st w a (valN b)) else none
  |_=>none)
 else if w = "not"/\r.length=1 then (match r with
  |[a]=>if fK a then some (.nt (valN a)) else none
  |_=>none)
 else if w = "and"\/w = "or" then (if r.all fK then some (.jn w (r.map valN)) else none)
 else none
def mh (x:Str):Option Rw:=match Txt.split x " " with
 |w :: r=>kM w r
 |[]=>none
def ov:List Str->Option (List Rw)
 |[]=>some []
 |p :: ps=>(mh p).bind fun s=>(ov ps).map (s :: ·)
theorem gO(p:Str)(ps:List Str):ov (p :: ps)=(mh p).bind fun s=>(ov ps).map (s :: ·):=rfl
theorem BV{r:Rw}(h:gu r):mh (bt r)=some r:=by
 unfold mh;rw[yJ h]
 match r,h with
 |.st w d j,⟨hw,hd,j0,j1⟩ =>show kM w [d,num j]=_;unfold kM;rw[if_pos ⟨hw,rfl⟩];have:=wL j0 j1;simp only[lL.mpr hd,this.1,this.2,Bool.and_self,if_true]
 |.nt j,⟨j0,j1⟩ =>show kM "not" [num j]=_;unfold kM;rw[if_neg (fun z=>absurd z.1 (by decide +kernel)),if_pos ⟨rfl,rfl⟩];have:=wL j0 j1;simp only[this.1,this.2,if_true]
 |.jn w ps,⟨hw,_,hp⟩ =>
  show kM w (ps.map num)=_;unfold kM;obtain⟨n1,n2,n3⟩:=A2 hw;rw[if_neg (fun z=>z.1.elim n1 n2),if_neg (fun z=>n3 z.1),if_pos hw];rw[if_pos (by
   rw[x5,ki];exact fun p h=>(wL (hp p h).1 (hp p h).2).1),mB]
  congr 2;calc ps.map (valN ∘ num)=ps.map id:=MY fun p h=>(wL (hp p h).1 (hp p h).2).2
   _=ps:=List.map_id _
theorem sI:∀ {l:List Rw},(∀ r∈l,gu r)->ov (l.map bt)=some l
 |[],_=>rfl
 |r :: l,h=>by rw[hV,gO,BV (h r (by simp)),sI fun x hx=>h x (dz _ hx)];rfl
theorem all_none:∀ {P:List Str} {p:Str},p∈P->mh p=none->ov P=none
 |q :: P,p,hp,h=>by
  rw[gO];rcases eK.mp hp with rfl|hp
  ·rw[h];rfl
  ·rw[all_none hp h];cases mh q<;>rfl
theorem vC{x y:Str}{c:Nat}(h:∀ p∈Txt.split x y,c∉sg p)(hy:c∉sg y):c∉sg x:=by rw[<- PySem.StrLaws.join_split x y];exact vz hy h
theorem yC{x:Str}(h:fK x=true):59∉sg x:=fun m=>by unfold fK at h;simp only[i6,ki] at h;exact absurd (h.2.1 59 m) (by decide)
theorem Fw{x:Str}(h:gG x=true):59∉sg x:=fun m=>by have:=ki.mp (zZ (lL.mp h)) 59 m;exact absurd this (by decide)
theorem Eu{x:Str}{r:Rw}(h:mh x=some r):59∉sg x:=by
 unfold mh at h;refine vC (y := " ") (fun p hp=>?_) (by decide +kernel);split at h;rotate_left
 ·cases h
 next w ws e =>
 rw[e] at hp;have sw:∀ w∈(["some", "all", "not", "and", "or"]:List Str),59∉sg w:=by decide +kernel
 unfold kM at h;split at h
 ·next c =>
  split at h
  ·next a b =>
   split at h
   ·next c2 =>
    simp only[i6] at c2;simp only[eK,sf,or_false] at hp;rcases hp with rfl|rfl|rfl
    ·exact sw p (by rcases c.1 with rfl|rfl<;>simp)
    ·exact Fw c2.1
    ·exact yC c2.2
   ·cases h
  ·cases h
 ·split at h
  ·next c =>
   split at h
   ·next a =>
    split at h
    ·next c2 =>
     simp only[eK,sf,or_false] at hp;rcases hp with rfl|rfl
     ·exact sw p (by rw[c.1];simp)
     ·exact yC c2
    ·cases h
   ·cases h
  ·split at h
   ·next c =>
    split at h
    ·next c2 =>
     rcases eK.mp hp with rfl|hp
     ·exact sw p (by rcases c with rfl|rfl<;>simp)
     ·exact yC (ki.mp c2 p hp)
    ·cases h
   ·cases h
theorem Cv:∀ {P:List Str} {l:List Rw},ov P=some l->∀ p∈P,59∉sg p
 |q :: P,l,h,p,hp=>by
  rw[gO] at h;obtain⟨s,e1,h⟩:=Option.bind_eq_some_iff.mp h;obtain⟨m,e2,rfl⟩:=NS.mp h;rcases eK.mp hp with rfl|hp
  ·exact Eu e1
  ·exact Cv e2 p hp
def Odd(p:Str):Prop:=∃ k,(sg p)[k]? = some 59/\(sg p)[k+1]?≠some 32
theorem xG:∀ {P:List Str} {p:Str},p∈P->Odd p->Odd (Str.join "; " P)
 |[a],p,hp,h=>by rw[mw.mp hp] at h;exact h
 |a :: b :: r,p,hp,h=>by
  rcases eK.mp hp with rfl|hp
  ·obtain⟨k,h1,h2⟩:=h;have hk:=(kU.mp h1).1;refine⟨k,?_,?_⟩
   ·rw[du,x3 hk];exact h1
   ·rw[du,Ao];by_cases z:k+1<(sg p).length
    ·rw[x3 z];exact h2
    ·rw[n4 (by lia),show k+1-(sg p).length=0 by lia];simp
  ·obtain⟨k,h1,h2⟩:=xG hp h;refine⟨(sg a).length+(2+k),?_,?_⟩
   ·rw[du,n4 (by lia),show(sg a).length+(2+k)-(sg a).length=2+k by lia,Ao,n4 (by simp),show 2+k - [59,32].length=k by simp];exact h1
   ·rw[du,n4 (by lia),show(sg a).length+(2+k)+1-(sg a).length=2+(k+1) by lia,Ao,n4 (by simp),show 2+(k+1) - [59,32].length=k+1 by simp];exact h2
theorem xO {t:Str} (h:Odd t):ov (Txt.split t "; ")=none:=by
 cases e:ov (Txt.split t "; ") with
 |none=>rfl
 |some l =>obtain⟨k,h1,h2⟩:=h;have f:=follows Ao (by decide) (Cv e) k;rw[PySem.StrLaws.join_split] at f;exact absurd (f h1) h2
theorem DG {P:List Str} {p:Str} (hp:p∈P) (h:Odd p\/(mh p=none/\∀ q∈P,59∉sg q)):ov (Txt.split (Str.join "; " P) "; ")=none:=by
 rcases h with h|⟨h,hq⟩
 ·exact xO (xG hp h)
 ·rw[gZ (List.ne_nil_of_mem hp) hq];exact all_none hp h
theorem yH:∀ {r:Rw},gu r->(e_ r).length<=202/\∀ x∈e_ r,x.length<=6
 |.st w d j,⟨hw,hd,j0,j1⟩=>by
  have l4:(num j).length<=4:=str_len j0 (by decide) (by lia);have ld:=hd.len;refine⟨by simp[e_],fun x hx=>?_⟩;simp only[e_,eK,sf,or_false] at hx;rcases hx with rfl|rfl|rfl
  ·rcases hw with rfl|rfl<;>decide +kernel
  ·exact ld
  ·lia
 |.nt j,⟨j0,j1⟩=>by
  have l4:(num j).length<=4:=str_len j0 (by decide) (by lia);refine⟨by simp[e_],fun x hx=>?_⟩;simp only[e_,eK,sf,or_false] at hx;rcases hx with rfl|rfl
  ·decide +kernel
  ·lia
 |.jn w ps,⟨hw,hl,hp⟩=>by
  refine⟨by simp[e_];lia,fun x hx=>?_⟩;rcases eK.mp hx with rfl|hx
  ·rcases hw with rfl|rfl<;>decide +kernel
  ·obtain⟨p,h,rfl⟩:=iL.mp hx;have:=str_len (n:=p) (k:=4) (hp p h).1 (by decide) (by have:=(hp p h).2;lia);exact fE this (by decide)
theorem nU{r:Rw}(h:gu r):(bt r).length<=1414:=by obtain⟨a,b⟩:=yH h;have:=jQ " " (e_ r) 6 b;rw[show(" " : Str).length=1 by decide +kernel] at this;unfold bt;lia
theorem iI{k:List D->Prop}:∀ {ps:List Int} {o:Option Sl},(∀ p∈ps,0<=p/\p<10000)->k ((ps.map num).map .str)->dN (gN 0) ka (cv sO (ag 0)) (ps.map .int) [o] k:=fun {ps o} hp h=>by
 refine eZ (fun _=>true) (fun d=>match d with
  |.int i=>.str (num i)
  |d=>d) (fun ρ=>∃ o,ρ=[o]) _ _ _ ⟨_,rfl⟩ ?_ ?_
 ·rintro y hy ρ ⟨o,rfl⟩ N1 N2 _ n2;obtain⟨p,hm,rfl⟩:=iL.mp hy;have:=hp p hm;walk_at "q";exact⟨pI this.1 (by lia),.inl rfl,n2 _ ⟨_,rfl⟩ rfl⟩
 ·rw[jM,mB];rw[mB] at h;exact h
theorem qj {r:Rw} (h:gu r) {Q:Str->Prop} (q:Q (bt r)):∃ zs,ji ((e_ r).map D.str)=some zs/\(zs.map (·.length)).sum+zs.length*(" " : Str).length<=16777216/\Q (Str.join " " zs):=by obtain⟨a,b⟩:=yH h;have:=vI (e_ r) 6 b;refine⟨e_ r,eG _,?_,q⟩;rw[show(" " : Str).length=1 by decide +kernel];lia
theorem ph {l:List Rw} (h:∀ r∈l,gu r) (hl:l.length<=2000) {Q:Str->Prop} (q:Q (textOf l)):∃ zs,ji ((l.map bt).map D.str)=some zs/\(zs.map (·.length)).sum+zs.length*("; " : Str).length<=16777216/\Q (Str.join "; " zs):=by
 have hr:∀ z∈l.map bt,z.length<=1414:=fun z hz=>by obtain⟨r,hr,rfl⟩:=iL.mp hz;exact nU (h r hr)
 have:=vI (l.map bt) 1414 hr;refine⟨l.map bt,eG _,?_,q⟩;rw[da] at this ⊢;rw[show("; " : Str).length=2 by decide +kernel];lia
def xI(d:D):Prop:=∀ t,d=.str t->t.length<=1000000
def kE:D->Option (List Rw)
 |.str t=>ov (Txt.split t "; ")
 |_=>none
def eP(P:List Str):Nat:=(P.map (·.length+2)).sum
theorem FZ {w a b:Str} (h:w = "some"\/w = "all"):kM w [a,b]=if gG a && fK b then some (.st w a (valN b)) else none:=if_pos ⟨h,rfl⟩
theorem Dn {a:Str}:kM "not" [a]=if fK a then some (.nt (valN a)) else none:=(if_neg fun z=>absurd z.1 (by decide +kernel)).trans (if_pos ⟨rfl,rfl⟩)
theorem vQ {w:Str} {r:List Str} (h:w = "and"\/w = "or"):kM w r=(if r.all fK then some (.jn w (r.map valN)) else none):=by obtain⟨n1,n2,n3⟩:=A2 h;unfold kM;rw[if_neg (fun z=>z.1.elim n1 n2),if_neg (fun z=>n3 z.1),if_pos h]
theorem rM {w:Str} {r:List Str} (h1:¬ ((w = "some"\/w = "all")/\r.length=2)) (h2:¬ (w = "not"/\r.length=1)) (h3:¬ (w = "and"\/w = "or")):kM w r=none:=by unfold kM;rw[if_neg h1,if_neg h2,if_neg h3]
theorem yj{x y:Str}(h:sg x=sg y):x=y:=oh h
theorem bB(y x:Str){P:List Str}(h:P≠[]):Str.join y (x :: P)=x++(y++Str.join y P):=by
 cases P with
 |nil=>exact absurd rfl h
 |cons b r=>exact yj (by rw[du,bf,bf])
theorem nu(y x:Str):∀ {P:List Str},P≠[]->Str.join y (P++[x])=Str.join y P++(y++x)
 |[a],_=>bB y a (P:=[x]) (by simp)
 |a :: b :: r,_=>by rw[vk,bB y a (P:=(b :: r)++[x]) (by simp),nu y x (P:=b :: r) (by simp),bB y a (P:=b :: r) (by simp)];simp only[gJ]
theorem uJ(y x z:Str):∀ {P:List Str},Str.join y (P++[x])++z=Str.join y (P++[x++z])
 |[]=>rfl
 |a :: r=>by rw[vk,vk,bB _ _ (by simp),bB _ _ (by simp),gJ,gJ,uJ y x z (P:=r)]
theorem qg(y x z:Str):∀ {P:List Str},z++Str.join y (x :: P)=Str.join y ((z++x) :: P)
 |[]=>rfl
 |b :: r=>by rw[bB y x (P:=b :: r) (by simp),bB y (z++x) (P:=b :: r) (by simp),gJ]
theorem text_len:∀ {P:List Str},(Str.join "; " P).length<=eP P
 |[]=>by rw[iw,show sg (Str.join "; " [])=[] from rfl];simp
 |[a]=>by show a.length<=(a.length+2)+0;lia
 |a :: b :: r=>by have ih:=text_len (P:=b :: r);rw[bB _ _ (by simp),eN,eN,show("; " : Str).length=2 by decide +kernel];show _<=(a.length+2)+eP (b :: r);lia
theorem fO(A B:List Str):eP (A++B)=eP A+eP B:=by simp[eP]
theorem fD(a:Str)(B:List Str):eP (a :: B)=(a.length+2)+eP B:=by simp[eP]
theorem xI.of{t:Str}(h:t.length<=1000000):xI (.str t):=fun _ e=>by cases e;exact h
theorem sE{α:Type}(xs:List α){a:Int}(h:0<=a):fi xs none (some a)=xs.take a.toNat:=by unfold fi;simp only[HT.bG,GV,Nat.sub_zero];rw[if_neg (by lia),List.take_eq_take_iff];lia
theorem xf{α:Type}(xs:List α){a:Int}(h:0<=a):fi xs (some a) none=xs.drop a.toNat:=by
 unfold fi;simp only[HT.bG];rw[if_neg (by lia)];by_cases z:a.toNat<=xs.length
 ·rw[Nat.min_eq_left z];exact zi (by rw[qB];exact cK _)
 ·rw[Nat.min_eq_right (by lia),List.drop_of_length_le (cK _),List.drop_of_length_le (by lia),List.take_nil]
theorem yF{α:Type}{xs:List α}{a:Int}(a0:0<=a)(a1:a<xs.length)(d:α):fi xs none (some a)++[d]++fi xs (some (a+1)) none=xs.set a.toNat d:=by rw[sE _ a0,xf _ (by lia),MS,if_pos (by lia),show(a+1).toNat=a.toNat+1 by lia,A6];rfl
theorem wg{α:Type}(xs:List α){a:Int}(a0:0<=a):(fi xs none (some a)).length<=xs.length/\(fi xs (some (a+1)) none).length<=xs.length:=by rw[sE _ a0,xf _ (by lia),n5,qB];lia
def vD:WS :=
 (bI (eA (ja (wB (av eL (av dn (ag 0) (wC (.int 0))) (wC (.str "some")))) (wB (av eL (av dn (ag 0) (wC (.int 0))) (wC (.str "all")))))
 (dr (fT (ak (av dn (ag 0) (wC (.int 2))) aI)))
 bH)
 (bI (eA (wB (av eL (av dn (ag 0) (wC (.int 0))) (wC (.str "not"))))
 (dr (fT (ak (av dn (ag 0) (wC (.int 1))) aI)))
 bH)
 (dr (cv xX (av dn (ag 0) (wC (.int 1)))))))
def FD:Rw->List Int
 |.st _ _ j=>[j]
 |.nt j=>[j]
 |.jn _ ps=>ps
def iW:dS:=fun ds Q=>∃ r:Rw,ds=[bq r]/\gu r/\Q (.ow true) (.list ((FD r).map D.int))
theorem zF (ds Q) (h:iW ds Q):ds.length=["row"].length:=by obtain⟨_,rfl,_⟩:=h;rfl
theorem Gg:∀ ds Q,iW ds Q->vD { nx:=fun _=>Q .sh .non,rt:=Q } (aO 1 ds):=by
 rintro ds Q ⟨r,rfl,hr,h⟩;unfold vD
 cases r with
 |st w d j =>
  obtain⟨hw,_⟩:=hr;rw[show bq (.st w d j)=.tup [.str w,.str d,.int j] from rfl];walk_at "q";refine R.D (fun e=>?_) fun e=>?_
  ·walk_at "q";exact h
  ·walk_at "q";refine R.D (fun e=>?_) fun e2=>?_
   ·walk_at "q";exact h
   ·exact absurd hw (by simp[e,e2])
 |nt j =>rw[show bq (.nt j)=.tup [.str "not",.int j] from rfl];walk_at "q";refine R.F (decide_eq_false MA.1) ?_;walk_at "q";refine R.F (decide_eq_false MA.2) ?_;walk_at "q";exact h
 |jn w ps =>obtain⟨hw,hl,_⟩:=hr;rw[show bq (.jn w ps)=.tup [.str w,.tup (ps.map .int)] from rfl];walk_at "q";refine R.F (decide_eq_false (A2 hw).1) ?_;walk_at "q";refine R.F (decide_eq_false (A2 hw).2.1) ?_;walk_at "q";refine R.F (decide_eq_false (A2 hw).2.2) ?_;walk_at "q";exact .inl ⟨di ps,h⟩
def jP:WS :=
 (bI (eA (ja (ic (wB (cv (kB "str") (ag 0)))) (ic (wB (iJ pV pV (wC (.int 1)) (cv gp (ag 0)) (wC (.int 6))))))
 (dr (wC (.bl false)))
 bH)
 (dr (cv B3 (iz (yL (ag 0)) (gN 0) ka (av (uj false) (ag 0) (wC (.str "abcdefghijklmnopqrstuvwxyz"))) 1 []))))
theorem Fj{c:Nat}:pS ⟨#[c]⟩ abc=isLet c:=by
 rw[zr];have:abc.cps.toList=(List.range 26).map (97 + ·):=rH;rw[this];apply vx.mpr;simp only[decide_eq_true_eq,isLet,iL,vt];constructor
 ·rintro⟨i,hi,rfl⟩;lia
 ·intro h;exact⟨c-97,by lia,by lia⟩
def fC:dS:=fun ds Q=>∃ d:D,ds=[d]/\Q .sh (.bl (Qm d))
theorem vU (ds Q) (h:fC ds Q):ds.length=["thing"].length:=by obtain⟨_,rfl,_⟩:=h;rfl
theorem zQ:∀ ds Q,fC ds Q->jP { nx:=fun _=>Q .sh .non,rt:=Q } (aO 1 ds):=by
 rintro ds Q ⟨d,rfl,h⟩
 cases d with
 |str x =>
  have h:Q .sh (.bl (decide (1<=x.length/\x.length<=6) && (sg x).all isLet)):=h;unfold jP;walk_at "q";refine R.F rfl ?_;walk_at "q";refine R.D (fun h1=>?_) fun h1=>?_
  ·walk_at "q";refine R.B (fun h2=>?_) fun h2=>?_;rotate_left
   ·have h2:x.length<=6:=by simp at h2;lia
    walk_at "q"
    refine eZ (fun _=>true) (fun d=>match d with
     |.str z=>.bl (pS z abc)
     |d=>d) (fun ρ=>∃ o,ρ=[o]) _ _ _ ⟨_,rfl⟩ ?_ ?_
    ·rintro y hy ρ ⟨o,rfl⟩ N1 N2 _ h2;obtain⟨c,hc,rfl⟩:=iL.mp hy;walk_at "q";exact⟨.inl rfl,h2 _ ⟨_,rfl⟩ rfl⟩
    ·rw[jM];refine⟨(sg x).map isLet,?_,?_⟩
     ·unfold LN;rw[mB,mB];refine MY fun c _=>?_;show D.bl (pS ⟨#[c]⟩ abc)=_;rw[Fj];rfl
     ·rw[decide_eq_true (by lia),tq] at h;rw[x5];exact h
   ·have h2:¬ x.length<=6:=by simp at h2;lia
    walk_at "q";rw[decide_eq_false (by lia),Bool.false_and] at h;exact h
  ·walk_at "q";rw[decide_eq_false (by lia),Bool.false_and] at h;exact h
 |_ =>unfold jP;walk_at "q";refine R.T rfl ?_;walk_at "q";exact h
def lN:WS :=
 (dr (iK (cv (kB "int") (ag 0)) (BK (cv (kB "bool") (ag 0)))))
def dW:dS:=fun ds Q=>∃ d:D,ds=[d]/\Q .sh (.bl (decide (d.ty = "int")))
theorem uR (ds Q) (h:dW ds Q):ds.length=["thing"].length:=by obtain⟨_,rfl,_⟩:=h;rfl
theorem yf:∀ ds Q,dW ds Q->lN { nx:=fun _=>Q .sh .non,rt:=Q } (aO 1 ds):=by
 rintro ds Q ⟨d,rfl,h⟩;unfold lN;walk_at "q";cases d<;>first
  | (refine R.F rfl ?_;walk_at "q";exact h)
  | (refine R.T rfl ?_;walk_at "q";first|exact h|(refine R.T rfl ?_;walk_at "q";exact h)|(refine R.F rfl ?_;walk_at "q";exact h))
def jE:WS :=
 (bI (eA (ic (wB (iJ pV pV (wC (.int 1)) (cv gp (ag 0)) (wC (.int 4)))))
 (dr (wC (.bl false)))
 bH)
 (bI (eA (ic (wB (cv B3 (iz (yL (ag 0)) (gN 0) ka (av (uj false) (ag 0) (wC (.str "0123456789"))) 1 []))))
 (dr (wC (.bl false)))
 bH)
 (dr (EV (av eL (ag 0) (wC (.str "0"))) (av nK (av dn (ag 0) (wC (.int 0))) (wC (.str "0")))))))
def cR:dS:=fun ds Q=>∃ x:Str,ds=[.str x]/\Q .sh (.bl (fK x))
theorem sJ (ds Q) (h:cR ds Q):ds.length=["word"].length:=by obtain⟨_,rfl,_⟩:=h;rfl
theorem vA:∀ ds Q,cR ds Q->jE { nx:=fun _=>Q .sh .non,rt:=Q } (aO 1 ds):=by
 rintro ds Q ⟨x,rfl,h⟩;unfold jE;unfold fK at h;walk_at "q";refine R.D (fun h1=>?_) fun h1=>?_;rotate_left
 ·walk_at "q";rw[decide_eq_false (by lia)] at h;exact h
 walk_at "q";refine R.B (fun h2=>?_) fun h2=>?_
 ·have h2:¬ x.length<=4:=by simp at h2;lia
  walk_at "q";rw[decide_eq_false (by lia)] at h;exact h
 have h2:x.length<=4:=by simp at h2;lia
 rw[decide_eq_true (by lia),tq] at h;walk_at "q"
 refine eZ (fun _=>true) (fun d=>match d with
  |.str z=>.bl (pS z "0123456789")
  |d=>d) (fun ρ=>∃ o,ρ=[o]) _ _ _ ⟨_,rfl⟩ ?_ ?_
 ·rintro y hy ρ ⟨o,rfl⟩ N1 N2 _ h2;obtain⟨c,hc,rfl⟩:=iL.mp hy;walk_at "q";exact⟨.inl rfl,h2 _ ⟨_,rfl⟩ rfl⟩
 rw[jM];refine⟨(sg x).map pO,?_,?_⟩
 ·unfold LN;rw[mB,mB];refine MY fun c _=>?_;show D.bl (pS ⟨#[c]⟩ "0123456789")=_;rw[Gd];rfl
 rw[x5,show((fun b=>b) ∘ pO)=pO from rfl]
 cases ef:(sg x).all pO with
 |false =>rw[ef] at h;walk_at "q";exact h
 |true =>
  rw[ef,tq] at h;walk_at "q";refine R.D (fun ez=>?_) fun ez=>?_
  ·rw[decide_eq_true ez] at h;walk_at "q";exact h
  rw[decide_eq_false ez] at h;walk_at "q";obtain⟨c,r,er⟩:=Ft (x:=x) (by lia);refine⟨c,by show eB (sg x) 0=_;rw[er];exact P1 _ _,?_⟩;rw[er] at h;rw[Jx];rw[Gv];simpa using h
def iy:WS :=
 (eA (ic (wB (cv (kB "str") (ag 0))))
 (lX "NoText" (wC (.str "this is no text")))
 bH)
def cu:dS:=fun ds Q=>∃ d:D,ds=[d]/\((∃ t,d=.str t)->Q .sh .non)/\((¬ ∃ t,d=.str t)->Q (.ow false) (.str "NoText"))
theorem pN (ds Q) (h:cu ds Q):ds.length=["thing"].length:=by obtain⟨_,rfl,_⟩:=h;rfl
theorem uN:∀ ds Q,cu ds Q->iy { nx:=fun _=>Q .sh .non,rt:=Q } (aO 1 ds):=by
 rintro ds Q ⟨d,rfl,h1,h2⟩;unfold iy
 cases d with
 |str t =>walk_at "q";refine R.F rfl ?_;walk_at "q";exact h1 ⟨t,rfl⟩
 |_ =>walk_at "q";refine R.T rfl ?_;walk_at "q";exact h2 (fun⟨t,z⟩=>nomatch z)
def gh:WS :=
 (bI (eA (wB (av yB (ag 1) (cv gp (ag 0))))
 (dr (av dn (ag 0) (ag 1)))
 bH)
 (dr (wC (.int 0))))
def aH:dS:=fun ds Q=>∃ (ns:List Int) (k:Int),ds=[.list (ns.map .int),.int k]/\0<=k/\Q .sh (.int (ns.getD k.toNat 0))
theorem m_ (ds Q) (h:aH ds Q):ds.length=["_law_script", "_law_k"].length:=by obtain⟨_,_,rfl,_⟩:=h;rfl
theorem pQ:∀ ds Q,aH ds Q->gh { nx:=fun _=>Q .sh .non,rt:=Q } (aO 2 ds):=by
 rintro ds Q ⟨ns,k,rfl,hk,h⟩;unfold gh;walk_at "q";refine R.D (fun hl=>?_) fun hl=>?_
 ·walk_at "q";have hn:k.toNat<ns.length:=by lia
  refine⟨.int ns[k.toNat],?_,?_⟩
  ·have:=wt (xs:=ns.map D.int) (j:=k.toNat) (v:=.int ns[k.toNat]) (by simp[hn]);rwa[x8 hk] at this
  ·show Q .sh _;simpa[List.getD,hn] using h
 ·walk_at "q";have:ns.getD k.toNat 0=0:=by
   have:ns.length<=k.toNat:=by lia
   simp[List.getD,GL this]
  rwa[this] at h
def iT:WS :=
 (bI (eJ 2 (wC (.str "abcdefghijklmnopqrstuvwxyz")))
 (bI (eJ 3 (av eH (wC (.int 1)) (av fS (ag 0) (wC (.int 6)))))
 (bI (eJ 0 (av nI (ag 0) (wC (.int 6))))
 (bI (eJ 4 (fT aI))
 (bI (xA (jm (ag 3)) (gN 5)
 (bI (rp (qk 4) (av fS (ag 0) (wC (.int 26))))
 (eJ 0 (av nI (ag 0) (wC (.int 26))))))
 (bI (eJ 6 (gK (wC (.str "")) (iz (jW (ag 4)) (gN 0) ka (av dn (ag 1) (ag 0)) 1 [2])))
 (bI (eA (wB (av eL (av fS (av nI (ag 1) (wC (.int 6))) (wC (.int 3))) (wC (.int 1))))
 (dr (iz (wX (wC (.int 1)) (wC (.int 7))) (gN 0) ka (kS (av B_ (wC (.int 6)) (ag 1)) cI (fW (ag 0))) 1 [6]))
 bH)
 (bI (eJ 7 (av fS (ag 1) (ag 3)))
 (bI (eJ 8 (fT aI))
 (bI (xA (jm (wC (.int 6))) (gN 5)
 (bI (eJ 9 (av dn (ag 2) (av fS (av eH (av dn (ag 4) (ag 7)) (av xv (wC (.int 5)) (ag 5))) (wC (.int 26)))))
 (rp (qk 8) (av eH (av eH (kS (ag 6) cI (fW (ag 7))) (ag 9)) (kS (ag 6) (fW (av eH (ag 7) (wC (.int 1)))) cI)))))
 (x_ 8)))))))))))
theorem wO{n d:Nat}{k:Int}(h0:0<=k)(h1:k<=n):HT.bG n d (some k)=k.toNat:=by simp only[HT.bG];rw[if_neg (by lia)];lia
theorem vM{x:Str}{k:Int}(h0:0<=k)(h1:k<=x.length):(iE x none (some k)).length=k.toNat:=by
 unfold iE Str.length at *
 simp only[hR,n5,qB,tv];rw[wO h0 (by simpa using h1)];simp[HT.bG];lia
theorem Fg{x:Str}{k:Int}(h0:0<=k)(h1:k<=x.length):(iE x (some k) none).length=x.length-k.toNat:=by
 unfold iE Str.length at *
 simp only[hR,n5,qB,tv];rw[wO h0 (by simpa using h1)];simp[HT.bG]
theorem Cp{n:Int}{z:Str}(h:lets z):lets (om n z):=fun c hc=>by unfold om sg at hc;rw[List.toList_toArray] at hc;obtain⟨l,hl,ky⟩:=List.mem_flatten.mp hc;rw[GA hl] at ky;exact h c ky
theorem qG:∀ (l:List Str),ji (l.map D.str)=some l
 |[]=>rfl
 |x :: l=>by simp[ji,qG l]
theorem yI{p:Int}(h0:0<=p)(h1:p<26):eB (sg abc) p=some (97+p.toNat):=by
 have:eB (sg abc) ((p.toNat:Nat):Int)=some (97+p.toNat):=wt (by
  rw[rH];have:p.toNat<26:=by lia
  simp[this])
 rwa[x8 h0] at this
theorem mj:∀ l:List Nat,sg (Str.join "" (l.map fun c=>(⟨#[c]⟩:Str)))=l
 |[]=>by decide +kernel
 |[c]=>rfl
 |c :: d :: l=>by have ih:=mj (d :: l);show sg ((⟨#[c]⟩:Str) ++ "" ++ Str.join "" ((d :: l).map fun c=>(⟨#[c]⟩:Str)))=_;rw[bf,bf,ih,show sg ("" : Str)=[] by decide +kernel];rfl
theorem wQ:∀ l:List Nat,(l.map fun _=>1).sum=l.length
 |[]=>rfl
 |x :: l=>by simp[wQ l];lia
def cY:dS:=fun ds Q=>∃ c t:Int,ds=[.int c,.int t]/\∀ names:List Str,names.length=6->(∀ n∈names,Open n)->names.Nodup->Q (.ow true) (.list (names.map .str))
theorem pP (ds Q) (h:cY ds Q):ds.length=["_law_cell", "_law_turn"].length:=by obtain⟨_,_,rfl,_⟩:=h;rfl
theorem uc:∀ ds Q,cY ds Q->iT { nx:=fun _=>Q .sh .non,rt:=Q } (aO 10 ds):=by
 rintro ds Q ⟨c,t,rfl,h⟩;unfold iT;walk_at "q";have s0:=mG c (show(6:Int)≠0 by decide);have s1:=mE c (show(0:Int)<6 by decide);generalize yv:1+c % 6=size at *
 refine⟨by lia,by lia,?_⟩;refine g8 _ (fun i ρ=>∃ (cc:Int) (ps:List Int) (o:Option Sl),ps.length=i/\(∀ p∈ps,0<=p/\p<26)/\ρ=[some (.sh (.int cc)),some (.sh (.int t)),some (.sh (.str abc)),some (.sh (.int size)),some (.ow true (.list (ps.map .int))),o,none,none,none,none]) ⟨_,[],_,rfl,(fun p hp=>nomatch hp),rfl⟩ ?_ ?_
 ·rintro i x ρ hx ⟨cc,ps,o,hl,hp,rfl⟩ N hN;obtain⟨hi,rfl⟩:=iR hx;walk_at "q";refine⟨by lia,?_⟩;rw[ints_app];refine hN _ ⟨_,ps++[cc % 26],_,by simp[hl],fun p y4=>?_,rfl⟩;rcases eW.mp y4 with h'|h'
  ·exact hp p h'
  ·rw[mw.mp h'];exact⟨mG _ (by decide),mE _ (by decide)⟩
 rintro ρ ⟨cc,ps,o,hl,hp,rfl⟩;rw[jg] at hl;walk_at "q";have e0:(Str.ofString "").length=0:=by decide
 refine eZ (fun _=>true) (fun d=>match d with
  |.int p=>.str ⟨#[97+p.toNat]⟩
  |d=>d) (fun ρ=>∃ o,ρ=[o,some (.sh (.str abc))]) _ _ _ ⟨_,rfl⟩ ?_ ?_
 ·rintro y hy ρ ⟨o,rfl⟩ N1 N2 _ h2;obtain⟨p,y4,rfl⟩:=iL.mp hy;walk_at "q";exact⟨_,yI (hp p y4).1 (hp p y4).2,.inl rfl,h2 _ ⟨_,rfl⟩ rfl⟩
 rw[jM];refine⟨(ps.map fun p=>97+p.toNat).map fun c=>⟨#[c]⟩,?_,?_,?_⟩
 ·rw[mB,<- qG,mB,mB];rfl
 ·rw[e0,mB,Nat.mul_zero,Nat.add_zero];show((ps.map fun p=>97+p.toNat).map fun _=>1).sum<=_;rw[wQ,da];lia
 have hw:=mj (ps.map fun p=>97+p.toNat);generalize Str.join "" ((ps.map fun p=>97+p.toNat).map fun c=>(⟨#[c]⟩:Str))=word at hw ⊢;have wl:word.length=size.toNat:=by
  have:(sg word).length=size.toNat:=by rw[hw,da,hl]
  rw[<- this];unfold sg Str.length;simp
 have Qo:lets word:=fun ch hc=>by rw[hw] at hc;obtain⟨p,y4,rfl⟩:=iL.mp hc;have:=hp p y4;simp[isLet];lia
 refine R.D (fun _=>?_) fun _=>?_
 ·walk_at "q"
  refine eZ (fun _=>true) (fun d=>match d with
   |.int k=>.str (iE (om 6 word) none (some k))
   |d=>d) (fun ρ=>∃ o,ρ=[o,some (.sh (.str word))]) _ _ _ ⟨_,rfl⟩ ?_ ?_
  ·rintro y hy ρ ⟨o,rfl⟩ N1 N2 _ h2;obtain⟨i,hi,rfl⟩:=A_ hy;walk_at "q";exact⟨by lia,.inl rfl,h2 _ ⟨_,rfl⟩ rfl⟩
  ·rw[jM]
   have e6:(List.map (fun d=>match d with
    |.int k=>D.str (iE (om 6 word) none (some k))
    |d=>d) (mW 1 6))=((List.range 6).map fun i=>iE (om 6 word) none (some (1+(i:Nat):Int))).map D.str:=by
    unfold mW;rw[mB,mB];rfl
   rw[e6];have l0:∀ i:Nat,i<6->(iE (om 6 word) none (some (1+(i:Nat):Int))).length=(1+(i:Int)).toNat:=fun i hi=>vM (by lia) (by rw[qR,wl];simp;lia);refine h _ (by simp) (fun n hn=>?_) ?_;rotate_left
   ·rw[List.Nodup,Nn];refine List.Pairwise.imp_of_mem (fun {a b} ha hb V1 e=>?_) NC;have ha:=l0 a (by simpa using ha);have hb:=l0 b (by simpa using hb);rw[e] at ha;lia
   obtain⟨i,hi,rfl⟩:=iL.mp hn;have hi:i<6:=by simpa using hi
   have l1:(iE (om 6 word) none (some (1+(i:Nat):Int))).length=(1+(i:Int)).toNat:=vM (by lia) (by rw[qR,wl];simp;lia);exact⟨by rw[l1];lia,by rw[l1];lia,rW (Cp Qo) _ _⟩
 ·walk_at "q";refine⟨by lia,?_⟩;have a0:=mG t (show size≠0 by lia);have a1:=mE t (show 0<size by lia);generalize t % size=at' at *
  have l1:(iE word none (some at')).length=at'.toNat:=vM a0 (by lia);have l2:(iE word (some (at'+1)) none).length=word.length-(at'+1).toNat:=Fg (by lia) (by lia);refine g8 _ (fun i ρ=>∃ (names:List Str) (o5 o9:Option Sl),names=(List.range i).map (fun k=>iE word none (some at') ++ ⟨#[97+((ps.getD at'.toNat 0+5*(0+(k:Int))) % 26).toNat]⟩++iE word (some (at'+1)) none)/\(∀ n∈names,Open n)/\ρ=[some (.sh (.int cc)),some (.sh (.int t)),some (.sh (.str abc)),some (.sh (.int size)),some (.ow true (.list (ps.map .int))),o5,some (.sh (.str word)),some (.sh (.int at')),some (.ow true (.list (names.map .str))),o9]) ⟨[],_,_,rfl,(fun n hn=>nomatch hn),rfl⟩ ?_ ?_
  ·rintro i x ρ hx ⟨names,o5,o9,hn,hd,rfl⟩ N hN;obtain⟨hi,rfl⟩:=iR hx;have hi:i<6:=hi;have hnl:names.length=i:=by rw[hn,da,CM]
   walk_at "q";have V2:at'.toNat<ps.length:=by lia
   refine⟨.int ps[at'.toNat],?_,?_⟩
   ·have:=wt (xs:=ps.map D.int) (j:=at'.toNat) (v:=.int ps[at'.toNat]) (by simp[V2]);rwa[x8 a0] at this
   walk_at "q";obtain⟨ch,ec,lc⟩:=Ei (ps[at'.toNat]+5*(0+(i:Int)));have ech:ch=97+((ps.getD at'.toNat 0+5*(0+(i:Int))) % 26).toNat:=by have:=yI (mG (ps[at'.toNat]+5*(0+(i:Int))) (show(26:Int)≠0 by decide)) (mE _ (by decide));rw[this] at ec;rw[show ps.getD at'.toNat 0=ps[at'.toNat] by simp[List.getD,V2]];exact(Option.some.inj ec).symm
   refine⟨.inl ⟨by lia,by lia⟩,ch,ec,?_⟩;refine⟨by rw[l1,iY];lia,by rw[l1,l2,iY];lia,by lia,?_⟩;rw[Cj];refine hN _ ⟨names++[_],_,_,by rw[List.range_succ,n9,<- hn,ech,GO],fun n HM=>?_,rfl⟩;rcases eW.mp HM with h'|h'
   ·exact hd n h'
   ·obtain rfl:n=_:=by simpa using h'
    refine⟨?_,?_,wN (wN (rW Qo _ _) (BX lc)) (rW Qo _ _)⟩
    ·rw[bQ,bQ,l1,l2,iY];lia
    ·rw[bQ,bQ,l1,l2,iY];lia
  ·rintro ρ ⟨names,o5,o9,hn,hd,rfl⟩;rw[jg] at hn;walk_at "q";refine h names (by rw[hn,da,CM]) hd ?_;rw[hn,List.Nodup,Nn];refine List.Pairwise.imp_of_mem (fun {a b} ha hb V1 e=>?_) NC;have ha:a<6:=by simpa using ha
   have hb:b<6:=by simpa using hb
   have e:=congrArg sg e;rw[bf,bf,bf,bf,List.append_cancel_right_eq,List.append_cancel_left_eq] at e;have e:97+((ps.getD at'.toNat 0+5*(0+(a:Int))) % 26).toNat=97+((ps.getD at'.toNat 0+5*(0+(b:Int))) % 26).toNat:=by simpa[sg] using e
   generalize ps.getD at'.toNat 0=z at e;exact V1 (by lia)
def iC:WS :=
 (bI (eJ 6 (av fS (ag 3) (wC (.int 8))))
 (bI (eA (wB (av yB (ag 6) (wC (.int 5))))
 (Bh [.inl (av dn (fT (ak (wC (.str "some")) (ak (wC (.str "all")) aI))) (av nI (ag 6) (wC (.int 3)))),.inl (av dn (ag 2) (av fS (av nI (ag 3) (wC (.int 16))) (cv gp (ag 2)))),.inr 5])
 bH)
 (bI (eA (wB (av eL (ag 6) (wC (.int 5))))
 (Bh [.inl (wC (.str "not")),.inr 5])
 bH)
 (bI (eJ 7 (fT aI))
 (bI (xA (jm (av fS (av nI (ag 3) (wC (.int 16))) (wC (.int 4)))) (gN 8)
 (bI (tf 5 (rp (qk 7) (ag 5)))
 (eJ 5 (av fS (av eH (av xv (wC (.int 7)) (ag 5)) (av nI (ag 4) (av eH (ag 8) (wC (.int 1))))) (ag 1)))))
 (dr (ip (ak (av dn (fT (ak (wC (.str "and")) (ak (wC (.str "or")) aI))) (av xt (ag 6) (wC (.int 6)))) (ak (cv oE (ag 7)) aI)))))))))
def lz:WS :=
 (bI (eJ 3 (av fS (av xv (av eH (av fS (ag 0) (wC (.int 2147483647))) (wC (.int 1))) (av eH (wC (.int 48271)) (av xv (wC (.int 7)) (ag 1)))) (wC (.int 2147483647))))
 (bI (eJ 4 (av fS (av xv (ag 3) (wC (.int 69621))) (wC (.int 2147483629))))
 (bI (eA (wB (av eL (ag 1) (wC (.int 0))))
 (dr (av dn (fT (ak (ip (ak (wC (.str "and")) (ak (ip aI) aI))) (ak (ip (ak (wC (.str "or")) (ak (ip aI) aI))) aI))) (av fS (ag 3) (wC (.int 2)))))
 bH)
 (bI (eJ 5 (av fS (ag 4) (ag 1)))
 (bI (eA (wB (av eL (av fS (av nI (ag 3) (wC (.int 8))) (wC (.int 2))) (wC (.int 1))))
 (eJ 5 (av xt (av xt (ag 1) (wC (.int 1))) (av fS (ag 4) (av DK (ag 1) (wC (.int 3))))))
 bH)
 iC)))))
def dY:dS:=fun ds Q=>∃ (c k:Int) (names:List Str),ds=[.int c,.int k,.list (names.map .str)]/\0<=k/\k<=1000/\1<=names.length/\names.length<=100/\(∀ n∈names,rL n)/\∀ r:Rw,rS k r->Q .sh (bq r)
theorem uL (ds Q) (h:dY ds Q):ds.length=["_law_cell", "_law_k", "_law_names"].length:=by obtain⟨_,_,_,rfl,_⟩:=h;rfl
theorem V3{Q:Md->D->Prop}{c k num more j:Int}{names:List Str}(k0:0<=k)(k1:k<=1000)(n1:1<=names.length)(n2:names.length<=100)(hd:∀ n∈names,rL n)(h:∀ r:Rw,rS k r->Q .sh (bq r))(h0:0<=j)(h1:j<k) :
  iC { nx:=fun _=>Q .sh .non,rt:=Q } [some (.sh (.int c)),some (.sh (.int k)),some (.sh (.list (names.map .str))),some (.sh (.int num)),some (.sh (.int more)),some (.sh (.int j)),none,none,none]:=by
 unfold iC;have nb:=mG num (show(8:Int)≠0 by decide);have nb1:=mE num (show(0:Int)<8 by decide);walk_at "q";have w0:num % 8 / 3=0\/num % 8 / 3=1\/num % 8 / 3=2:=by lia
 refine R.D (fun h5=>?_) fun h5=>?_
 ·walk_at "q";obtain⟨w,ew,hw⟩:∃ w:Str,eB [D.str (Str.ofString "some"),D.str (Str.ofString "all")] (num % 8 / 3)=some (.str w)/\(w = "some"\/w = "all"):=by
   rcases w0 with e|e|e
   ·rw[e];exact⟨_,rfl,.inl rfl⟩
   ·rw[e];exact⟨_,rfl,.inr rfl⟩
   ·lia
  refine⟨_,ew,?_⟩;walk_at "q";obtain⟨n,hn,en⟩:=name_mod (names:=names) (num / 16) n1;refine⟨by lia,_,en,?_⟩;walk_at "q";exact h (.st w n j) ⟨hw,hd n hn,h0,h1⟩
 ·walk_at "q";refine R.D (fun h6=>?_) fun h6=>?_
  ·walk_at "q";exact h (.nt j) ⟨h0,h1⟩
  ·walk_at "q";have f0:=mG (num / 16) (show(4:Int)≠0 by decide);have f1:=mE (num / 16) (show(0:Int)<4 by decide);generalize num / 16 % 4=cnt at *
   refine⟨by lia,by lia,?_⟩;refine g8 _ (fun i ρ=>∃ (ps:List Int) (j:Int) (o8:Option Sl),ps.length=i/\(∀ p∈ps,0<=p/\p<k)/\0<=j/\j<k/\ρ=[some (.sh (.int c)),some (.sh (.int k)),some (.sh (.list (names.map .str))),some (.sh (.int num)),some (.sh (.int more)),some (.sh (.int j)),some (.sh (.int (num % 8))),some (.ow true (.list (ps.map .int))),o8]) ⟨[],j,_,rfl,(fun p hp=>nomatch hp),h0,h1,rfl⟩ ?_ ?_
   ·rintro i x ρ hx ⟨ps,j,o8,hl,hp,h0,h1,rfl⟩ N hN;obtain⟨hi,rfl⟩:=iR hx;walk_at "q";refine⟨by lia,.inl ⟨by lia,by lia⟩,by lia,by lia,?_⟩;rw[ints_app];refine hN _ ⟨ps++[j],_,_,by simp[hl],fun p y4=>?_,mG _ (by lia),mE _ (by lia),rfl⟩;rcases eW.mp y4 with h'|h'
    ·exact hp p h'
    ·rw[mw.mp h'];exact⟨h0,h1⟩
   ·rintro ρ ⟨ps,j,o8,hl,hp,h0,h1,rfl⟩;rw[jg] at hl;walk_at "q";obtain⟨w,ew,hw⟩:∃ w:Str,eB [D.str (Str.ofString "and"),D.str (Str.ofString "or")] (num % 8-6)=some (.str w)/\(w = "and"\/w = "or"):=by
     have:num % 8-6=0\/num % 8-6=1:=by lia
     rcases this with e|e
     ·rw[e];exact⟨_,rfl,.inl rfl⟩
     ·rw[e];exact⟨_,rfl,.inr rfl⟩
    refine⟨_,ew,?_⟩;walk_at "q";refine⟨di ps,?_⟩;exact h (.jn w ps) ⟨hw,by lia,hp⟩
theorem xQ:∀ ds Q,dY ds Q->lz { nx:=fun _=>Q .sh .non,rt:=Q } (aO 9 ds):=by
 rintro ds Q ⟨c,k,names,rfl,k0,k1,n1,n2,hd,h⟩;unfold lz;walk_at "q";have m0:=mG c (show(2147483647:Int)≠0 by decide);have m1:=mE c (show(0:Int)<2147483647 by decide);refine⟨.inl ⟨by lia,by lia⟩,.inl ⟨by lia,by lia⟩,.inr ⟨by lia,by lia⟩,?_⟩;generalize fB':(c % 2147483647+1)*(48271+7*k) % 2147483647=num;generalize num*69621 % 2147483629=more;refine R.D (fun hk=>?_) fun hk=>?_
 ·subst hk;walk_at "q";have z0:=mG num (show(2:Int)≠0 by decide);have z1:=mE num (show(0:Int)<2 by decide);generalize num % 2=b at *
  have hb:b=0\/b=1:=by lia
  have q1:=h (.jn "and" []) ⟨.inl rfl,by decide,fun p hp=>nomatch hp⟩;have q2:=h (.jn "or" []) ⟨.inr rfl,by decide,fun p hp=>nomatch hp⟩;rcases hb with rfl|rfl
  ·exact⟨_,rfl,q1⟩
  ·exact⟨_,rfl,q2⟩
 ·walk_at "q";refine⟨by lia,?_⟩;have j0:=mG more (show k≠0 by lia);have j1:=mE more (show 0<k by lia);have jj:∀ mm:Int,mm=(if (3:Int)<k then 3 else k)->0<mm/\0<=k-1-more % mm/\k-1-more % mm<k:=fun mm hm=>by
   have q0:0<mm:=by rw[hm];split<;>lia
   have q1:mm<=k:=by rw[hm];split<;>lia
   have q2:=mG more (show mm≠0 by lia);have q3:=mE more q0;lia
  refine R.D (fun _=>?_) fun _=>?_
  ·walk_at "q";exact⟨(jj _ rfl).1,V3 k0 k1 n1 n2 hd h (jj _ rfl).2.1 (jj _ rfl).2.2⟩
  ·walk_at "q";exact V3 k0 k1 n1 n2 hd h j0 j1
def fZ:WS :=
 (bI (tf 0 (xA (zz (ag 0)) (gN 2)
 (eA (ja (ic (wB (cv (kB "int") (ag 2)))) (ja (wB (cv (kB "bool") (ag 2))) (ic (wB (iJ pV yB (wC (.int 0)) (ag 2) (ag 1))))))
 (dr (wC (.bl false)))
 bH)))
 (dr (wC (.bl true))))
def aZ:dS:=fun ds Q=>∃ (ps:List Int) (k:Int),(ds=[.tup (ps.map .int),.int k])/\(∀ p∈ps,0<=p/\p<k)/\Q .sh (.bl true)
theorem mU (ds Q) (h:aZ ds Q):ds.length=["_law_some", "_law_k"].length:=by obtain⟨_,_,rfl,_⟩:=h;rfl
theorem pR:∀ ds Q,aZ ds Q->fZ { nx:=fun _=>Q .sh .non,rt:=Q } (aO 3 ds):=by
 rintro ds Q ⟨ps,k,rfl,hp,h⟩;unfold fZ;walk_at "q";refine g8 _ (fun i ρ=>∃ o,ρ=[some (.sh (.tup (ps.map .int))),some (.sh (.int k)),o]) ⟨_,rfl⟩ ?_ ?_
 ·rintro i x ρ hx ⟨o,rfl⟩ N hN;obtain⟨p,hm,rfl⟩:=iL.mp (CF hx);have:=hp p hm;walk_at "q";refine R.F rfl ?_;walk_at "q";refine R.F rfl ?_;walk_at "q";refine R.T (decide_eq_true this.1) ?_;walk_at "q";refine R.F (by rw[decide_eq_true this.2];rfl) ?_;walk_at "q";exact hN _ ⟨_,rfl⟩
 ·rintro ρ ⟨o,rfl⟩;walk_at "q";exact h
def jB:WS :=
 (bI (eJ 1 (fT aI))
 (bI (tf 0 (xA (xM (ag 0)) (gN 2)
 (bI (eJ 3 (fT (ak (av dn (ag 2) (wC (.int 0))) aI)))
 (bI (tf 2 (xA (zz (kS (ag 2) (fW (wC (.int 1))) cI)) (gN 4)
 (eA (wB (cv (kB "tuple") (ag 4)))
 (eJ 3 (av eH (ag 3) (iz (zf (ag 4)) (gN 0) ka (cv sO (ag 0)) 1 [])))
 (eA (wB (cv (kB "str") (ag 4)))
 (tf 4 (rp (qk 3) (ag 4)))
 (rp (qk 3) (cv sO (ag 4)))))))
 (rp (qk 1) (gK (wC (.str " ")) (ag 3)))))))
 (dr (gK (wC (.str "; ")) (ag 1)))))
def cQ:dS:=fun ds Q=>∃ l:List Rw,ds=[.list (l.map bq)]/\(∀ r∈l,gu r)/\l.length<=2000/\Q .sh (.str (textOf l))
theorem rZ (ds Q) (h:cQ ds Q):ds.length=["_law_scroll_here"].length:=by obtain⟨_,rfl,_⟩:=h;rfl
theorem vo:∀ ds Q,cQ ds Q->jB { nx:=fun _=>Q .sh .non,rt:=Q } (aO 5 ds):=by
 rintro ds Q ⟨l,rfl,hn,hl,h⟩;unfold jB;walk_at "q";refine g8 _ (fun i ρ=>∃ o2 o3 o4:Option Sl,ρ=[some (.sh (.list (l.map bq))),some (.ow true (.list (((l.take i).map bt).map .str))),o2,o3,o4]) ⟨_,_,_,rfl⟩ ?_ ?_
 ·rintro i x ρ hx ⟨o2,o3,o4,rfl⟩ N hN;have hi:=(kU.mp hx).1;rw[da] at hi;rw[vj] at hx
  cases e:l[i]? with
  |none=>rw[e] at hx;cases hx
  |some r =>
   rw[e] at hx;cases hx;have hr:=hn r (CF e);have et:((l.take (i+1)).map bt).map D.str=((l.take i).map bt).map D.str++[.str (bt r)]:=by rw[List.take_add_one,e];simp
   have tl:(l.take i).length<=2000:=by rw[n5];lia
   have fin:∀ o2 o4:Option Sl,∃ zs,ji ((e_ r).map D.str)=some zs/\(zs.map (·.length)).sum+zs.length*(" " : Str).length<=16777216/\((l.take i).map bt).length<16777216/\N [some (.sh (.list (l.map bq))),some (.ow true (.list (((l.take i).map bt).map .str++[.str (Str.join " " zs)]))),o2,some (.ow true (.list ((e_ r).map .str))),o4]:=fun o2 o4=>qj hr (Q:=fun z=>((l.take i).map bt).length<16777216/\N [some (.sh (.list (l.map bq))),some (.ow true (.list (((l.take i).map bt).map .str++[.str z]))),o2,some (.ow true (.list ((e_ r).map .str))),o4]) ⟨by rw[da];lia,hN _ ⟨_,_,_,by rw[et]⟩⟩;clear hN et h;generalize (l.take i).map bt=tx at *
   match r,hr,fin with
   |.st w d j,hr,fin =>
    rw[show bq (.st w d j)=.tup [.str w,.str d,.int j] from rfl];walk_at "q";refine⟨by decide,?_⟩;refine g8 _ (fun k ρ=>∃ o4:Option Sl,ρ=[some (.sh (.list (l.map bq))),some (.ow true (.list (tx.map .str))),some (.sh (.tup [.str w,.str d,.int j])),some (.ow true (.list (([w,d,num j].take (k+1)).map .str))),o4]) ⟨_,rfl⟩ ?_ ?_
    ·rintro k x ρ hx ⟨o4,rfl⟩ N2 oy;rw[show fi [D.str w,D.str d,D.int j] (some 1) none=[.str d,.int j] from rfl] at hx;have hk:=(kU.mp hx).1;rcases (show k=0\/k=1 by simp at hk;lia) with rfl|rfl
     ·cases hx;walk_at "q";refine R.F rfl ?_;walk_at "q";refine R.T rfl ?_;walk_at "q";exact⟨by simp,oy _ ⟨_,rfl⟩⟩
     ·cases hx;walk_at "q";refine R.F rfl ?_;walk_at "q";refine R.F rfl ?_;walk_at "q";exact⟨pI hr.2.2.1 (by have:=hr.2.2.2;lia),by simp,oy _ ⟨_,rfl⟩⟩
    ·rintro ρ ⟨o4,rfl⟩;walk_at "q";exact fin _ _
   |.nt j,hr,fin =>
    rw[show bq (.nt j)=.tup [.str "not",.int j] from rfl];walk_at "q";refine⟨by decide,?_⟩;refine g8 _ (fun k ρ=>∃ o4:Option Sl,ρ=[some (.sh (.list (l.map bq))),some (.ow true (.list (tx.map .str))),some (.sh (.tup [.str "not",.int j])),some (.ow true (.list (([("not" : Str),num j].take (k+1)).map .str))),o4]) ⟨_,rfl⟩ ?_ ?_
    ·rintro k x ρ hx ⟨o4,rfl⟩ N2 oy;rw[show fi [D.str "not",D.int j] (some 1) none=[.int j] from rfl] at hx;have hk:=(kU.mp hx).1;obtain rfl:k=0:=by simp at hk;lia
     cases hx;walk_at "q";refine R.F rfl ?_;walk_at "q";refine R.F rfl ?_;walk_at "q";exact⟨pI hr.1 (by have:=hr.2;lia),by simp,oy _ ⟨_,rfl⟩⟩
    ·rintro ρ ⟨o4,rfl⟩;walk_at "q";exact fin _ _
   |.jn w ps,hr,fin =>
    rw[show bq (.jn w ps)=.tup [.str w,.tup (ps.map .int)] from rfl];walk_at "q";refine⟨di ps,by decide,?_⟩;refine g8 _ (fun k ρ=>∃ o4:Option Sl,ρ=[some (.sh (.list (l.map bq))),some (.ow true (.list (tx.map .str))),some (.sh (.tup [.str w,.tup (ps.map .int)])),some (.ow true (.list (if k=0 then [.str w] else (w :: ps.map num).map .str))),o4]) ⟨_,rfl⟩ ?_ ?_
    ·rintro k x ρ hx ⟨o4,rfl⟩ N2 oy;rw[show fi [D.str w,D.tup (ps.map .int)] (some 1) none=[.tup (ps.map .int)] from rfl] at hx;have hk:=(kU.mp hx).1;obtain rfl:k=0:=by simp at hk;lia
     cases hx;rw[if_pos rfl];walk_at "q";refine R.T rfl ?_;walk_at "q";refine iI hr.2.2 ?_;walk_at "q";refine⟨by have:=hr.2.1;lia,.inl ⟨aN _,oy _ ⟨_,by rw[if_neg (by lia)];rfl⟩⟩⟩
    ·rintro ρ ⟨o4,rfl⟩;rw[show(fi [D.str w,D.tup (ps.map D.int)] (some 1) none).length=1 from rfl,if_neg (by lia)];walk_at "q";exact fin _ _
 ·rintro ρ ⟨o2,o3,o4,rfl⟩;rw[da,List.take_length];walk_at "q";exact ph hn hl (Q:=fun z=>Q .sh (.str z)) h
def cV:WS :=
 (jV 1 (fT (ak (wC (.str "some 0 *")) (ak (wC (.str "and;or")) (ak (wC (.str "and ,")) (ak (wC (.str "xor 0")) (ak (wC (.str "not 0.")) (ak (wC (.str "all a1 0")) aI))))))) (av fS (ag 0) (wC (.int 26))))
def cX:WS :=
 (bI (zp 1 (fT (ak (wC (.str "some  0")) (ak (wC (.str "not 01")) (ak (wC (.str "and 00")) (ak (wC (.str "not 12345")) (ak (wC (.str "or 1 -0")) (ak (wC (.str "not +0")) (ak (wC (.str "and 1_0")) (ak (wC (.str "not x")) (ak (wC (.str "yes")) aI)))))))))))
 cV)
def fJ:WS :=
 (bI (eJ 1 (fT (ak (wC (.str "")) (ak (wC (.str "and ")) (ak (wC (.str " and")) (ak (wC (.str "or  0")) (ak (wC (.str "And")) (ak (wC (.str "not")) (ak (wC (.str "not 0 0")) (ak (wC (.str "some *")) (ak (wC (.str "all * 0 0")) (ak (wC (.str "some A 0")) (ak (wC (.str "all abcdefg 0")) aI)))))))))))))
 cX)
def Qp(x:Str):Prop:=x.length<=20/\(Odd x\/(mh x=none/\59∉sg x))
def Qq(ws:List Str):Bool:=ws.all (fun p=>!(sg p).contains 32) && (match ws with
 |w :: r=>(kM w r).isNone
 |[]=>false)
theorem yK {ws:List Str} (h:Qq ws=true):mh (Str.join " " ws)=none:=by
 unfold Qq at h;simp only[i6,ki,NJ] at h
 cases ws with
 |nil=>cases h.2
 |cons w r =>
  unfold mh;rw[xg,iZ (by simp) fun p hp m=>by
   have:=h.1 p hp;rw[List.contains_iff_mem.mpr m] at this;cases this]
  exact Option.isNone_iff_eq_none.mp h.2
theorem Hn:Odd "and;or" := by exact⟨3,by decide +kernel,by decide +kernel⟩
abbrev B8:List Str:=["", "and ", " and", "or  0", "And", "not", "not 0 0", "some *", "all * 0 0", "some A 0", "all abcdefg 0", "some  0", "not 01", "and 00", "not 12345", "or 1 -0", "not +0", "and 1_0", "not x", "yes", "some 0 *", "and;or", "and ,", "xor 0", "not 0.", "all a1 0"]
abbrev bw:List (List Str):=[[""],["and", ""],["", "and"],["or", "", "0"],["And"],["not"],["not", "0", "0"],["some", "*"],["all", "*", "0", "0"],["some", "A", "0"],["all", "abcdefg", "0"],["some", "", "0"],["not", "01"],["and", "00"],["not", "12345"],["or", "1", "-0"],["not", "+0"],["and", "1_0"],["not", "x"],["yes"],["some", "0", "*"],["and;or"],["and", ","],["xor", "0"],["not", "0."],["all", "a1", "0"]]
theorem Ep:B8=bw.map (Str.join " "):=by decide +kernel
theorem Ax:(bw.all Qq && B8.all fun x=>decide (x.length<=20) && (decide (x = "and;or") || !(sg x).contains 59))=true:=by decide +kernel
theorem uy{x:Str}(hx:x∈B8):Qp x:=by
 have h:=Ax;simp only[i6,ki,GY,decide_eq_true_eq,NJ] at h;have hb:=h.2 x hx;rw[Ep] at hx;obtain⟨ws,hw,rfl⟩:=iL.mp hx;refine⟨hb.1,?_⟩;rcases hb.2 with z|z
 ·rw[z];exact .inl Hn
 ·exact .inr ⟨yK (h.1 ws hw),fun m=>by rw[List.contains_iff_mem.mpr m] at z;cases z⟩
def a_:dS:=fun ds Q=>∃ c:Int,ds=[.int c]/\∀ x:Str,Qp x->Q .sh (.str x)
theorem lG (ds Q) (h:a_ ds Q):ds.length=["_law_cell"].length:=by obtain⟨_,rfl,_⟩:=h;rfl
section
variable {Q:Md->D->Prop}{c:Int}(h:∀ x:Str,Qp x->Q .sh (.str x))
include h
theorem Ii{L:List D}(hL:L=(B8.take 20).map .str):cV { nx:=fun _=>Q .sh .non,rt:=Q } [some (.sh (.int c)),some (.ow true (.list L))]:=by
 have ff:ck L=true:=by rw[hL];exact aN _
 have ll:L.length=20:=by rw[hL];rfl
 unfold cV;walk_at "q";refine⟨by lia,?_⟩;obtain⟨x,hx,e⟩:=zu (names:=B8) (i:=c % 26) (by lia) (by show c % 26<((26:Nat):Int);lia);rw[hL];exact⟨_,e,h x (uy hx)⟩
theorem JN{L:List D}(hL:L=(B8.take 11).map .str):cX { nx:=fun _=>Q .sh .non,rt:=Q } [some (.sh (.int c)),some (.ow true (.list L))]:=by
 have ff:ck L=true:=by rw[hL];exact aN _
 have ll:L.length=11:=by rw[hL];rfl
 obtain⟨w,e⟩:∃ w,w=cV:=⟨_,rfl⟩
 unfold cX;rw[<- e];walk_at "q";refine⟨by lia,?_⟩;rw[e];exact Ii h (by rw[hL];rfl)
end
theorem nQ:∀ ds Q,a_ ds Q->fJ { nx:=fun _=>Q .sh .non,rt:=Q } (aO 2 ds):=by
 rintro ds Q ⟨c,rfl,h⟩;obtain⟨w,e⟩:∃ w,w=cX:=⟨_,rfl⟩
 unfold fJ;rw[<- e];walk_at "q";rw[e];exact JN h rfl
def cJ:WS :=
 (jV 2 (fT (ak (fT (ak (wC (.str "and")) aI)) (ak (wC (.str "")) (ak (wC (.bl true)) aI)))) (av fS (ag 1) (wC (.int 12))))
def eV:WS :=
 (bI (eJ 2 (fT (ak (av eH (ag 0) (wC (.str "; "))) (ak (av eH (wC (.str "; ")) (ag 0)) (ak (av eH (ag 0) (wC (.str ";"))) (ak (av eH (wC (.str ";")) (ag 0)) (ak (av eH (wC (.str " ")) (ag 0)) (ak (av eH (ag 0) (wC (.str " "))) (ak (av eH (ag 0) (wC (.str ";  and"))) (ak (wC .non) (ak (wC (.int 7)) aI)))))))))))
 cJ)
def bC:dS:=fun ds Q=>∃ (l:List Rw) (c:Int),ds=[.str (textOf l),.int c]/\l≠[]/\(∀ r∈l,gu r)/\eP (l.map bt)<=900000/\∀ d:D,kE d=none->xI d->Q (rz d) d
theorem jO (ds Q) (h:bC ds Q):ds.length=["_law_text_here", "_law_cell"].length:=by obtain⟨_,_,rfl,_⟩:=h;rfl
abbrev MB(x:Str):Prop:=Odd x\/(mh x=none/\59∉sg x)
theorem kZ {A B:List Str} {x:Str} (hx:MB x) (hA:∀ q∈A,59∉sg q) (hB:∀ q∈B,59∉sg q):kE (.str (Str.join "; " (A++x :: B)))=none :=
 DG (P:=A++x :: B) (p:=x) (by simp) (hx.elim .inl fun z=>.inr ⟨z.1,fun q hq=>by
  rcases eW.mp hq with hq|hq
  ·exact hA q hq
  ·rcases eK.mp hq with rfl|hq
   ·exact z.2
   ·exact hB q hq⟩)
theorem Cu{r:Rw}(h:gu r){c:Nat}(hc:isWs c=false):∀ p∈e_ r,c∉sg p:=fun p hp m=>by rw[ki.mp (yX h p hp) c m] at hc;cases hc
theorem zV {r:Rw} (h:gu r):MB (" " ++ bt r):=by
 have e:(" " : Str)++bt r=Str.join " " ("" :: e_ r):=by rw[bB _ _ (zT r)];exact yj (by rw[bf,bf,bf];rfl)
 refine .inr ⟨?_,?_⟩
 ·rw[e];unfold mh;rw[xg,iZ (by simp) fun p hp m=>by
   rcases eK.mp hp with rfl|hp
   ·exact absurd m (by decide +kernel)
   ·exact Cu h (by decide) p hp m]
  exact rM (fun z=>absurd z.1 (by decide +kernel)) (fun z=>absurd z.1 (by decide +kernel)) (by decide +kernel)
 ·rw[bf];intro m;rcases eW.mp m with m|m
  ·exact absurd m (by decide +kernel)
  ·exact mO h m
theorem Bb {r:Rw} (h:gu r):MB (bt r ++ " "):=by
 have e:bt r ++ " " = Str.join " " (e_ r++[("" : Str)]):=by rw[nu _ _ (zT r)];exact yj (by rw[bf,bf,bf];rfl)
 refine .inr ⟨?_,?_⟩
 ·rw[e];unfold mh;rw[xg,iZ (by simp) fun p hp m=>by
   rcases eW.mp hp with hp|hp
   ·exact Cu h (by decide) p hp m
   ·rw[mw.mp hp] at m;exact absurd m (by decide +kernel)]
  match r,h with
  |.st w d j,h =>obtain⟨n1,n2,n3⟩:=V0 h.1;exact rM (fun z=>absurd z.2 (by simp)) (fun z=>n1 z.1) (fun z=>z.elim n2 n3)
  |.nt j,h=>exact rM (fun z=>absurd z.1 (by decide +kernel)) (fun z=>absurd z.2 (by simp)) (by decide +kernel)
  |.jn w ps,h =>show kM w (ps.map num++[("" : Str)])=none;rw[vQ h.1,List.all_append,show([""]:List Str).all fK=false by decide +kernel,Bool.and_false];rfl
 ·rw[bf];intro m;rcases eW.mp m with m|m
  ·exact mO h m
  ·exact absurd m (by decide +kernel)
theorem Br {r:Rw} (h:gu r):∃ w z,w∈(["some", "all", "not", "and", "or"]:List Str)/\bt r=w++z:=by
 match r,h with
 |.st w d j,h=>exact⟨w,_,by rcases h.1 with rfl|rfl<;>simp,bB " " w (P:=[d,num j]) (by simp)⟩
 |.nt j,h=>exact⟨"not",_,by simp,bB " " "not" (P:=[num j]) (by simp)⟩
 |.jn w ps,h =>
  cases ps with
  |nil=>exact⟨w, "",by rcases h.1 with rfl|rfl<;>simp,yj (by rw[bf];show sg w=sg w++[];simp)⟩
  |cons p ps=>exact⟨w,_,by rcases h.1 with rfl|rfl<;>simp,bB " " w (P:=(p :: ps).map num) (by simp)⟩
theorem zj {r:Rw} (h:gu r):Odd (";" ++ bt r):=by
 obtain⟨w,z,hw,e⟩:=Br h;have all:∀ w∈(["some", "all", "not", "and", "or"]:List Str),0<(sg w).length/\(sg w)[0]?≠some 32:=by decide +kernel
 obtain⟨l0,n0⟩:=all w hw;refine⟨0,?_,?_⟩
 ·rw[bf];rfl
 ·rw[bf,e,bf,show sg (";" : Str)=[59] by decide +kernel];show(sg w++sg z)[0]?≠_;rw[x3 l0];exact n0
theorem DN (t:Str):Odd (t ++ ";"):=by
 have e:sg (t ++ ";")=sg t++[59]:=by rw[bf,show sg (";" : Str)=[59] by decide +kernel]
 refine⟨(sg t).length,?_,?_⟩
 ·rw[e,n4 (cK _),Nat.sub_self];rfl
 ·rw[e,n4 (by lia),show(sg t).length+1-(sg t).length=1 by lia];simp
theorem FW{Q:Md->D->Prop}{c:Int}{o:Option Sl}{t1 t2 t3 t4 t5 t6 t7:Str}(hs:∀ x∈[t1,t2,t3,t4,t5,t6,t7],kE (.str x)=none/\x.length<=1000000)(h:∀ d:D,kE d=none->xI d->Q (rz d) d) :
  cJ { nx:=fun _=>Q .sh .non,rt:=Q } [o,some (.sh (.int c)),some (.ow true (.list [.str t1,.str t2,.str t3,.str t4,.str t5,.str t6,.str t7,.non,.int 7]))]:=by
 have go:∀ x∈[t1,t2,t3,t4,t5,t6,t7],Q (rz (.str x)) (.str x):=fun x hx=>h _ (hs x hx).1 (.of (hs x hx).2);unfold cJ;walk_at "q";have hb:c % 12=0\/c % 12=1\/c % 12=2\/c % 12=3\/c % 12=4\/c % 12=5\/c % 12=6\/c % 12=7\/c % 12=8\/c % 12=9\/c % 12=10\/c % 12=11:=by lia
 generalize c % 12=b at *
 rcases hb with rfl|rfl|rfl|rfl|rfl|rfl|rfl|rfl|rfl|rfl|rfl|rfl
 ·exact⟨_,rfl,go t1 (by simp)⟩
 ·exact⟨_,rfl,go t2 (by simp)⟩
 ·exact⟨_,rfl,go t3 (by simp)⟩
 ·exact⟨_,rfl,go t4 (by simp)⟩
 ·exact⟨_,rfl,go t5 (by simp)⟩
 ·exact⟨_,rfl,go t6 (by simp)⟩
 ·exact⟨_,rfl,go t7 (by simp)⟩
 ·exact⟨_,rfl,h _ rfl fun _ e=>nomatch e⟩
 ·exact⟨_,rfl,h _ rfl fun _ e=>nomatch e⟩
 ·exact⟨_,rfl,h _ rfl fun _ e=>nomatch e⟩
 ·exact⟨_,rfl,h _ (kZ (A:=[]) (B:=[]) (uy (x := "") (by simp)).2 (by simp) (by simp)) (.of (by decide +kernel))⟩
 ·exact⟨_,rfl,h _ rfl fun _ e=>nomatch e⟩
theorem mY:∀ ds Q,bC ds Q->eV { nx:=fun _=>Q .sh .non,rt:=Q } (aO 3 ds):=by
 rintro ds Q ⟨l,c,rfl,ne,hn,hm,h⟩;have tl:=fE (text_len (P:=l.map bt)) hm;have no:∀ q∈l.map bt,59∉sg q:=fun q hq=>by obtain⟨r,hr,rfl⟩:=iL.mp hq;exact mO (hn r hr)
 have ne':l.map bt≠[]:=fun z=>ne (MZ.mp z);have b1:kE (.str (textOf l ++ "; "))=none:=by rw[show textOf l ++ "; " = Str.join "; " (l.map bt++[("" : Str)]) by rw[nu _ _ ne'];exact yj (by rw[bf,bf,bf];rfl)];exact kZ (uy (x := "") (by simp)).2 no (by simp)
 have b2:kE (.str ("; " ++ textOf l))=none:=by rw[show "; " ++ textOf l=Str.join "; " ("" :: l.map bt) by rw[bB _ _ ne'];exact yj (by rw[bf,bf,bf];rfl)];exact kZ (A:=[]) (uy (x := "") (by simp)).2 (by simp) no
 have b7:kE (.str (textOf l ++ ";  and"))=none:=by rw[show textOf l ++ ";  and" = Str.join "; " (l.map bt++[(" and" : Str)]) by rw[nu _ _ ne',show("; " : Str) ++ " and" = ";  and" by decide +kernel];rfl];exact kZ (uy (x := " and") (by simp)).2 no (by simp)
 have b45:kE (.str (";" ++ textOf l))=none/\kE (.str (" " ++ textOf l))=none:=by
  unfold textOf
  cases l with
  |nil=>exact absurd rfl ne
  |cons r l' =>have V4:∀ q∈l'.map bt,59∉sg q:=fun q hq=>no q (by rw[hV];exact dz _ hq);have hr:=hn r (by simp);rw[hV,qg,qg];exact⟨kZ (A:=[]) (.inl (zj hr)) (by simp) V4,kZ (A:=[]) (zV hr) (by simp) V4⟩
 have b3:kE (.str (textOf l ++ ";"))=none:=xO (DN _);have b6:kE (.str (textOf l ++ " "))=none:=by unfold textOf;have hr:=hn (l.getLast ne) (List.getLast_mem ne);rw[<- List.dropLast_concat_getLast ne,n9,GO,uJ];refine kZ (B:=[]) (Bb hr) (fun q hq=>?_) (by simp);obtain⟨r,hr,rfl⟩:=iL.mp hq;exact mO (hn r (List.dropLast_subset _ hr))
 have e2:("; " : Str).length=2:=by decide +kernel
 have e1:(";" : Str).length=1:=by decide +kernel
 have e0:(" " : Str).length=1:=by decide +kernel
 have e6:(";  and" : Str).length=6:=by decide +kernel
 have tl:(textOf l).length<=900000:=tl;obtain⟨b4,b5⟩:=b45;obtain⟨w,e⟩:∃ w,w=cJ:=⟨_,rfl⟩
 unfold eV;rw[<- e];generalize textOf l=t at *
 walk_at "q";refine⟨by lia,by lia,by lia,by lia,by lia,by lia,by lia,?_⟩;rw[e];refine FW (fun x hx=>?_) h;simp only[eK,sf,or_false] at hx;rcases hx with rfl|rfl|rfl|rfl|rfl|rfl|rfl<;>refine⟨by assumption,by rw[eN];lia⟩
def cL:WS :=
 (dr (av dn (av eH (ag 2) (fT (ak (av eH (wC (.str "or ")) (gK (wC (.str " ")) (av yp (fT (ak (wC (.str "0")) aI)) (wC (.int 201))))) aI))) (av fS (ag 1) (wC (.int 5)))))
def eU:WS :=
 (bI (eJ 2 (fT (ak (av eH (wC (.str "not ")) (cv sO (ag 0))) (ak (av eH (wC (.str "some * ")) (cv sO (av eH (ag 0) (wC (.int 1))))) (ak (av eH (wC (.str "and 0 ")) (cv sO (ag 0))) (ak (wC (.str "all a 9999")) aI))))))
 cL)
theorem xJ{xs:List D}{i:Nat}{x:D}(e:xs[i]? = some x)(h:oQ i x=false):iF (.list xs)=false:=by show(decide _ && _)=false;rw[Bool.and_eq_false_iff];exact .inr (List.all_eq_false.mpr ⟨(x,i),List.mem_zipIdx_iff_getElem?.mpr e,by simp[h]⟩)
theorem yD{xs:List D}(h:2000<xs.length):iF (.list xs)=false:=by show(decide _ && _)=false;rw[decide_eq_false (by lia)];rfl
theorem BP {k:Int} {w:Str} {d j:D} (h:w = "some"\/w = "all") (hj:y3 d=false\/kT k j=false):oQ k (.tup [.str w,d,j])=false:=by
 show oq k w [d,j]=false;rw[CV h];rcases hj with z|z
 ·show(y3 d && _)=false;rw[z];rfl
 ·show(_ && kT k j)=false;rw[z,Bool.and_false]
theorem V5 {k:Int} {j:D} (hj:kT k j=false):oQ k (.tup [.str "not",j])=false:=by show oq k "not" [j]=false;rw[Eo];exact hj
theorem Bj {k:Int} {w:Str} {p:D} (h:w = "and"\/w = "or") (hj:FC k p=false):oQ k (.tup [.str w,p])=false:=by show oq k w [p]=false;rw[Dd h];exact hj
theorem oX{k j:Int}(h:¬ (0<=j/\j<k)):kT k (.int j)=false:=decide_eq_false h
theorem CQ{k:Int}{xs:List D}{d:D}(h:d∈xs)(hd:kT k d=false):FC k (.tup xs)=false:=by show(decide (xs.length<=200) && xs.all (kT k))=false;rw[Bool.and_eq_false_iff];exact .inr (List.all_eq_false.mpr ⟨d,h,by simp[hd]⟩)
theorem V6 (j:Int):("not " : Str)++num j=bt (.nt j):=by rw[show("not " : Str) = "not" ++ " " by decide +kernel];rfl
theorem Ie (j:Int):("some * " : Str)++num j=bt (.st "some" "*" j):=by rw[show("some * " : Str) = "some" ++ " " ++ ("*" ++ " ") by decide +kernel,gJ];rfl
theorem dd' (j:Int):("and 0 " : Str)++num j=bt (.jn "and" [0,j]):=by rw[show("and 0 " : Str) = "and" ++ " " ++ (num 0 ++ " ") by decide +kernel,gJ];rfl
theorem de':("all a 9999" : Str)=bt (.st "all" "a" 9999):=by decide +kernel
theorem Hj:("or " : Str)++Str.join " " (List.replicate 201 "0")=bt (.jn "or" (List.replicate 201 0)):=by rw[show("or " : Str) = "or" ++ " " by decide +kernel];show _=Str.join " " ("or" :: (List.replicate 201 (0:Int)).map num);rw[Nc,show num 0=("0" : Str) by decide +kernel];rfl
def rV(k:Int)(r:Rw):Prop:=gu r/\oQ k (bq r)=false
theorem By {k:Int} (k0:0<=k) (k1:k<=2000):rV k (.nt k)/\rV k (.st "some" "*" (k+1))/\rV k (.jn "and" [0,k])/\rV k (.st "all" "a" 9999)/\rV k (.jn "or" (List.replicate 201 0)):=by
 refine⟨⟨⟨k0,by lia⟩,V5 (oX (by lia))⟩,⟨⟨.inl rfl,.inl rfl,by lia,by lia⟩,BP (.inl rfl) (.inr (oX (by lia)))⟩,⟨⟨.inl rfl,by simp,fun p hp=>?_⟩,Bj (.inl rfl) (CQ (d:=.int k) (by simp) (oX (by lia)))⟩,⟨⟨.inr rfl,.inr ⟨by decide +kernel,by decide +kernel,?_⟩,by decide,by decide⟩,BP (.inr rfl) (.inr (oX (by lia)))⟩,⟨.inr rfl,by simp,fun p hp=>?_⟩,Bj (.inr rfl) ?_⟩
 ·simp only[eK,sf,or_false] at hp;lia
 ·intro c hc;rw[show sg ("a" : Str)=[97] by decide +kernel] at hc;rw[mw.mp hc];decide
 ·rw[GA hp];decide
 ·show(decide (((List.replicate 201 (0:Int)).map D.int).length<=200) && ((List.replicate 201 (0:Int)).map D.int).all (kT k))=false;rw[da,x4];rfl
def bz:dS:=fun ds Q=>∃ k c:Int,ds=[.int k,.int c]/\0<=k/\k<=2000/\∀ r:Rw,rV k r->Q .sh (.str (bt r))
theorem jY (ds Q) (h:bz ds Q):ds.length=["_law_at", "_law_cell"].length:=by obtain⟨_,_,rfl,_⟩:=h;rfl
theorem Gx {Q:Md->D->Prop} {k c:Int} {r1 r2 r3 r4:Rw} (h:∀ r:Rw,rV k r->Q .sh (.str (bt r))) (a1:rV k r1) (a2:rV k r2) (a3:rV k r3) (a4:rV k r4) (a5:rV k (.jn "or" (List.replicate 201 0))) :
  cL { nx:=fun _=>Q .sh .non,rt:=Q } [some (.sh (.int k)),some (.sh (.int c)),some (.ow true (.list [.str (bt r1),.str (bt r2),.str (bt r3),.str (bt r4)]))]:=by
 obtain⟨n,hn⟩:∃ n:Int,n=201:=⟨_,rfl⟩
 unfold cL;rw[<- hn];walk_at "q";have hz:(List.replicate n.toNat [D.str "0"]).flatten=(List.replicate 201 ("0" : Str)).map D.str:=by rw[hn];rfl
 rw[hz];refine⟨⟨by lia,by lia⟩,List.replicate 201 "0",eG _,by decide +kernel,?_⟩;rw[Hj];have rl:=nU a5.1;refine⟨by rw[<- Hj,eN] at rl;lia,.inl ?_⟩;have:c % 5=0\/c % 5=1\/c % 5=2\/c % 5=3\/c % 5=4:=by lia
 generalize c % 5=b at *
 rcases this with rfl|rfl|rfl|rfl|rfl
 ·exact⟨_,rfl,h _ a1⟩
 ·exact⟨_,rfl,h _ a2⟩
 ·exact⟨_,rfl,h _ a3⟩
 ·exact⟨_,rfl,h _ a4⟩
 ·exact⟨_,rfl,h _ a5⟩
theorem m7:∀ ds Q,bz ds Q->eU { nx:=fun _=>Q .sh .non,rt:=Q } (aO 3 ds):=by
 rintro ds Q ⟨k,c,rfl,k0,k1,h⟩;obtain⟨a1,a2,a3,a4,a5⟩:=By k0 k1;have l1:(toString k:Str).length<=4:=str_len k0 (by decide) (by lia);have l2:(toString (k+1):Str).length<=4:=str_len (by lia) (by decide) (by lia);have b1:("not " : Str).length=4:=by decide +kernel
 have b2:("some * " : Str).length=7:=by decide +kernel
 have b3:("and 0 " : Str).length=6:=by decide +kernel
 have g1:=pI k0 (by lia);have g2:=pI (n:=k+1) (by lia) (by lia);obtain⟨w,e⟩:∃ w,w=cL:=⟨_,rfl⟩
 unfold eU;rw[<- e];walk_at "q";refine⟨g1,by lia,g2,by lia,g1,by lia,?_⟩;rw[show("not " : Str)++(toString k:Str)=bt (.nt k) from V6 k,show("some * " : Str)++(toString (k+1):Str)=bt (.st "some" "*" (k+1)) from Ie (k+1),show("and 0 " : Str)++(toString k:Str)=bt (.jn "and" [0,k]) from dd' k,de',e];exact Gx h a1 a2 a3 a4 a5
def eE:WS :=
 (bI (eA (wB (av eL (av fS (ag 2) (wC (.int 3))) (wC (.int 0))))
 (xK 4 (av fS (av nI (ag 2) (wC (.int 3))) (wC (.int 7))))
 bH)
 (tf 3 (dr (av eH (B6 (av eH (B6 (kS (ag 0) cI (fW (ag 1)))) (B6 (fT (ak (av dn (ag 3) (av fS (av nI (ag 2) (wC (.int 3))) (wC (.int 8)))) aI))))) (B6 (kS (ag 0) (fW (av eH (ag 1) (wC (.int 1)))) cI))))))
def d_:WS :=
 (bI (eJ 4 (fT (ak (wC .non) (ak (fT aI) (ak (cv oE (ag 0)) (ak (av yp (fT (ak (ip (ak (wC (.str "or")) (ak (ip aI) aI))) aI)) (wC (.int 2001))) (ak (wC (.str "and")) (ak (wC (.int 7)) (ak zP aI)))))))))
 eE)
def iD:WS :=
 (bI (tf 1 (eJ 3 (fT (ak (ip (ak (wC (.str "not")) (ak (ag 1) aI))) (ak (ip (ak (wC (.str "xor")) (ak (ip aI) aI))) (ak (ip (ak (wC (.str "and")) (ak (ip (ak (cv EW (wC (.int 1))) aI)) aI))) (ak (ip (ak (wC (.str "some")) (ak (wC (.str "a")) (ak (cv EW (wC (.int 1))) aI)))) (ak (ip (ak (wC (.str "or")) (ak (fT (ak (wC (.int 0)) aI)) aI))) (ak (ip (ak (wC (.str "not")) aI)) (ak (ip (ak (wC (.str "some")) (ak (wC (.str "A")) (ak (wC (.int 0)) aI)))) (ak (wC .non) aI)))))))))))
 d_)
def cW:dS:=fun ds Q=>∃ (l:List Rw) (a c:Int),ds=[.list (l.map bq),.int a,.int c]/\0<=a/\a<l.length/\l.length<=2000/\∀ (m:Md) (d:D),iF d=false->Q m d
theorem qb (ds Q) (h:cW ds Q):ds.length=["_law_scroll_here", "_law_at", "_law_cell"].length:=by obtain⟨_,_,_,rfl,_⟩:=h;rfl
theorem Aq {k:Int} {w:Str} {r:List D} (h:¬ (w = "some"\/w = "all")/\¬ w = "not"/\¬ (w = "and"\/w = "or")):oQ k (.tup (.str w :: r))=false:=by show oq k w r=false;unfold oq;rw[if_neg h.1,if_neg h.2.1,if_neg h.2.2]
theorem DW {Q:Md->D->Prop} {l:List Rw} {a c:Int} {zs:List D} {rows:List D} (a0:0<=a) (a1:a<l.length) (l2:l.length<=2000) (h:∀ (m:Md) (d:D),iF d=false->Q m d) (hz:iF (.list zs)=false) (hr:rows=[.tup [.str "not",.int a],.tup [.str "xor",.tup []],.tup [.str "and",.tup [.int (-1)]],.tup [.str "some",.str "a",.int (-1)],.tup [.str "or",.list [.int 0]],.tup [.str "not"],.tup [.str "some",.str "A",.int 0],.non]) :
  eE { nx:=fun _=>Q .sh .non,rt:=Q } [some (.sh (.list (l.map bq))),some (.sh (.int a)),some (.sh (.int c)),some (.ow true (.list rows)),some (.ow true (.list [.non,.list [],.tup (l.map bq),.list zs,.str "and",.int 7,.dK []]))]:=by
 unfold eE;walk_at "q";refine R.D (fun e=>?_) fun e=>?_
 ·walk_at "q";have hb:c / 3 % 7=0\/c / 3 % 7=1\/c / 3 % 7=2\/c / 3 % 7=3\/c / 3 % 7=4\/c / 3 % 7=5\/c / 3 % 7=6:=by lia
  generalize c / 3 % 7=b at *
  rcases hb with rfl|rfl|rfl|rfl|rfl|rfl|rfl
  ·exact⟨_,rfl,h _ _ rfl⟩
  ·exact⟨_,rfl,h _ _ rfl⟩
  ·exact⟨_,rfl,h _ _ rfl⟩
  ·exact⟨_,rfl,h _ _ hz⟩
  ·exact⟨_,rfl,h _ _ rfl⟩
  ·exact⟨_,rfl,h _ _ rfl⟩
  ·exact⟨_,rfl,h _ _ rfl⟩
 ·obtain⟨d,e1,hd,hs⟩:∃ d,eB rows (c / 3 % 8)=some d/\oQ a d=false/\(d=.non\/∃ xs,d=.tup xs):=by
   have hb:c / 3 % 8=0\/c / 3 % 8=1\/c / 3 % 8=2\/c / 3 % 8=3\/c / 3 % 8=4\/c / 3 % 8=5\/c / 3 % 8=6\/c / 3 % 8=7:=by lia
   generalize c / 3 % 8=b at *
   rw[hr];rcases hb with rfl|rfl|rfl|rfl|rfl|rfl|rfl|rfl
   ·exact⟨_,rfl,V5 (oX (by lia)),.inr ⟨_,rfl⟩⟩
   ·exact⟨_,rfl,Aq (by decide +kernel),.inr ⟨_,rfl⟩⟩
   ·exact⟨_,rfl,Bj (.inl rfl) (CQ (d:=.int (-1)) (by simp) (oX (by lia))),.inr ⟨_,rfl⟩⟩
   ·exact⟨_,rfl,BP (.inl rfl) (.inr (oX (by lia))),.inr ⟨_,rfl⟩⟩
   ·exact⟨_,rfl,Bj (.inr rfl) rfl,.inr ⟨_,rfl⟩⟩
   ·exact⟨_,rfl,by show oq a "not" []=false;rw[Eo],.inr ⟨_,rfl⟩⟩
   ·exact⟨_,rfl,BP (.inl rfl) (.inl (by decide +kernel)),.inr ⟨_,rfl⟩⟩
   ·exact⟨_,rfl,rfl,.inl rfl⟩
  walk_at "q";refine .inr ⟨d,e1,?_⟩;clear hr e1;have ml:((l.map bq).length:Int)=l.length:=by rw[da]
  obtain⟨p1,p2⟩:=wg (l.map bq) a0;rw[da] at p1 p2;have hq:∀ d,oQ a d=false->∀ m,Q m (.list (fi (l.map bq) none (some a)++[d]++fi (l.map bq) (some (a+1)) none)):=fun d hd m=>by rw[yF a0 (by lia)];exact h _ _ (xJ (i:=a.toNat) (x:=d) (by rw[GH (by lia)]) (by rw[x8 a0];exact hd))
  rcases hs with rfl|⟨xs,rfl⟩
  ·walk_at "q";exact⟨by lia,.inr (.inr ⟨by rw[kg,zk];lia,.inr (hq _ hd _)⟩)⟩
  ·walk_at "q";exact⟨by lia,.inr (.inr ⟨by rw[kg,zk];lia,.inr (hq _ hd _)⟩)⟩
theorem Et {Q:Md->D->Prop} {l:List Rw} {a c:Int} {rows:List D} (a0:0<=a) (a1:a<l.length) (l2:l.length<=2000) (h:∀ (m:Md) (d:D),iF d=false->Q m d) (hr:rows=[.tup [.str "not",.int a],.tup [.str "xor",.tup []],.tup [.str "and",.tup [.int (-1)]],.tup [.str "some",.str "a",.int (-1)],.tup [.str "or",.list [.int 0]],.tup [.str "not"],.tup [.str "some",.str "A",.int 0],.non]) :
  d_ { nx:=fun _=>Q .sh .non,rt:=Q } [some (.sh (.list (l.map bq))),some (.sh (.int a)),some (.sh (.int c)),some (.ow true (.list rows)),none]:=by
 obtain⟨n,hn⟩:∃ n:Int,n=2001:=⟨_,rfl⟩
 obtain⟨w,e⟩:∃ w,w=eE:=⟨_,rfl⟩
 unfold d_;rw[<- hn,<- e];walk_at "q";have hz:iF (.list (List.replicate n.toNat [D.tup [.str "or",.tup []]]).flatten)=false:=yD (by rw[qX,hn];decide);rw[g_ l,e];exact⟨rfl,⟨by lia,by lia⟩,DW a0 a1 l2 h hz hr⟩
theorem tE:∀ ds Q,cW ds Q->iD { nx:=fun _=>Q .sh .non,rt:=Q } (aO 5 ds):=by
 rintro ds Q ⟨l,a,c,rfl,a0,a1,l2,h⟩;obtain⟨w,e⟩:∃ w,w=d_:=⟨_,rfl⟩
 unfold iD;rw[<- e];walk_at "q";rw[e];exact Et a0 a1 l2 h rfl
def jR:WS :=
 (dr (EV (bD fC (ak (ag 0) aI)) (iK (cv (kB "str") (ag 0)) (av eL (ag 0) (wC (.str "*"))))))
def cU:dS:=fun ds Q=>∃ d:D,ds=[d]/\Q .sh (.bl (y3 d))
theorem vL (ds Q) (h:cU ds Q):ds.length=["thing"].length:=by obtain⟨_,rfl,_⟩:=h;rfl
theorem yQ:∀ ds Q,cU ds Q->jR { nx:=fun _=>Q .sh .non,rt:=Q } (aO 1 ds):=by
 rintro ds Q ⟨d,rfl,h⟩
 cases d with
 |str x =>
  have h:Q .sh (.bl (gG x)):=h;unfold jR;walk_at "q";refine⟨_,rfl,?_⟩;unfold gG at h;unfold Qm;walk_at "q";refine R.B (fun e=>?_) fun e=>?_
  ·walk_at "q";rw[e] at h;exact h
  ·walk_at "q";refine R.T rfl ?_;walk_at "q";rw[e] at h;exact h
 |_ =>unfold jR;walk_at "q";refine⟨_,rfl,?_⟩;unfold Qm;walk_at "q";refine R.F rfl ?_;walk_at "q";exact h
def lK:WS :=
 (dr (iK (bD dW (ak (ag 1) aI)) (iJ pV yB (wC (.int 0)) (ag 1) (ag 0))))
def cj:dS:=fun ds Q=>∃ (k:Int) (d:D),ds=[.int k,d]/\Q .sh (.bl (kT k d))
theorem tU (ds Q) (h:cj ds Q):ds.length=["k", "thing"].length:=by obtain⟨_,_,rfl,_⟩:=h;rfl
theorem xR:∀ ds Q,cj ds Q->lK { nx:=fun _=>Q .sh .non,rt:=Q } (aO 2 ds):=by
 rintro ds Q ⟨k,d,rfl,h⟩;unfold lK
 cases d with
 |int j =>
  have h:Q .sh (.bl (decide (0<=j/\j<k))):=h;walk_at "q";refine⟨_,rfl,?_⟩;walk_at "q";refine R.D (fun h1=>?_) fun h1=>?_
  ·walk_at "q";rwa[show decide (0<=j/\j<k)=decide (j<k) by simp[h1]] at h
  ·walk_at "q";rwa[decide_eq_false (by lia)] at h
 |_ =>walk_at "q";refine⟨_,rfl,?_⟩;walk_at "q";refine R.F rfl ?_;walk_at "q";exact h
def ie:WS :=
 (bI (eA (ic (wB (bD cR (ak (ag 0) aI))))
 (lX "NoText" (wC (.str "a number is not of the form")))
 bH)
 (dr (cv Dv (ag 0))))
def aJ:dS:=fun ds Q=>∃ x:Str,ds=[.str x]/\(fK x=true->Q .sh (.int (valN x)))/\(fK x=false->Q (.ow false) (.str "NoText"))
theorem ou (ds Q) (h:aJ ds Q):ds.length=["word"].length:=by obtain⟨_,rfl,_⟩:=h;rfl
theorem sY:∀ ds Q,aJ ds Q->ie { nx:=fun _=>Q .sh .non,rt:=Q } (aO 1 ds):=by
 rintro ds Q ⟨x,rfl,h1,h2⟩;unfold ie;walk_at "q";refine⟨_,rfl,?_⟩
 cases e:fK x with
 |true =>walk_at "q";have:=FN e;exact⟨by lia,_,(Fq e).1,h1 e⟩
 |false =>walk_at "q";exact h2 e
def jC:WS :=
 (bI (eJ 1 (fT (ak (av dn (ag 0) (wC (.int 0))) aI)))
 (bI (eA (ja (wB (av eL (av dn (ag 0) (wC (.int 0))) (wC (.str "some")))) (wB (av eL (av dn (ag 0) (wC (.int 0))) (wC (.str "all")))))
 (rp (qk 1) (av dn (ag 0) (wC (.int 1))))
 bH)
 (dr (gK (wC (.str " ")) (av eH (ag 1) (iz (jW (bD iW (ak (ag 0) aI))) (gN 0) ka (cv sO (ag 0)) 1 []))))))
def bh:dS:=fun ds Q=>∃ r:Rw,ds=[bq r]/\gu r/\Q .sh (.str (bt r))
theorem qU (ds Q) (h:bh ds Q):ds.length=["row"].length:=by obtain⟨_,rfl,_⟩:=h;rfl
theorem Hc:∀ {r:Rw},gu r->(FD r).length<=201/\∀ p∈FD r,0<=p/\p<10000
 |.st w d j,⟨_,_,a,b⟩=>⟨by simp[FD],fun p hp=>by rw[mw.mp hp];exact⟨a,b⟩⟩
 |.nt j,⟨a,b⟩=>⟨by simp[FD],fun p hp=>by rw[mw.mp hp];exact⟨a,b⟩⟩
 |.jn w ps,⟨_,a,b⟩=>⟨a,b⟩
theorem uY:∀ ds Q,bh ds Q->jC { nx:=fun _=>Q .sh .non,rt:=Q } (aO 2 ds):=by
 rintro ds Q ⟨r,rfl,hr,h⟩;obtain⟨dl,dp⟩:=Hc hr;have J:=qj hr (Q:=fun z=>Q .sh (.str z)) h;unfold jC
 match r,hr,dl,dp,J with
 |.st w d j,hr,dl,dp,J =>
  have hw:=hr.1;rw[show bq (.st w d j)=.tup [.str w,.str d,.int j] from rfl];walk_at "q";refine R.D (fun e=>?_) fun e=>?_
  ·walk_at "q";refine⟨.st w d j,rfl,hr,?_⟩;refine iI dp ?_;walk_at "q";exact⟨by lia,.inl ⟨aN _,J⟩⟩
  ·walk_at "q";refine R.T (decide_eq_true (hw.resolve_left e)) ?_;walk_at "q";refine⟨.st w d j,rfl,hr,?_⟩;refine iI dp ?_;walk_at "q";exact⟨by lia,.inl ⟨aN _,J⟩⟩
 |.nt j,hr,dl,dp,J =>rw[show bq (.nt j)=.tup [.str "not",.int j] from rfl];walk_at "q";refine R.F (decide_eq_false MA.1) ?_;walk_at "q";refine R.F (decide_eq_false MA.2) ?_;walk_at "q";refine⟨.nt j,rfl,hr,?_⟩;refine iI dp ?_;walk_at "q";exact⟨by lia,.inl ⟨aN _,J⟩⟩
 |.jn w ps,hr,dl,dp,J =>have hw:=hr.1;rw[show bq (.jn w ps)=.tup [.str w,.tup (ps.map .int)] from rfl];walk_at "q";refine R.F (decide_eq_false (A2 hw).1) ?_;walk_at "q";refine R.F (decide_eq_false (A2 hw).2.1) ?_;walk_at "q";refine⟨.jn w ps,rfl,hr,?_⟩;refine iI dp ?_;walk_at "q";exact⟨by lia,.inl ⟨aN _,J⟩⟩
def h_:WS :=
 (dr (iz (jm (cv gp (ag 0))) (gN 0) ka (bD dY (ak (av dn (ag 1) (ag 0)) (ak (ag 0) (ak (ag 2) aI)))) 1 [0,1]))
def cD:dS:=fun ds Q=>∃ (cs:List Int) (names:List Str),ds=[.list (cs.map .int),.list (names.map .str)]/\cs.length<=1000/\1<=names.length/\names.length<=100/\(∀ n∈names,rL n)/\∀ l:List Rw,l.length=cs.length->kf l->Q (.ow true) (.list (l.map bq))
theorem nR (ds Q) (h:cD ds Q):ds.length=["_law_cells", "_law_names"].length:=by obtain⟨_,_,rfl,_⟩:=h;rfl
theorem sS:∀ ds Q,cD ds Q->h_ { nx:=fun _=>Q .sh .non,rt:=Q } (aO 2 ds):=by
 rintro ds Q ⟨cs,names,rfl,hc,n1,n2,hd,h⟩;unfold h_;walk_at "q";refine⟨by lia,by lia,?_⟩;refine k_ (fun i out=>∃ l:List Rw,out=l.map bq/\l.length=i/\kf l) (fun ρ=>∃ o,ρ=[o,some (.sh (.list (cs.map .int))),some (.sh (.list (names.map .str)))]) _ 0 [] _ _ ⟨_,rfl⟩ ⟨[],rfl,rfl,kf.nil⟩ ?_ ?_
 ·rintro i x hx ρ ⟨o,rfl⟩ out ⟨l,rfl,hl,hs⟩ N1 N2 h2;obtain⟨hi,rfl⟩:=iR hx;have hi:i<cs.length:=by simpa using hi
  walk_at "q";refine⟨.int cs[i],?_,?_⟩
  ·have:=wt (xs:=cs.map D.int) (j:=i) (v:=.int cs[i]) (by simp[hi]);rwa[show((i:Nat):Int)=0+(i:Int) by lia] at this
  walk_at "q";refine⟨_,_,_,rfl,by lia,by lia,n1,n2,hd,fun r hr=>?_⟩;walk_at "q";refine⟨.inl (vJ r),h2 _ _ ⟨_,rfl⟩ ⟨l++[r],by simp,by simp[hl],hs.app ?_⟩⟩;rw[hl];simpa using hr
 ·rintro out ⟨l,e,hl,hs⟩;rw[GU] at e;subst e;rw[jg] at hl;exact h l (by simpa using hl) hs
def ig:WS :=
 (bI (eA (ja (ic (wB (cv (kB "tuple") (ag 0)))) (ja (wB (av yB (cv gp (ag 0)) (wC (.int 2)))) (ic (wB (cv (kB "str") (av dn (ag 0) (wC (.int 0))))))))
 (dr (wC (.bl false)))
 bH)
 (bI (eA (wB (av (uj false) (av dn (ag 0) (wC (.int 0))) (ip (ak (wC (.str "and")) (ak (wC (.str "or")) aI)))))
 (dr (iK (av eL (cv gp (ag 0)) (wC (.int 2))) (iK (cv (kB "tuple") (av dn (ag 0) (wC (.int 1)))) (bD aZ (ak (av dn (ag 0) (wC (.int 1))) (ak (ag 1) aI))))))
 bH)
 (bI (eA (wB (av eL (av dn (ag 0) (wC (.int 0))) (wC (.str "not"))))
 (dr (iK (av eL (cv gp (ag 0)) (wC (.int 2))) (bD aZ (ak (kS (ag 0) (fW (wC (.int 1))) cI) (ak (ag 1) aI)))))
 bH)
 (dr (iK (av (uj false) (av dn (ag 0) (wC (.int 0))) (ip (ak (wC (.str "some")) (ak (wC (.str "all")) aI)))) (iK (av eL (cv gp (ag 0)) (wC (.int 3))) (iK (cv (kB "str") (av dn (ag 0) (wC (.int 1)))) (bD aZ (ak (kS (ag 0) (fW (wC (.int 2))) cI) (ak (ag 1) aI))))))))))
def cG:dS:=fun ds Q=>∃ (r:Rw) (k:Int),ds=[bq r,.int k]/\rS k r/\Q .sh (.bl true)
theorem pC (ds Q) (h:cG ds Q):ds.length=["_law_row_here", "_law_k"].length:=by obtain⟨_,_,rfl,_⟩:=h;rfl
theorem wz{w a b:Str}:inD (.str w) [.str a,.str b]=(decide (w=a) || decide (w=b)):=by
 unfold inD;rw[vw,vw,List.any_nil,Bool.or_false];have:∀ x:Str,jS (.str x) (.str w)=decide (w=x):=fun x=>by rw[vx,vf _ _ rfl rfl,decide_eq_true_iff];exact⟨fun z=>by cases z;rfl,fun z=>by rw[z]⟩
 rw[this,this]
theorem sy:∀ ds Q,cG ds Q->ig { nx:=fun _=>Q .sh .non,rt:=Q } (aO 2 ds):=by
 rintro ds Q ⟨r,k,rfl,hr,h⟩;unfold ig
 match r,hr with
 |.st w d j,⟨hw,hd,j0,j1⟩ =>obtain⟨n1,n2,n3⟩:=V0 hw;rw[show bq (.st w d j)=.tup [.str w,.str d,.int j] from rfl];walk_at "q";refine R.F rfl ?_;walk_at "q";refine R.F rfl ?_;walk_at "q";refine R.F rfl ?_;walk_at "q";rw[wz,decide_eq_false n2,decide_eq_false n3];refine⟨rfl,rfl,R.F rfl ?_⟩;walk_at "q";refine R.F (decide_eq_false n1) ?_;walk_at "q";rw[wz,show(decide (w = "some") || decide (w = "all"))=true by rcases hw with rfl|rfl<;>simp];refine⟨rfl,rfl,?_⟩;walk_at "q";refine R.T rfl ?_;walk_at "q";refine R.T rfl ?_;walk_at "q";refine⟨by decide,[j],k,rfl,fun p hp=>by rw[mw.mp hp];exact⟨j0,j1⟩,?_⟩;walk_at "q";exact h
 |.nt j,⟨j0,j1⟩ =>rw[show bq (.nt j)=.tup [.str "not",.int j] from rfl];walk_at "q";refine R.F rfl ?_;walk_at "q";refine R.F rfl ?_;walk_at "q";refine R.F rfl ?_;walk_at "q";rw[wz,show(decide (("not" : Str) = "and") || decide (("not" : Str) = "or"))=false by decide +kernel];refine⟨rfl,rfl,R.F rfl ?_⟩;walk_at "q";refine R.T rfl ?_;walk_at "q";refine⟨by decide,[j],k,rfl,fun p hp=>by rw[mw.mp hp];exact⟨j0,j1⟩,?_⟩;walk_at "q";exact h
 |.jn w ps,⟨hw,hl,hp⟩ =>rw[show bq (.jn w ps)=.tup [.str w,.tup (ps.map .int)] from rfl];walk_at "q";refine R.F rfl ?_;walk_at "q";refine R.F rfl ?_;walk_at "q";refine R.F rfl ?_;walk_at "q";rw[wz,show(decide (w = "and") || decide (w = "or"))=true by rcases hw with rfl|rfl<;>simp];refine⟨rfl,rfl,R.T rfl ?_⟩;walk_at "q";refine R.T rfl ?_;walk_at "q";refine R.T rfl ?_;walk_at "q";refine⟨ps,k,rfl,hp,?_⟩;walk_at "q";exact h
def jA:WS :=
 (bI (eA (ja (ic (wB (cv (kB "tuple") (ag 1)))) (wB (av PH (cv gp (ag 1)) (wC (.int 200)))))
 (dr (wC (.bl false)))
 bH)
 (dr (cv B3 (iz (zf (ag 1)) (gN 0) ka (bD cj (ak (ag 1) (ak (ag 0) aI))) 1 [0]))))
def dM:dS:=fun ds Q=>∃ (k:Int) (d:D),ds=[.int k,d]/\Q .sh (.bl (FC k d))
theorem qL (ds Q) (h:dM ds Q):ds.length=["k", "thing"].length:=by obtain⟨_,_,rfl,_⟩:=h;rfl
theorem vY:∀ ds Q,dM ds Q->jA { nx:=fun _=>Q .sh .non,rt:=Q } (aO 2 ds):=by
 rintro ds Q ⟨k,d,rfl,h⟩;unfold jA
 cases d with
 |tup xs =>
  have h:Q .sh (.bl (decide (xs.length<=200) && xs.all (kT k))):=h;walk_at "q";refine R.F rfl ?_;walk_at "q";refine R.D (fun h1=>?_) fun h1=>?_
  ·walk_at "q";rw[decide_eq_false (by lia)] at h;exact h
  rw[decide_eq_true (by lia)] at h;walk_at "q";refine eZ (fun _=>true) (fun d=>.bl (kT k d)) (fun ρ=>∃ o,ρ=[o,some (.sh (.int k))]) _ _ _ ⟨_,rfl⟩ ?_ ?_
  ·rintro y hy ρ ⟨o,rfl⟩ N1 N2 _ h2;walk_at "q";exact⟨_,_,rfl,.inl rfl,h2 _ ⟨_,rfl⟩ rfl⟩
  ·rw[jM];refine⟨xs.map (kT k),by rw[mB];rfl,?_⟩;rw[x5];exact h
 |_ =>walk_at "q";refine R.T rfl ?_;walk_at "q";exact h
def jD:WS :=
 (bI (eA (ic (wB (bD cU (ak (ag 0) aI))))
 (lX "NoText" (wC (.str "a word that is no deed stands where a deed ought to stand")))
 bH)
 (x_ 0))
def bY:dS:=fun ds Q=>∃ x:Str,ds=[.str x]/\(gG x=true->Q .sh (.str x))/\(gG x=false->Q (.ow false) (.str "NoText"))
theorem sV (ds Q) (h:bY ds Q):ds.length=["word"].length:=by obtain⟨_,rfl,_⟩:=h;rfl
theorem vO:∀ ds Q,bY ds Q->jD { nx:=fun _=>Q .sh .non,rt:=Q } (aO 1 ds):=by
 rintro ds Q ⟨x,rfl,h1,h2⟩;unfold jD;walk_at "q";refine⟨_,rfl,?_⟩;rw[show y3 (.str x)=gG x from rfl]
 cases e:gG x with
 |true =>walk_at "q";exact h1 e
 |false =>walk_at "q";exact h2 e
def eO:WS :=
 (bI (eA (ja (ic (wB (cv (kB "list") (ag 0)))) (ic (wB (iJ pV pV (wC (.int 1)) (cv gp (ag 0)) (ag 1)))))
 (dr (wC (.bl false)))
 bH)
 (bI (xA (jm (cv gp (ag 0))) (gN 2)
 (eA (ic (wB (bD cG (ak (av dn (ag 0) (ag 2)) (ak (ag 2) aI)))))
 (dr (wC (.bl false)))
 bH))
 (dr (wC (.bl true)))))
def bA:dS:=fun ds Q=>∃ (l:List Rw) (k:Int),ds=[.list (l.map bq),.int k]/\kf l/\1<=l.length/\(l.length:Int)<=k/\l.length<=2000/\Q .sh (.bl true)
theorem lq (ds Q) (h:bA ds Q):ds.length=["_law_found", "_law_most"].length:=by obtain⟨_,_,rfl,_⟩:=h;rfl
theorem rw_at{l:List Rw}{i:Int}(h0:0<=i)(h1:i<l.length):∃ r,l[i.toNat]? = some r/\eB (l.map bq) i=some (bq r):=by
 have hn:i.toNat<l.length:=by lia
 refine⟨l[i.toNat],by simp[hn],?_⟩;have:=wt (xs:=l.map bq) (j:=i.toNat) (v:=bq l[i.toNat]) (by simp[hn]);rwa[x8 h0] at this
theorem rw_tup(r:Rw):∃ xs,bq r=.tup xs/\ck xs=true:=by
 cases r with
 |st w d j=>exact⟨_,rfl,rfl⟩
 |nt j=>exact⟨_,rfl,rfl⟩
 |jn w ps=>exact⟨_,rfl,by simp[ck,D.flat,di]⟩
theorem mX:∀ ds Q,bA ds Q->eO { nx:=fun _=>Q .sh .non,rt:=Q } (aO 3 ds):=by
 rintro ds Q ⟨l,k,rfl,sc,l1,lk,l2,h⟩;unfold eO;walk_at "q";refine R.F rfl ?_;walk_at "q";refine R.T (decide_eq_true (by lia)) ?_;walk_at "q";refine R.F (by rw[decide_eq_true lk];rfl) ?_;walk_at "q";refine⟨by lia,by lia,?_⟩;refine g8 _ (fun i ρ=>∃ o,ρ=[some (.sh (.list (l.map bq))),some (.sh (.int k)),o]) ⟨_,rfl⟩ ?_ ?_
 ·rintro i x ρ hx ⟨o,rfl⟩ N hN;obtain⟨hi,rfl⟩:=iR hx;have hi:i<l.length:=by simpa using hi
  obtain⟨r,e1,e2⟩:=rw_at (l:=l) (i:=0+(i:Int)) (by lia) (by lia);have ro:=sc i r (by rw[show(0+(i:Int)).toNat=i by lia] at e1;exact e1);obtain⟨xs,ex,_⟩:=rw_tup r;walk_at "q";refine⟨_,e2,?_⟩;rw[ex];walk_at "q";refine⟨r,0+(i:Int),by rw[ex],by rw[Int.zero_add];exact ro,?_⟩;walk_at "q";exact hN _ ⟨_,rfl⟩
 ·rintro ρ ⟨o,rfl⟩;walk_at "q";exact h
def qK:WS :=
 (bI (eA (ja (ic (wB (cv (kB "tuple") (ag 1)))) (ja (wB (av eL (cv gp (ag 1)) (wC (.int 0)))) (ic (wB (cv (kB "str") (av dn (ag 1) (wC (.int 0))))))))
 (dr (wC (.bl false)))
 bH)
 (bI (eA (ja (wB (av eL (av dn (ag 1) (wC (.int 0))) (wC (.str "some")))) (wB (av eL (av dn (ag 1) (wC (.int 0))) (wC (.str "all")))))
 (dr (iK (av eL (cv gp (ag 1)) (wC (.int 3))) (iK (bD cU (ak (av dn (ag 1) (wC (.int 1))) aI)) (bD cj (ak (ag 0) (ak (av dn (ag 1) (wC (.int 2))) aI))))))
 bH)
 (bI (eA (wB (av eL (av dn (ag 1) (wC (.int 0))) (wC (.str "not"))))
 (dr (iK (av eL (cv gp (ag 1)) (wC (.int 2))) (bD cj (ak (ag 0) (ak (av dn (ag 1) (wC (.int 1))) aI)))))
 bH)
 (bI (eA (ja (wB (av eL (av dn (ag 1) (wC (.int 0))) (wC (.str "and")))) (wB (av eL (av dn (ag 1) (wC (.int 0))) (wC (.str "or")))))
 (dr (iK (av eL (cv gp (ag 1)) (wC (.int 2))) (bD dM (ak (ag 0) (ak (av dn (ag 1) (wC (.int 1))) aI)))))
 bH)
 (dr (wC (.bl false)))))))
def gH:dS:=fun ds Q=>∃ (k:Int) (d:D),ds=[.int k,d]/\Q .sh (.bl (oQ k d))
theorem ye (ds Q) (h:gH ds Q):ds.length=["k", "thing"].length:=by obtain⟨_,_,rfl,_⟩:=h;rfl
theorem Cm:∀ ds Q,gH ds Q->qK { nx:=fun _=>Q .sh .non,rt:=Q } (aO 2 ds):=by
 rintro ds Q ⟨k,d,rfl,h⟩;unfold qK
 cases d with
 |tup xs =>
  cases xs with
  |nil =>walk_at "q";refine R.F rfl ?_;walk_at "q";refine R.T rfl ?_;walk_at "q";exact h
  |cons a r =>
   walk_at "q";refine R.F rfl ?_;walk_at "q";refine R.F (decide_eq_false (by simp;lia)) ?_;walk_at "q"
   cases a with
   |str w =>
    have h:Q .sh (.bl (oq k w r)):=h;unfold oq at h;walk_at "q";refine R.F rfl ?_;walk_at "q";refine R.D (fun e1=>?_) fun e1=>?_
    ·rw[if_pos (.inl e1)] at h;walk_at "q";rcases r with _|⟨x,_|⟨y,_|⟨z,r⟩⟩⟩
     ·refine R.F rfl ?_;walk_at "q";exact h
     ·refine R.F rfl ?_;walk_at "q";exact h
     ·refine R.T rfl ?_;walk_at "q";refine⟨_,rfl,?_⟩;have h:Q .sh (.bl (y3 x && kT k y)):=h;walk_at "q";refine R.B (fun e=>?_) fun e=>?_
      ·walk_at "q";refine⟨_,_,rfl,?_⟩;rw[e] at h;exact h
      ·walk_at "q";rw[e] at h;exact h
     ·refine R.F (decide_eq_false (by simp;lia)) ?_;walk_at "q";exact h
    walk_at "q";refine R.D (fun e2=>?_) fun e2=>?_
    ·rw[if_pos (.inr e2)] at h;walk_at "q";rcases r with _|⟨x,_|⟨y,_|⟨z,r⟩⟩⟩
     ·refine R.F rfl ?_;walk_at "q";exact h
     ·refine R.F rfl ?_;walk_at "q";exact h
     ·refine R.T rfl ?_;walk_at "q";refine⟨_,rfl,?_⟩;have h:Q .sh (.bl (y3 x && kT k y)):=h;walk_at "q";refine R.B (fun e=>?_) fun e=>?_
      ·walk_at "q";refine⟨_,_,rfl,?_⟩;rw[e] at h;exact h
      ·walk_at "q";rw[e] at h;exact h
     ·refine R.F (decide_eq_false (by simp;lia)) ?_;walk_at "q";exact h
    rw[if_neg (fun z=>z.elim e1 e2)] at h;walk_at "q";refine R.D (fun e3=>?_) fun e3=>?_
    ·rw[if_pos e3] at h;walk_at "q";rcases r with _|⟨x,_|⟨y,r⟩⟩
     ·refine R.F rfl ?_;walk_at "q";exact h
     ·refine R.T rfl ?_;walk_at "q";exact⟨_,_,rfl,h⟩
     ·refine R.F (decide_eq_false (by simp;lia)) ?_;walk_at "q";exact h
    rw[if_neg e3] at h;walk_at "q";refine R.D (fun e4=>?_) fun e4=>?_
    ·rw[if_pos (.inl e4)] at h;walk_at "q";rcases r with _|⟨x,_|⟨y,r⟩⟩
     ·refine R.F rfl ?_;walk_at "q";exact h
     ·refine R.T rfl ?_;walk_at "q";exact⟨_,_,rfl,h⟩
     ·refine R.F (decide_eq_false (by simp;lia)) ?_;walk_at "q";exact h
    walk_at "q";refine R.D (fun e5=>?_) fun e5=>?_
    ·rw[if_pos (.inr e5)] at h;walk_at "q";rcases r with _|⟨x,_|⟨y,r⟩⟩
     ·refine R.F rfl ?_;walk_at "q";exact h
     ·refine R.T rfl ?_;walk_at "q";exact⟨_,_,rfl,h⟩
     ·refine R.F (decide_eq_false (by simp;lia)) ?_;walk_at "q";exact h
    rw[if_neg (fun z=>z.elim e4 e5)] at h;walk_at "q";exact h
   |_ =>walk_at "q";refine R.T rfl ?_;walk_at "q";exact h
 |_ =>walk_at "q";refine R.T rfl ?_;walk_at "q";exact h
def fQ:WS :=
 (bI (eA (ja (wB (av eL (ag 2) (wC (.str "and")))) (wB (av eL (ag 2) (wC (.str "or")))))
 (uU (vW (fL (A0 (ag 2)) (fL (My oE (oM (jW (kS (ag 1) (fW (wC (.int 1))) cI)) (gN 0) ka (iu aJ (ak (ag 0) aI)) 1 [])) vq))))
 bH)
 (lX "NoText" (wC (.str "a row is not of the form"))))
def fM:WS :=
 (bI (eA (LH (wB (av eL (ag 2) (wC (.str "not")))) (wB (av eL (cv gp (ag 1)) (wC (.int 2)))))
 (uU (vW (fL (A0 (ag 2)) (fL (iu aJ (ak (av dn (ag 1) (wC (.int 1))) aI)) vq))))
 bH)
 fQ)
def lC:WS :=
 (bI (eJ 1 (um (ag 0) (wC (.str " "))))
 (bI (eJ 2 (av dn (ag 1) (wC (.int 0))))
 (bI (eA (LH (ja (wB (av eL (ag 2) (wC (.str "some")))) (wB (av eL (ag 2) (wC (.str "all"))))) (wB (av eL (cv gp (ag 1)) (wC (.int 3)))))
 (uU (vW (fL (A0 (ag 2)) (fL (iu bY (ak (av dn (ag 1) (wC (.int 1))) aI)) (fL (iu aJ (ak (av dn (ag 1) (wC (.int 2))) aI)) vq)))))
 bH)
 fM)))
def cP:dS:=fun ds Q=>∃ x:Str,ds=[.str x]/\x.length<=1000000/\(∀ r,mh x=some r->Q .sh (bq r))/\(mh x=none->Q (.ow false) (.str "NoText"))
theorem uK (ds Q) (h:cP ds Q):ds.length=["text"].length:=by obtain⟨_,rfl,_⟩:=h;rfl
theorem uM {Y:Str->Prop}:∀ (ps:List Str) (k:List D->Prop) (o:Option Sl),(ps.all fK=true->k ((ps.map valN).map .int))->(ps.all fK=false->Y "NoText") ->
  dN (gN 0) ka (iu aJ (ak (ag 0) aI) · Y ·) (ps.map .str) [o] k
 |[],k,o,h1,_=>h1 rfl
 |p :: ps,k,o,h1,h2=>by
  rw[hV];unfold dN;rw[vv] at h1 h2;walk_at "q";refine⟨p,rfl,fun e=>?_,fun e=>?_⟩
  ·rw[e,tq] at h1 h2;have ih:=uM ps (fun out=>k (.int (valN p) :: out)) (some (.sh (.str p))) h1 h2;walk_at "q";exact⟨.inl rfl,ih⟩
  ·walk_at "q";exact h2 (by rw[e];rfl)
section
variable {Q:Md->D->Prop} {x w:Str} {r:List Str} (h1:∀ q,kM w r=some q->Q .sh (bq q)) (h2:kM w r=none->Q (.ow false) (.str "NoText"))
include h1 h2
theorem G7 (n1:¬ ((w = "some"\/w = "all")/\r.length=2)) (n2:¬ (w = "not"/\r.length=1)):fQ { nx:=fun _=>Q .sh .non,rt:=Q } [some (.sh (.str x)),some (.ow true (.list (.str w :: r.map .str))),some (.sh (.str w))]:=by
 have go:(w = "and"\/w = "or")->uU (vW (fL (A0 (ag 2)) (fL (My oE (oM (jW (kS (ag 1) (fW (wC (.int 1))) cI)) (gN 0) ka (iu aJ (ak (ag 0) aI)) 1 [])) vq))) { nx:=fun _=>Q .sh .non,rt:=Q } [some (.sh (.str x)),some (.ow true (.list (.str w :: r.map .str))),some (.sh (.str w))]:=fun hw=>by
  rw[vQ hw] at h2;simp only[vQ hw] at h1;walk_at "q";refine .inl ⟨aN r,?_⟩;rw[show fi (D.str w :: r.map D.str) (some 1) none=r.map D.str by
   unfold fi;simp only[HT.bG,ox,da];rw[if_neg (by lia),show min (Int.toNat 1) (r.length+1)=1 by lia,Nat.add_sub_cancel];show List.take r.length (r.map D.str)=_;exact zi (by rw[da];exact cK _)]
  refine uM r _ _ (fun e=>?_) fun e=>?_
  ·rw[e,if_pos rfl] at h2;simp only[e,if_true] at h1;exact⟨di _,h1 _ rfl⟩
  ·exact h2 (by rw[e];rfl)
 unfold fQ;walk_at "q";refine R.D (fun e=>?_) fun e=>?_
 ·exact go (.inl e)
 walk_at "q";refine R.D (fun e2=>?_) fun e2=>?_
 ·exact go (.inr e2)
 walk_at "q";exact h2 (rM n1 n2 (by simp[e,e2]))
theorem JF (n1:¬ ((w = "some"\/w = "all")/\r.length=2)):fM { nx:=fun _=>Q .sh .non,rt:=Q } [some (.sh (.str x)),some (.ow true (.list (.str w :: r.map .str))),some (.sh (.str w))]:=by
 obtain⟨w4,e4⟩:∃ w,w=fQ:=⟨_,rfl⟩
 unfold fM;rw[<- e4];walk_at "q";refine R.D (fun e=>?_) fun e=>?_
 ·subst e;walk_at "q";refine R.D (fun e2=>?_) fun e2=>?_
  ·match r,(show r.length=1 by simp at e2;lia) with
   |[a],_ =>
    simp only[Dn] at h1 h2;walk_at "q";refine⟨a,rfl,fun e3=>?_,fun e3=>?_⟩
    ·walk_at "q";exact h1 _ (by rw[e3];rfl)
    ·walk_at "q";exact h2 (by rw[e3];rfl)
  ·walk_at "q";rw[e4];exact G7 h1 h2 n1 fun z=>e2 (by have:=z.2;simp;lia)
 ·walk_at "q";rw[e4];exact G7 h1 h2 n1 fun z=>e z.1
end
theorem xZ:∀ ds Q,cP ds Q->lC { nx:=fun _=>Q .sh .non,rt:=Q } (aO 3 ds):=by
 rintro ds Q ⟨x,rfl,hx,h1,h2⟩;obtain⟨w3,e3⟩:∃ w,w=fM:=⟨_,rfl⟩
 unfold lC;rw[<- e3];unfold mh at h1 h2;walk_at "q";refine⟨by decide +kernel,by lia,?_⟩;have ne:=rT x " ";generalize Txt.split x " " = ws at *
 cases ws with
 |nil=>exact absurd rfl ne
 |cons w r =>
  have h1:∀ q,kM w r=some q->Q .sh (bq q):=h1;have h2:kM w r=none->Q (.ow false) (.str "NoText"):=h2;rw[hV];have go:(w = "some"\/w = "all")->r.length=2->uU (vW (fL (A0 (ag 2)) (fL (iu bY (ak (av dn (ag 1) (wC (.int 1))) aI)) (fL (iu aJ (ak (av dn (ag 1) (wC (.int 2))) aI)) vq)))) { nx:=fun _=>Q .sh .non,rt:=Q } [some (.sh (.str x)),some (.ow true (.list (.str w :: r.map .str))),some (.sh (.str w))]:=fun hw hl=>by
   match r,hl with
   |[a,b],_ =>
    simp only[FZ hw] at h1 h2;walk_at "q";refine⟨a,rfl,fun e1=>?_,fun e1=>?_⟩;rotate_left
    ·walk_at "q";exact h2 (by rw[e1];rfl)
    walk_at "q";refine⟨b,rfl,fun e2=>?_,fun e2=>?_⟩;rotate_left
    ·walk_at "q";exact h2 (by rw[e1,e2];rfl)
    walk_at "q";exact h1 _ (by rw[e1,e2];rfl)
  have on:¬ ((w = "some"\/w = "all")/\r.length=2)->w3 { nx:=fun _=>Q .sh .non,rt:=Q } [some (.sh (.str x)),some (.ow true (.list (.str w :: r.map .str))),some (.sh (.str w))]:=fun n1=>by rw[e3];exact JF h1 h2 n1
  walk_at "q";refine R.D (fun e=>?_) fun e=>?_
  ·walk_at "q";refine R.D (fun e2=>?_) fun e2=>?_
   ·exact go (.inl e) (by simp at e2;lia)
   ·exact on fun z=>e2 (by have:=z.2;simp;lia)
  walk_at "q";refine R.D (fun e'=>?_) fun e'=>?_
  ·walk_at "q";refine R.D (fun e2=>?_) fun e2=>?_
   ·exact go (.inr e') (by simp at e2;lia)
   ·exact on fun z=>e2 (by have:=z.2;simp;lia)
  ·exact on fun z=>z.1.elim e e'
def jJ:WS :=
 (bI (eA (ja (ic (wB (cv (kB "list") (ag 0)))) (ic (wB (iJ pV pV (wC (.int 1)) (cv gp (ag 0)) (wC (.int 2000))))))
 (dr (wC (.bl false)))
 bH)
 (dr (cv B3 (iz (xH (ag 0)) (gT 2 (xj (gN 0) (xj (gN 1) Av))) ka (bD gH (ak (ag 0) (ak (ag 1) aI))) 2 []))))
def bj:dS:=fun ds Q=>∃ d:D,ds=[d]/\Q .sh (.bl (iF d))
theorem qW (ds Q) (h:bj ds Q):ds.length=["thing"].length:=by obtain⟨_,rfl,_⟩:=h;rfl
theorem vG:∀ ds Q,bj ds Q->jJ { nx:=fun _=>Q .sh .non,rt:=Q } (aO 1 ds):=by
 rintro ds Q ⟨d,rfl,h⟩;unfold jJ
 cases d with
 |list xs =>
  have h:Q .sh (.bl (decide (1<=xs.length/\xs.length<=2000) && xs.zipIdx.all fun p=>oQ (p.2:Int) p.1)):=h;walk_at "q";refine R.F rfl ?_;walk_at "q";refine R.D (fun h1=>?_) fun h1=>?_;rotate_left
  ·walk_at "q";rw[decide_eq_false (by lia)] at h;exact h
  walk_at "q";refine R.B (fun h2=>?_) fun h2=>?_
  ·have h2:¬ (xs.length:Int)<=2000:=by simpa using h2
   walk_at "q";rw[decide_eq_false (by lia)] at h;exact h
  have h2:(xs.length:Int)<=2000:=by simpa using h2
  rw[decide_eq_true (by lia),tq] at h;walk_at "q"
  refine eZ (fun _=>true) (fun d=>match d with
   |.tup [.int i,x]=>.bl (oQ i x)
   |d=>d) (fun ρ=>∃ o o',ρ=[o,o']) _ _ _ ⟨_,_,rfl⟩ ?_ ?_
  ·rintro y hy ρ ⟨o,o',rfl⟩ N1 N2 _ h2;obtain⟨i,hi⟩:=GN.mp hy;unfold qP at hi;rw[List.getElem?_mapIdx] at hi
   cases e:xs[i]? with
   |none=>rw[e] at hi;cases hi
   |some r =>rw[e] at hi;cases hi;walk_at "q";exact⟨_,_,rfl,.inl rfl,h2 _ ⟨_,_,rfl⟩ rfl⟩
  ·rw[jM];refine⟨xs.zipIdx.map fun p=>oQ (p.2:Int) p.1,?_,?_⟩
   ·unfold qP;rw[List.mapIdx_eq_zipIdx_map,mB,mB];rfl
   ·rw[x5];exact h
 |_ =>walk_at "q";refine R.T rfl ?_;walk_at "q";exact h
def gf:WS :=
 (eA (ic (wB (bD bj (ak (ag 0) aI))))
 (lX "NoScroll" (wC (.str "this is no scroll")))
 bH)
def bJ:dS:=fun ds Q=>∃ d:D,ds=[d]/\(iF d=true->Q .sh .non)/\(iF d=false->Q (.ow false) (.str "NoScroll"))
theorem mR (ds Q) (h:bJ ds Q):ds.length=["thing"].length:=by obtain⟨_,rfl,_⟩:=h;rfl
theorem pW:∀ ds Q,bJ ds Q->gf { nx:=fun _=>Q .sh .non,rt:=Q } (aO 1 ds):=by
 rintro ds Q ⟨d,rfl,h1,h2⟩;unfold gf;walk_at "q";refine⟨_,rfl,?_⟩
 cases e:iF d with
 |true =>walk_at "q";exact h1 e
 |false =>walk_at "q";exact h2 e
def gR:WS :=
 (bI (xx cu (ak (ag 0) aI))
 (bI (Fz 1 (oM (jW (um (ag 0) (wC (.str "; ")))) (gN 0) ka (iu cP (ak (ag 0) aI)) 1 []))
 (bI (eA (ic (wB (bD bj (ak (ag 1) aI))))
 (lX "NoScroll" (wC (.str "these rows are no scroll")))
 bH)
 (x_ 1))))
def aL:dS:=fun ds Q=>∃ d:D,ds=[d]/\xI d/\(kE d=none->Q (.ow false) (.str "NoText"))/\∀ l,kE d=some l->(iF (.list (l.map bq))=true->Q (.ow true) (.list (l.map bq)))/\(iF (.list (l.map bq))=false->Q (.ow false) (.str "NoScroll"))
theorem oR (ds Q) (h:aL ds Q):ds.length=["text"].length:=by obtain⟨_,rfl,_⟩:=h;rfl
theorem tO {Y:Str->Prop}:∀ (ps:List Str) (k:List D->Prop) (o:Option Sl),(∀ p∈ps,p.length<=1000000)->(∀ l,ov ps=some l->k (l.map bq))->(ov ps=none->Y "NoText") ->
  dN (gN 0) ka (iu cP (ak (ag 0) aI) · Y ·) (ps.map .str) [o] k
 |[],k,o,_,h1,_=>h1 [] rfl
 |p :: ps,k,o,hl,h1,h2=>by
  rw[hV];unfold dN;walk_at "q";refine⟨p,rfl,hl p fo,fun s e=>?_,fun e=>?_⟩
  ·have ih:=tO ps (fun out=>k (bq s :: out)) (some (.sh (.str p))) (fun q hq=>hl q (dz _ hq)) (fun l e2=>h1 (s :: l) (by rw[gO,e,e2];rfl)) fun e2=>h2 (by rw[gO,e,e2];rfl);have fl:=vJ s;generalize bq s=y at *
   walk_at "q";exact⟨.inl fl,ih⟩
  ·walk_at "q";exact h2 (by rw[gO,e];rfl)
theorem q_:∀ ds Q,aL ds Q->gR { nx:=fun _=>Q .sh .non,rt:=Q } (aO 2 ds):=by
 rintro ds Q ⟨d,rfl,tx,h1,h2⟩;unfold gR;walk_at "q";refine⟨d,rfl,fun⟨t,e⟩=>?_,fun ne=>?_⟩;rotate_left
 ·walk_at "q";refine h1 ?_
  cases d with
  |str t=>exact absurd ⟨t,rfl⟩ ne
  |_=>rfl
 subst e;have ht:=tx t rfl;walk_at "q";refine⟨by decide +kernel,by lia,?_⟩;have h2:∀ l,ov (Txt.split t "; ")=some l->(iF (.list (l.map bq))=true->Q (.ow true) (.list (l.map bq)))/\(iF (.list (l.map bq))=false->Q (.ow false) (.str "NoScroll")):=h2;refine tO _ _ _ (fun p hp=>fE (qp hp) ht) (fun l e=>?_) h1;refine⟨_,rfl,?_⟩;obtain⟨g1,g2⟩:=h2 l e
 cases es:iF (.list (l.map bq)) with
 |true =>walk_at "q";exact g1 es
 |false =>walk_at "q";exact g2 es
def gY:WS :=
 (bI (xx bJ (ak (ag 0) aI))
 (dr (gK (wC (.str "; ")) (iz (jW (ag 0)) (gN 0) ka (bD bh (ak (ag 0) aI)) 1 []))))
def aX:dS:=fun ds Q=>∃ d:D,ds=[d]/\((iF d=false/\Q (.ow false) (.str "NoScroll"))\/∃ l:List Rw,d=.list (l.map bq)/\kf l/\1<=l.length/\l.length<=2000/\Q .sh (.str (textOf l)))
theorem pB (ds Q) (h:aX ds Q):ds.length=["scroll"].length:=by obtain⟨_,rfl,_⟩:=h;rfl
theorem rw_true{k:Int}:∀ {r:Rw},rS k r->oQ k (bq r)=true
 |.st w d j,⟨hw,hd,h0,h1⟩=>by show oq k w [.str d,.int j]=true;rw[CV hw];show(gG d && decide (0<=j/\j<k))=true;rw[lL.mpr hd,decide_eq_true ⟨h0,h1⟩];rfl
 |.nt j,⟨h0,h1⟩=>by show oq k "not" [.int j]=true;rw[Eo];exact decide_eq_true ⟨h0,h1⟩
 |.jn w ps,⟨hw,hl,hp⟩=>by show oq k w [.tup (ps.map .int)]=true;rw[Dd hw];show(decide ((ps.map D.int).length<=200) && (ps.map D.int).all (kT k))=true;rw[da,decide_eq_true hl,x5,tq];exact ki.mpr fun p h=>decide_eq_true (hp p h)
theorem yt{l:List Rw}(h:kf l)(h1:1<=l.length)(h2:l.length<=2000):iF (.list (l.map bq))=true:=by show(decide (1<=(l.map bq).length/\(l.map bq).length<=2000) && _)=true;rw[da,decide_eq_true ⟨h1,h2⟩,tq];refine ki.mpr fun p hp=>?_;obtain⟨x,i⟩:=p;have:=List.mem_zipIdx_iff_getElem?.mp hp;rw[vj] at this;obtain⟨r,hr,rfl⟩:=NS.mp this;exact rw_true (h i r hr)
theorem qu:∀ {l:List Rw} {k:List D->Prop} {o:Option Sl},(∀ r∈l,gu r)->k ((l.map bt).map .str)->dN (gN 0) ka (bD bh (ak (ag 0) aI)) (l.map bq) [o] k
 |[],k,o,_,h=>h
 |r :: l,k,o,hr,h=>by have ih:=qu (l:=l) (k:=fun out=>k (.str (bt r) :: out)) (o:=some (.sh (bq r))) (fun x hx=>hr x (dz _ hx)) h;rw[hV];unfold dN;have hr:=hr r fo;have go:bh [bq r]=fun Q=>bh [bq r] Q:=rfl;walk_at "q";refine⟨r,rfl,hr,?_⟩;walk_at "q";exact⟨.inl rfl,ih⟩
theorem rB:∀ ds Q,aX ds Q->gY { nx:=fun _=>Q .sh .non,rt:=Q } (aO 1 ds):=by
 rintro ds Q ⟨d,rfl,h⟩;unfold gY;walk_at "q";rcases h with⟨hb,h⟩|⟨l,rfl,sc,l1,l2,h⟩
 ·refine⟨d,rfl,fun e=>(by rw[hb] at e;cases e),fun _=>?_⟩;walk_at "q";exact h
 ·refine⟨_,rfl,fun _=>?_,fun e=>(by rw[yt sc l1 l2] at e;cases e)⟩;walk_at "q";have hn:=sc.n l2;refine qu hn ?_;exact ph hn l2 (Q:=fun z=>Q .sh (.str z)) h
def iG:WS :=
 (bI (eA (wB (av eL (ag 0) (wC (.int 0))))
 (Bk aL (ak (ag 1) aI))
 bH)
 (Bk aX (ak (ag 1) aI)))
def cZ:dS:=fun ds Q=>∃ (w:Int) (d:D),ds=[.int w,d]/\((w=0/\xI d/\kE d=none/\Q (.ow false) (.str "NoText"))\/(w=0/\xI d/\(∃ l,kE d=some l/\iF (.list (l.map bq))=false)/\Q (.ow false) (.str "NoScroll"))\/(¬ w=0/\iF d=false/\Q (.ow false) (.str "NoScroll")))
theorem p_ (ds Q) (h:cZ ds Q):ds.length=["_law_way", "_law_thing"].length:=by obtain⟨_,_,rfl,_⟩:=h;rfl
theorem tH:∀ ds Q,cZ ds Q->iG { nx:=fun _=>Q .sh .non,rt:=Q } (aO 2 ds):=by
 rintro ds Q ⟨w,d,rfl,h⟩;unfold iG;walk_at "q";rcases h with⟨rfl,tx,e,h⟩|⟨rfl,tx,⟨l,e,es⟩,h⟩|⟨hw,es,h⟩
 ·refine R.T (by decide) ?_;walk_at "q";refine⟨d,rfl,tx,fun _=>?_,fun l z=>(by rw[e] at z;cases z)⟩;walk_at "q";exact h
 ·refine R.T (by decide) ?_;walk_at "q";refine⟨d,rfl,tx,fun z=>(by rw[e] at z;cases z),fun l' z=>?_⟩;rw[e] at z;cases z;refine⟨fun z=>(by rw[es] at z;cases z),fun _=>?_⟩;walk_at "q";exact h
 ·refine R.F (decide_eq_false hw) ?_;walk_at "q";refine⟨d,rfl,.inl ⟨es,?_⟩⟩;walk_at "q";exact h
def jG:WS :=
 (bI (eJ 2 (cv xX (ag 0)))
 (bI (eJ 3 (uO aX (ak (ag 2) aI)))
 (bI (eJ 4 (uO aL (ak (ag 1) aI)))
 (bI (eA (ja (ic (wB (cv (kB "str") (ag 3)))) (ja (wB (av nK (ag 3) (ag 1))) (wB (av nK (ag 2) (ag 0)))))
 (dr (wC (.bl false)))
 bH)
 (bI (eA (ja (ic (wB (bD bA (ak (ag 4) (ak (cv gp (ag 0)) aI))))) (wB (av nK (ag 4) (ag 0))))
 (dr (wC (.bl false)))
 bH)
 (bI (rp (qk 4) (ip (ak (wC (.str "and")) (ak (ip aI) aI))))
 (dr (av eL (uO aL (ak (ag 1) aI)) (ag 0)))))))))
def cg:dS:=fun ds Q=>∃ l:List Rw,ds=[.list (l.map bq),.str (textOf l)]/\kf l/\1<=l.length/\l.length<=2000/\eP (l.map bt)<=900000/\Q .sh (.bl true)
theorem rP (ds Q) (h:cg ds Q):ds.length=["_law_scroll_here", "_law_text_here"].length:=by obtain⟨_,rfl,_⟩:=h;rfl
theorem uV:∀ ds Q,cg ds Q->jG { nx:=fun _=>Q .sh .non,rt:=Q } (aO 5 ds):=by
 rintro ds Q ⟨l,rfl,sc,l1,l2,hm,h⟩;have tl:(textOf l).length<=900000:=fE (text_len (P:=l.map bt)) hm;have hn:=sc.n l2;have hp:kE (.str (textOf l))=some l:=by
  show ov (Txt.split (Str.join "; " (l.map bt)) "; ")=some l
  rw[gZ (by cases l with
   |nil=>simp at l1
   |cons=>simp) fun p hp=>by
    obtain⟨r,hr,rfl⟩:=iL.mp hp;exact mO (hn r hr)]
  exact sI hn
 have eq:jS (.list (l.map bq)) (.list (l.map bq))=true:=(vf (.list (l.map bq)) (.list (l.map bq)) (uF l) (uF l)).mpr rfl;have st:=yt sc l1 l2;unfold jG;obtain⟨t,ht⟩:∃ t,t=textOf l:=⟨_,rfl⟩
 rw[<- ht] at tl hp ⊢;have rk:=HB sc 9;have rd:∀ K:Md->D->Prop,K (.ow true) (.list (l.map bq))->aL [.str t] K:=fun K k=>⟨_,rfl,.of (by lia),fun z=>(by rw[hp] at z;cases z),fun l' z=>(by
  rw[hp] at z;cases z;exact⟨fun _=>k,fun z=>(by rw[st] at z;cases z)⟩)⟩
 walk_at "q";refine .inl ⟨g_ l,?_⟩;refine⟨_,rfl,.inr ⟨l,rfl,sc,l1,l2,?_⟩⟩;rw[<- ht];walk_at "q";refine rd _ ?_;walk_at "q";refine R.F rfl ?_;walk_at "q";refine⟨rk,rk,R.F (by rw[eq];rfl) ?_⟩;walk_at "q";refine⟨l,l.length,by rfl,sc,l1,by lia,l2,?_⟩;walk_at "q";refine⟨rk,rk,R.F (by rw[eq];rfl) ?_⟩;walk_at "q";refine⟨by lia,rd _ ?_⟩;walk_at "q";rw[eq];exact⟨rk,rk,h⟩
def jH:WS :=
 (bI (eJ 2 (wC .non))
 (bI (Du 3 (yW (Al cZ (ak (ag 0) (ak (ag 1) aI)))) (fun a n=>(bI (eJ 4 (AV 3 a (decide (n = "NoDeed") || (decide (n = "TooBig") || false))))
 (tf 4 (eJ 2 (ip (ak (AV 3 a (decide (n = "NoText"))) (ak (AV 3 a (decide (n = "NoScroll"))) (ak (AV 3 a true) (ak (ag 4) aI))))))))))
 (bI (eA (wB (av eL (ag 2) (ip (ak (wC (.bl true)) (ak (wC (.bl false)) (ak (wC (.bl true)) (ak (wC (.bl false)) aI)))))))
 (dr (wC (.str "no text")))
 bH)
 (bI (eA (wB (av eL (ag 2) (ip (ak (wC (.bl false)) (ak (wC (.bl true)) (ak (wC (.bl true)) (ak (wC (.bl false)) aI)))))))
 (dr (wC (.str "no scroll")))
 bH)
 (dr (wC (.str "none")))))))
def aY:dS:=fun ds Q=>∃ (w:Int) (d:D),ds=[.int w,d]/\((w=0/\xI d/\kE d=none/\Q .sh (.str "no text"))\/(w=0/\xI d/\(∃ l,kE d=some l/\iF (.list (l.map bq))=false)/\Q .sh (.str "no scroll"))\/(¬ w=0/\iF d=false/\Q .sh (.str "no scroll")))
theorem rN (ds Q) (h:aY ds Q):ds.length=["_law_way", "_law_thing"].length:=by obtain⟨_,_,rfl,_⟩:=h;rfl
theorem v_:∀ ds Q,aY ds Q->jH { nx:=fun _=>Q .sh .non,rt:=Q } (aO 5 ds):=by
 rintro ds Q ⟨w,d,rfl,h⟩;unfold jH;walk_at "q";rcases h with⟨rfl,tx,e,h⟩|⟨rfl,tx,e,h⟩|⟨hw,es,h⟩
 ·refine⟨0,d,rfl,.inl ⟨rfl,tx,e,?_⟩⟩;walk_at "q";intro a;refine⟨rfl,rfl,R.T (by decide +kernel) ?_⟩;walk_at "q";exact h
 ·refine⟨0,d,rfl,.inr (.inl ⟨rfl,tx,e,?_⟩)⟩;walk_at "q";intro a;refine⟨rfl,rfl,R.F (by decide +kernel) ?_⟩;walk_at "q";refine⟨rfl,rfl,R.T (by decide +kernel) ?_⟩;walk_at "q";exact h
 ·refine⟨w,d,rfl,.inr (.inr ⟨hw,es,?_⟩)⟩;walk_at "q";intro a;refine⟨rfl,rfl,R.F (by decide +kernel) ?_⟩;walk_at "q";refine⟨rfl,rfl,R.T (by decide +kernel) ?_⟩;walk_at "q";exact h
def nJ:WS :=
 (dr (iK (av eL (bD aY (ak (wC (.int 1)) (ak (bD cW (ak (ag 3) (ak (ag 7) (ak (av nI (ag 5) (wC (.int 64))) aI)))) aI))) (wC (.str "no scroll"))) (bD cg (ak (ag 3) (ak (ag 4) aI)))))
def nq:WS :=
 (bI (eA (wB (av nK (bD aY (ak (wC (.int 0)) (ak (bD bC (ak (ag 4) (ak (ag 5) aI))) aI))) (wC (.str "no text"))))
 (dr (wC (.bl false)))
 bH)
 (bI (eA (ic (wB (bD cg (ak (kS (ag 3) cI (fW (av eH (ag 7) (wC (.int 1))))) (ak (bD cQ (ak (kS (ag 3) cI (fW (av eH (ag 7) (wC (.int 1))))) aI)) aI)))))
 (dr (wC (.bl false)))
 bH)
 nJ))
def nG:WS :=
 (bI (eJ 11 (gK (wC (.str "; ")) (av eH (av eH (kS (ag 8) cI (fW (ag 7))) (fT (ak (bD a_ (ak (ag 6) aI)) aI))) (kS (ag 8) (fW (av eH (ag 7) (wC (.int 1)))) cI))))
 (bI (eA (ja (wB (av nK (bD aY (ak (wC (.int 0)) (ak (gK (wC (.str "; ")) (ag 9)) aI))) (wC (.str "no text")))) (wB (av nK (bD aY (ak (wC (.int 0)) (ak (ag 11) aI))) (wC (.str "no text")))))
 (dr (wC (.bl false)))
 bH)
 nq))
def nO:WS :=
 (bI (P6 (qk 9) (av fS (av nI (ag 6) (wC (.int 5))) (av eH (cv gp (ag 9)) (wC (.int 1)))) (bD a_ (ak (ag 5) aI)))
 nG)
def nj:WS :=
 (bI (eA (ja (wB (av nK (bD aY (ak (wC (.int 0)) (ak (gK (wC (.str "; ")) (ag 9)) aI))) (wC (.str "no scroll")))) (wB (av nK (bD aY (ak (wC (.int 0)) (ak (ag 10) aI))) (wC (.str "no scroll")))))
 (dr (wC (.bl false)))
 bH)
 nO)
def nM:WS :=
 (bI (eJ 8 (um (ag 4) (wC (.str "; "))))
 (bI (eJ 9 (av eH (av eH (kS (ag 8) cI (fW (ag 7))) (fT (ak (bD bz (ak (ag 7) (ak (ag 6) aI))) aI))) (kS (ag 8) (fW (av eH (ag 7) (wC (.int 1)))) cI)))
 (bI (eJ 10 (gK (wC (.str "; ")) (av yp (fT (ak (av dn (ag 8) (wC (.int 0))) aI)) (wC (.int 2001)))))
 nj)))
def sZ:WS :=
 (bI (eJ 5 (bD aH (ak (ag 0) (ak (wC (.int 4)) aI))))
 (bI (eJ 6 (bD aH (ak (ag 0) (ak (wC (.int 5)) aI))))
 (bI (eJ 7 (av fS (ag 5) (cv gp (ag 3))))
 nM)))
def yU:WS :=
 (bI (eA (ic (wB (bD cg (ak (ag 3) (ak (ag 4) aI)))))
 (dr (wC (.bl false)))
 bH)
 sZ)
def rY:WS :=
 (bI (eJ 4 (bD cQ (ak (ag 3) aI)))
 yU)
def qM:WS :=
 (bI (eA (wB (av eL (av fS (ag 1) (wC (.int 16))) (wC (.int 5))))
 (rp (qk 3) (ip (ak (av dn (fT (ak (wC (.str "and")) (ak (wC (.str "or")) aI))) (av fS (av nI (ag 1) (wC (.int 16))) (wC (.int 2)))) (ak (cv oE (iz (jm (wC (.int 200))) (gN 0) ka (av fS (ag 0) (cv gp (ag 1))) 1 [3])) aI))))
 bH)
 rY)
def qT:WS :=
 (bI (eA (wB (av eL (av fS (ag 1) (wC (.int 16))) (wC (.int 3))))
 (eJ 3 (av eH (ag 3) (iz (jm (av xt (wC (.int 1200)) (cv gp (ag 3)))) (gN 0) ka (ip (ak (wC (.str "not")) (ak (av xt (av xt (av eH (cv gp (ag 1)) (ag 0)) (wC (.int 1))) (av fS (av fS (av xv (ag 0) (ag 0)) (wC (.int 7))) (cv gp (ag 1)))) aI))) 1 [3])))
 bH)
 qM)
def Dw:WS :=
 (bI (eJ 1 (bD aH (ak (ag 0) (ak (wC (.int 0)) aI))))
 (bI (eJ 2 (bD cY (ak (bD aH (ak (ag 0) (ak (wC (.int 1)) aI))) (ak (bD aH (ak (ag 0) (ak (wC (.int 2)) aI))) aI))))
 (bI (eJ 3 (bD cD (ak (av eH (kS (ag 0) (fW (wC (.int 6))) (fW (wC (.int 61)))) (fT (ak (bD aH (ak (ag 0) (ak (wC (.int 3)) aI))) aI))) (ak (av eH (fT (ak (wC (.str "*")) aI)) (ag 2)) aI))))
 qT)))
abbrev B9:dS:=Vm
theorem Ek (ds Q) (h:B9 ds Q):ds.length=["_law_script"].length:=by obtain⟨_,rfl,_⟩:=h;rfl
theorem Aj(l:List Int)(lo hi:Option Int):fi (l.map D.int) lo hi=(fi l lo hi).map D.int:=by unfold fi;rw[da,Dp,List.map_drop]
theorem zY{l:List Rw}{n:Nat}{K:List D->Prop}(l1:1<=l.length)(h:∀ ps:List Int,ps.length=n->(∀ p∈ps,0<=p/\p<l.length)->K (ps.map .int)):dN (gN 0) ka (av fS (ag 0) (cv gp (ag 1))) (mW 0 n) [none,some (.sh (.list (l.map bq)))] K:=by
 refine k_ (fun n out=>∃ ps:List Int,out=ps.map .int/\ps.length=n/\∀ p∈ps,0<=p/\p<l.length) (fun ρ=>∃ o,ρ=[o,some (.sh (.list (l.map bq)))]) _ 0 [] _ _ ⟨_,rfl⟩ ⟨[],rfl,rfl,fun r hr=>nomatch hr⟩ ?_ ?_
 ·rintro j y hy ρ ⟨o,rfl⟩ out ⟨ps,rfl,hm,ok⟩ N1 N2 oy;obtain⟨hj,rfl⟩:=iR hy;walk_at "q";have a0:=mG (0+(j:Int)) (show(l.length:Int)≠0 by lia);have a1:=mE (0+(j:Int)) (show(0:Int)<l.length by lia);refine⟨by lia,.inl rfl,oy _ _ ⟨_,rfl⟩ ⟨ps++[_],(by rw[n9];rfl),by simp[hm],fun p hp=>?_⟩⟩;rcases eW.mp hp with hp|hp
  ·exact ok p hp
  ·rw[mw.mp hp];exact⟨a0,a1⟩
 rintro out ⟨ps,e,hm,ok⟩;simp only[GU] at e;subst e;rw[jg] at hm;exact h ps (by lia) ok
theorem Ac(ns:List Int):(fi ns (some 6) (some 61)).length<=55:=by unfold fi;rw[n5];simp only[HT.bG];rw[if_neg (by lia),if_neg (by lia)];lia
theorem tV {l:List Rw} (ne:l≠[]) (hn:∀ r∈l,gu r):kE (.str (Str.join "; " (l.map bt)))=some l:=by
 show ov (Txt.split (Str.join "; " (l.map bt)) "; ")=some l;rw[gZ (fun z=>ne (MZ.mp z)) fun p hp=>by
  obtain⟨r,hr,rfl⟩:=iL.mp hp;exact mO (hn r hr)]
 exact sI hn
theorem vm:∀ (P:List Str) (k:Nat),(∀ p∈P,p.length<=k)->eP P<=P.length*(k+2)
 |[],k,_=>by simp[eP]
 |a :: P,k,h=>by have:=vm P k fun p hp=>h p (dz _ hp);have:=h a fo;rw[fD,ox,Nat.add_mul,DB];lia
theorem Ck(P:List Str):(P.map (·.length)).sum+P.length*2=eP P:=by
 induction P with
 |nil=>rfl
 |cons a P ih=>rw[fD,<- ih,hV,List.sum_cons,ox];lia
theorem joined {P:List Str} (hm:eP P<=1000000):(P.map (·.length)).sum+P.length*("; " : Str).length<=16777216:=by have:=Ck P;rw[show("; " : Str).length=2 by decide +kernel];lia
theorem nF(P:List Str)(lo hi:Option Int):fi (P.map D.str) lo hi=(fi P lo hi).map D.str:=by unfold fi;rw[da,Dp,List.map_drop]
theorem Ab(A:List Str)(x:Str):A.map D.str++[D.str x]=(A++[x]).map D.str:=by rw[n9];rfl
theorem xu{P:List Str}{i:Nat}{x:Str}:eP (P.set i x)<=eP P+(x.length+2):=by
 rw[MS];split
 ·next h =>
  have e:eP P=eP (P.take i)+eP (P.drop i):=by rw[<- fO,MV]
  rw[fO,fD,e,zh h,fD];lia
 ·lia
theorem yV(P:List Str)(i:Nat):eP (P.take i)<=eP P:=by
 have e:eP P=eP (P.take i)+eP (P.drop i):=by rw[<- fO,MV]
 lia
theorem Ez{l:List Rw}(hn:∀ r∈l,gu r):eP (l.map bt)<=l.length*1416:=by
 have:=vm (l.map bt) 1414 fun p hp=>by obtain⟨r,hr,rfl⟩:=iL.mp hp;exact nU (hn r hr)
 rwa[da] at this
theorem GF{j:Int}(j0:0<=j)(j1:j<10000):(bt (.nt j)).length<=8:=by have l4:(num j).length<=4:=str_len j0 (by decide) (by lia);rw[<- V6,eN,show("not " : Str).length=4 by decide +kernel];lia
structure Good(l:List Rw):Prop where
 sc:kf l
 l1:1<=l.length
 l2:l.length<=2000
 hm:eP (l.map bt)<=120000
theorem Good.n{l:List Rw}(g:Good l):∀ r∈l,gu r:=g.sc.n g.l2
theorem Good.ne{l:List Rw}(g:Good l):l≠[]:=fun z=>by have:=g.l1;rw[z] at this;exact absurd this (by decide)
theorem Good.take{l:List Rw}(g:Good l){n:Nat}(h:1<=n):Good (l.take n):=by have l1:=g.l1;have l2:=g.l2;refine⟨g.sc.take n,by rw[n5];lia,by rw[n5];lia,?_⟩;rw[Dp];exact fE (yV _ _) g.hm
theorem Good.no{l:List Rw}(g:Good l):∀ q∈l.map bt,59∉sg q:=fun q hq=>by obtain⟨r,hr,rfl⟩:=iL.mp hq;exact mO (g.n r hr)
theorem Gy{Q:Md->D->Prop}{l:List Rw}{turn a:Int}{o0 o1 o2 o6 o8 o9 y6 MD:Option Sl}(g:Good l)(a0:0<=a)(a1:a<l.length)(h:∀ m,Q m (.bl true)) :
  nJ { nx:=fun _=>Q .sh .non,rt:=Q } [o0,o1,o2,some (.ow true (.list (l.map bq))),some (.sh (.str (textOf l))),some (.sh (.int turn)),o6,some (.sh (.int a)),o8,o9,y6,MD]:=by
 unfold nJ;walk_at "q";refine⟨l,a,turn / 64,rfl,a0,a1,g.l2,fun m d hd=>?_⟩;walk_at "q";refine⟨1,d,rfl,.inr (.inr ⟨by decide,hd,?_⟩)⟩;walk_at "q";refine⟨l,rfl,g.sc,g.l1,g.l2,by have:=g.hm;lia,?_⟩;walk_at "q";exact h _
theorem GR{Q:Md->D->Prop}{l:List Rw}{turn a:Int}{o0 o1 o2 o6 o8 o9 y6 MD:Option Sl}(g:Good l)(a0:0<=a)(a1:a<l.length)(h:∀ m,Q m (.bl true)) :
  nq { nx:=fun _=>Q .sh .non,rt:=Q } [o0,o1,o2,some (.ow true (.list (l.map bq))),some (.sh (.str (textOf l))),some (.sh (.int turn)),o6,some (.sh (.int a)),o8,o9,y6,MD]:=by
 obtain⟨w,e⟩:∃ w,w=nJ:=⟨_,rfl⟩
 unfold nq;rw[<- e];walk_at "q";refine⟨l,turn,rfl,g.ne,g.n,by have:=g.hm;lia,fun d hd tx=>?_⟩;walk_at "q";refine⟨0,d,rfl,.inl ⟨rfl,tx,hd,?_⟩⟩;walk_at "q";rw[sE _ (by lia),<- Dp];have gt:=g.take (n:=(a+1).toNat) (by lia);refine .inl ⟨g_ l,.inl ⟨g_ l,_,rfl,gt.n,gt.l2,?_⟩⟩;walk_at "q";refine⟨_,rfl,gt.sc,gt.l1,gt.l2,by have:=gt.hm;lia,?_⟩;walk_at "q";rw[e];exact Gy g a0 a1 h
theorem GC {Q:Md->D->Prop} {l:List Rw} {P:List Str} {turn cell a:Int} {o0 o1 o2 y6:Option Sl} (g:Good l) (a0:0<=a) (a1:a<l.length) (hP:kE (.str (Str.join "; " P))=none) (mP:eP P<=1000000) (h:∀ m,Q m (.bl true)) :
  nG { nx:=fun _=>Q .sh .non,rt:=Q } [o0,o1,o2,some (.ow true (.list (l.map bq))),some (.sh (.str (textOf l))),some (.sh (.int turn)),some (.sh (.int cell)),some (.sh (.int a)),some (.ow true (.list ((l.map bt).map .str))),some (.ow true (.list (P.map .str))),y6,none]:=by
 obtain⟨w,e⟩:∃ w,w=nq:=⟨_,rfl⟩
 unfold nG;rw[<- e];walk_at "q";refine .inl ⟨aN _,?_⟩;refine⟨_,rfl,fun x hx=>?_⟩;have pl:((l.map bt).length:Int)=l.length:=by rw[da]
 have pe:=yF (xs:=l.map bt) a0 (by lia) x;obtain⟨p1,p2⟩:=wg (l.map bt) a0;have l2:=g.l2;have bd:MB x:=hx.2;have xl:=hx.1;have mb:eP ((l.map bt).set a.toNat x)<=900000:=by have:=xu (P:=l.map bt) (i:=a.toNat) (x:=x);have:=g.hm;lia
 have nb:kE (.str (Str.join "; " ((l.map bt).set a.toNat x)))=none:=by rw[MS,if_pos (by lia)];exact kZ bd (fun q hq=>g.no q (CL hq)) (fun q hq=>g.no q (CH hq))
 walk_at "q";rw[nF,nF];generalize fi (l.map bt) none (some a)=A at *
 generalize fi (l.map bt) (some (a+1)) none=B at *
 rw[Ab,<- n9,pe];refine⟨by rw[da];lia,.inl ⟨aN _,.inl ⟨aN _,by rw[da,da,kg,zk];lia,.inl ⟨aN _,aN _,_,eG _,joined (by lia),_,eG _,joined mP,?_⟩⟩⟩⟩;refine⟨0,_,rfl,.inl ⟨rfl,.of (fE text_len mP),hP,?_⟩⟩;walk_at "q";refine⟨0,_,rfl,.inl ⟨rfl,.of (fE text_len (by lia)),nb,?_⟩⟩;walk_at "q";rw[e];exact GR g a0 a1 h
theorem Gu{Q:Md->D->Prop}{l l':List Rw}{turn cell a:Int}{o0 o1 o2 y6:Option Sl}(g:Good l)(a0:0<=a)(a1:a<l.length)(hn:∀ r∈l',gu r)(ll:l'.length=l.length)(ml:eP (l'.map bt)<=130000)(h:∀ m,Q m (.bl true)) :
  nO { nx:=fun _=>Q .sh .non,rt:=Q } [o0,o1,o2,some (.ow true (.list (l.map bq))),some (.sh (.str (textOf l))),some (.sh (.int turn)),some (.sh (.int cell)),some (.sh (.int a)),some (.ow true (.list ((l.map bt).map .str))),some (.ow true (.list ((l'.map bt).map .str))),y6,none]:=by
 obtain⟨w,e⟩:∃ w,w=nG:=⟨_,rfl⟩
 unfold nO;rw[<- e];walk_at "q";refine⟨by lia,_,rfl,fun x hx=>?_⟩;have b0:=mG (cell / 5) (show(l'.length:Int)+1≠0 by lia);have b1:=mE (cell / 5) (show(0:Int)<(l'.length:Int)+1 by lia);have l2:=g.l2;walk_at "q";generalize cell / 5 % ((l'.length:Int)+1)=b at *
 have xl:=hx.1;have no:∀ q∈l'.map bt,59∉sg q:=fun q hq=>by obtain⟨r,hr,rfl⟩:=iL.mp hq;exact mO (hn r hr)
 have em:oo ((l'.map bt).map D.str) b.toNat (D.str x)=((l'.map bt).take b.toNat++x :: (l'.map bt).drop b.toNat).map D.str:=by unfold oo;rw[n9,hV,Dp,List.map_drop]
 have mm:eP ((l'.map bt).take b.toNat++x :: (l'.map bt).drop b.toNat)<=1000000:=by
  have e:eP (l'.map bt)=eP ((l'.map bt).take b.toNat)+eP ((l'.map bt).drop b.toNat):=by rw[<- fO,MV]
  rw[fO,fD];lia
 rw[em,e];exact⟨by lia,by lia,by lia,GC g a0 a1 (kZ hx.2 (fun q hq=>no q (CL hq)) (fun q hq=>no q (CH hq))) mm h⟩
theorem GZ{Q:Md->D->Prop}{l l' m:List Rw}{turn cell a:Int}{o0 o1 o2:Option Sl}(g:Good l)(a0:0<=a)(a1:a<l.length)(hn:∀ r∈l',gu r)(ll:l'.length=l.length)(ml:eP (l'.map bt)<=130000)(ls:iF (.list (l'.map bq))=false)(mn:∀ r∈m,gu r)(me:m≠[])(mm:eP (m.map bt)<=130000)(ms:iF (.list (m.map bq))=false)(h:∀ m,Q m (.bl true)) :
  nj { nx:=fun _=>Q .sh .non,rt:=Q } [o0,o1,o2,some (.ow true (.list (l.map bq))),some (.sh (.str (textOf l))),some (.sh (.int turn)),some (.sh (.int cell)),some (.sh (.int a)),some (.ow true (.list ((l.map bt).map .str))),some (.ow true (.list ((l'.map bt).map .str))),some (.sh (.str (Str.join "; " (m.map bt)))),none]:=by
 obtain⟨w,e⟩:∃ w,w=nO:=⟨_,rfl⟩
 have ne':l'≠[]:=fun z=>by rw[z] at ll;have:=g.l1;simp at ll;lia
 unfold nj;rw[<- e];walk_at "q";refine⟨_,eG _,joined (by lia),?_⟩;refine⟨0,_,rfl,.inr (.inl ⟨rfl,.of (fE text_len (by lia)),⟨_,tV ne' hn,ls⟩,?_⟩)⟩;walk_at "q";refine⟨0,_,rfl,.inr (.inl ⟨rfl,.of (fE text_len (by lia)),⟨_,tV me mn,ms⟩,?_⟩)⟩;walk_at "q";rw[e];exact Gu g a0 a1 hn ll ml h
theorem wF{α:Type}(x:α):∀ n:Nat,(List.replicate n [x]).flatten=List.replicate n x
 |0=>rfl
 |n+1=>by rw[qA,se,wF x n];rfl
theorem G5{Q:Md->D->Prop}{l:List Rw}{turn cell a:Int}{o0 o1 o2:Option Sl}(g:Good l)(a0:0<=a)(a1:a<l.length)(h:∀ m,Q m (.bl true)) :
  nM { nx:=fun _=>Q .sh .non,rt:=Q } [o0,o1,o2,some (.ow true (.list (l.map bq))),some (.sh (.str (textOf l))),some (.sh (.int turn)),some (.sh (.int cell)),some (.sh (.int a)),none,none,none,none]:=by
 obtain⟨w,e⟩:∃ w,w=nj:=⟨_,rfl⟩
 obtain⟨n,hn⟩:∃ n:Int,n=2001:=⟨_,rfl⟩
 have tl:(textOf l).length<=120000:=fE text_len g.hm;unfold nM;rw[<- e,<- hn];walk_at "q";refine⟨by decide +kernel,by lia,?_⟩;rw[show Txt.split (textOf l) "; " = l.map bt from gZ (fun z=>g.ne (MZ.mp z)) g.no];have l2:=g.l2;refine .inl ⟨aN _,a,cell,rfl,a0,by lia,fun r hr=>?_⟩;have pl:((l.map bt).length:Int)=l.length:=by rw[da]
 have pe:=yF (xs:=l.map bt) a0 (by lia) (bt r);obtain⟨p1,p2⟩:=wg (l.map bt) a0;rw[<- List.map_set] at pe;have rl:=nU hr.1;have sn:∀ q∈l.set a.toNat r,gu q:=fun q hq=>by
  rcases List.mem_or_eq_of_mem_set hq with hq|rfl
  ·exact g.n q hq
  ·exact hr.1
 have sm:eP ((l.set a.toNat r).map bt)<=130000:=by rw[List.map_set];have:=xu (P:=l.map bt) (i:=a.toNat) (x:=bt r);have:=g.hm;lia
 have ss:iF (.list ((l.set a.toNat r).map bq))=false:=xJ (i:=a.toNat) (x:=bq r) (by rw[List.map_set,GH (by rw[da];lia)]) (by rw[x8 a0];exact hr.2);obtain⟨r0,e0,n0,w0⟩:∃ r0,eB ((l.map bt).map D.str) 0=some (.str (bt r0))/\gu r0/\(bt r0).length<=3:=by
  cases l with
  |nil=>exact absurd rfl g.ne
  |cons r0 l' =>
   refine⟨r0,P1 _ _,g.n r0 (by simp),?_⟩;have:=g.sc 0 r0 rfl
   match r0,this with
   |.st w d j,z=>exact absurd z.2.2 (by show ¬ (0<=j/\j<((0:Nat):Int));lia)
   |.nt j,z=>exact absurd z (by show ¬ (0<=j/\j<((0:Nat):Int));lia)
   |.jn w [],z =>show w.length<=3;rcases z.1 with rfl|rfl<;>decide +kernel
   |.jn w (p :: ps),z =>have:=z.2.2 p (by simp);lia
 walk_at "q";rw[nF,nF];generalize fi (l.map bt) none (some a)=A at *
 generalize fi (l.map bt) (some (a+1)) none=B at *
 rw[Ab,<- n9,pe];refine⟨by rw[da];lia,.inl ⟨aN _,.inl ⟨aN _,by rw[da,da,kg,zk];lia,.inl ⟨aN _,aN _,?_⟩⟩⟩⟩;refine⟨_,e0,?_⟩;walk_at "q";have em:(List.replicate n.toNat [D.str (bt r0)]).flatten=((List.replicate 2001 r0).map bt).map D.str:=by rw[hn,wF,Nc,Nc];rfl
 have mn:∀ q∈List.replicate 2001 r0,gu q:=fun q hq=>by rw[GA hq];exact n0
 have mm:eP ((List.replicate 2001 r0).map bt)<=130000:=by
  have:=vm ((List.replicate 2001 r0).map bt) 3 fun p hp=>by obtain⟨q,hq,rfl⟩:=iL.mp hp;rw[GA hq];exact w0
  rw[da,x4] at this;lia
 have ms:iF (.list ((List.replicate 2001 r0).map bq))=false:=yD (by rw[da,x4];decide);have me:List.replicate 2001 r0≠[]:=fun z=>by have:=congrArg List.length z;rw[x4] at this;exact absurd this (by decide)
 rw[em,e];generalize List.replicate 2001 r0=m at *
 exact⟨⟨by lia,by lia⟩,_,eG _,joined (by lia),GZ g a0 a1 sn (List.length_set) sm ss mn me mm ms h⟩
theorem I_{Q:Md->D->Prop}{l:List Rw}{ns:List Int}{o1 o2:Option Sl}(g:Good l)(h:∀ m,Q m (.bl true)) :
  sZ { nx:=fun _=>Q .sh .non,rt:=Q } [some (.sh (.list (ns.map .int))),o1,o2,some (.ow true (.list (l.map bq))),some (.sh (.str (textOf l))),none,none,none,none,none,none,none]:=by
 obtain⟨w,e⟩:∃ w,w=nM:=⟨_,rfl⟩
 unfold sZ;rw[<- e];walk_at "q";refine⟨ns,4,rfl,by decide,?_⟩;generalize ns.getD _ 0=c4;walk_at "q";refine⟨ns,5,rfl,by decide,?_⟩;generalize ns.getD _ 0=c5;walk_at "q";have l1:=g.l1;have a0:=mG c4 (show(l.length:Int)≠0 by lia);have a1:=mE c4 (show(0:Int)<l.length by lia);rw[e];exact⟨by lia,G5 g a0 a1 h⟩
theorem Hi{Q:Md->D->Prop}{l:List Rw}{ns:List Int}{o1 o2:Option Sl}(g:Good l)(h:∀ m,Q m (.bl true)) :
  rY { nx:=fun _=>Q .sh .non,rt:=Q } [some (.sh (.list (ns.map .int))),o1,o2,some (.ow true (.list (l.map bq))),none,none,none,none,none,none,none,none]:=by
 obtain⟨w,e⟩:∃ w,w=sZ:=⟨_,rfl⟩
 unfold rY yU;rw[<- e];walk_at "q";refine⟨l,rfl,g.n,g.l2,?_⟩;walk_at "q";refine⟨l,rfl,g.sc,g.l1,g.l2,by have:=g.hm;lia,?_⟩;walk_at "q";rw[e];exact I_ g h
theorem G9{Q:Md->D->Prop}{ns:List Int}{first:Int}{l:List Rw}{o2:Option Sl}(hl:kf l)(l1:1<=l.length)(l2:l.length<=1200)(hm:eP (l.map bt)<=100000)(h:∀ m,Q m (.bl true)) :
  qM { nx:=fun _=>Q .sh .non,rt:=Q } [some (.sh (.list (ns.map .int))),some (.sh (.int first)),o2,some (.ow true (.list (l.map bq))),none,none,none,none,none,none,none,none]:=by
 obtain⟨w5,e5⟩:∃ w,w=rY:=⟨_,rfl⟩
 unfold qM;rw[<- e5];walk_at "q";refine R.D (fun e=>?_) fun e=>?_
 ·walk_at "q";obtain⟨w,ew,hw⟩:∃ w:Str,eB [D.str (Str.ofString "and"),D.str (Str.ofString "or")] (first / 16 % 2)=some (.str w)/\(w = "and"\/w = "or"):=by
   have:first / 16 % 2=0\/first / 16 % 2=1:=by lia
   rcases this with e|e
   ·rw[e];exact⟨_,rfl,.inl rfl⟩
   ·rw[e];exact⟨_,rfl,.inr rfl⟩
  refine⟨_,ew,?_⟩;walk_at "q";refine zY (n:=200) (by lia) fun ps pl pk=>?_;rw[di ps];refine⟨rfl,by lia,?_⟩;rw[show l.map bq++[D.tup [.str w,.tup (ps.map .int)]]=(l++[Rw.jn w ps]).map bq by rw[n9];rfl,e5];have rn:gu (.jn w ps):=⟨hw,by lia,fun p hp=>⟨(pk p hp).1,by have:=(pk p hp).2;lia⟩⟩
  refine Hi ⟨hl.app ⟨hw,by lia,pk⟩,by simp,by simp;lia,?_⟩ h;have:=nU rn;rw[n9,fO,GO,fD,show eP []=0 from rfl];lia
 ·walk_at "q";rw[e5];exact Hi ⟨hl,l1,by lia,by lia⟩ h
theorem Jl{Q:Md->D->Prop}{ns:List Int}{first:Int}{l:List Rw}{o2:Option Sl}(hl:kf l)(l1:1<=l.length)(l2:l.length<=56)(h:∀ m,Q m (.bl true)) :
  qT { nx:=fun _=>Q .sh .non,rt:=Q } [some (.sh (.list (ns.map .int))),some (.sh (.int first)),o2,some (.ow true (.list (l.map bq))),none,none,none,none,none,none,none,none]:=by
 obtain⟨w4,e4⟩:∃ w,w=qM:=⟨_,rfl⟩
 have ml:=Ez (hl.n (by lia));unfold qT;rw[<- e4];walk_at "q";refine R.D (fun e=>?_) fun e=>?_
 ·walk_at "q";refine⟨by lia,by lia,?_⟩;refine k_ (fun n out=>∃ m:List Rw,out=m.map bq/\m.length=n/\kf (l++m)/\eP (m.map bt)<=n*10) (fun ρ=>∃ o,ρ=[o,some (.sh (.list (l.map bq)))]) _ 0 [] _ _ ⟨_,rfl⟩ ⟨[],rfl,rfl,by rw[kX];exact hl,by simp[eP]⟩ ?_ ?_
  ·rintro j y hy ρ ⟨o,rfl⟩ out ⟨m,rfl,hm,ok,mm⟩ N1 N2 oy;obtain⟨hj,rfl⟩:=iR hy;walk_at "q";have a0:=mG ((0+(j:Int))*(0+(j:Int)) % 7) (show(l.length:Int)≠0 by lia);have a1:=mE ((0+(j:Int))*(0+(j:Int)) % 7) (show(0:Int)<l.length by lia);generalize (0+(j:Int))*(0+(j:Int)) % 7 % (l.length:Int)=b at *
   refine⟨.inl ⟨by lia,by lia⟩,by lia,.inl rfl,oy _ _ ⟨_,rfl⟩ ⟨m++[Rw.nt ((l.length:Int)+(0+(j:Int))-1-b)],(by rw[n9];rfl),by simp[hm],?_,?_⟩⟩
   ·rw[<- A6];exact ok.app ⟨by lia,by rw[kg];lia⟩
   ·have:=GF (j:=(l.length:Int)+(0+(j:Int))-1-b) (by lia) (by lia);rw[n9,fO,GO,fD,show eP []=0 from rfl];lia
  rintro out ⟨m,e',hm,ok,mm⟩;simp only[GU] at e';subst e';rw[jg] at hm mm;refine⟨by rw[da];lia,.inl ⟨g_ l,g_ m,?_⟩⟩;rw[<- n9,e4];refine G9 ok (by simp;lia) (by simp;lia) ?_ h;rw[n9,fO];lia
 ·walk_at "q";rw[e4];exact G9 hl l1 (by lia) (by lia) h
theorem Ia:∀ ds Q,B9 ds Q->Dw { nx:=fun _=>Q .sh .non,rt:=Q } (aO 12 ds):=by
 rintro ds Q ⟨ns,rfl,hl,h⟩;obtain⟨w3,e3⟩:∃ w,w=qT:=⟨_,rfl⟩
 unfold Dw;rw[<- e3];walk_at "q";refine⟨ns,0,rfl,by decide,?_⟩;generalize ns.getD _ 0=c0;walk_at "q";refine⟨ns,1,rfl,by decide,?_⟩;generalize ns.getD _ 0=c1;walk_at "q";refine⟨ns,2,rfl,by decide,?_⟩;generalize ns.getD _ 0=c2;walk_at "q";refine⟨c1,c2,rfl,fun pool hp ho nd=>?_⟩;walk_at "q";refine .inl ⟨di ns,ns,3,rfl,by decide,?_⟩;generalize ns.getD _ 0=c3;walk_at "q";rw[Aj];have cl:=Ac ns;generalize fi ns (some 6) (some 61)=cs at *
 refine⟨by rw[da];lia,.inl ⟨di cs,by lia,.inl ⟨aN pool,cs++[c3],("*" : Str) :: pool,by rw[n9];rfl,by simp;lia,by simp,by simp;lia,fun n hn=>?_,fun l ll ls=>?_⟩⟩⟩
 ·rcases eK.mp hn with rfl|hn
  ·exact .inl rfl
  ·exact .inr (ho n hn)
 walk_at "q";rw[e3];rw[kg,zk] at ll;exact Jl ls (by lia) (by lia) h
def top(i:Nat):Stmt:=PySem.Challenge.pw_kinlook_k25_scrolls_as_text.main.body.getD i (.Pass ⟨0,0,0,0⟩)
abbrev lO:Stmt:=top 7
abbrev Bq:List Str:=["row"]
abbrev fG:Stmt:=top 12
abbrev qt:List Str:=["thing"]
abbrev gP:Stmt:=top 13
abbrev xW:List Str:=["thing"]
abbrev fj:Stmt:=top 15
abbrev uX:List Str:=["thing"]
abbrev fu:Stmt:=top 19
abbrev wj:List Str:=["k", "thing"]
abbrev dB:Stmt:=top 20
abbrev lW:List Str:=["k", "thing"]
abbrev jb:Stmt:=top 21
abbrev z_:List Str:=["k", "thing"]
abbrev dD:Stmt:=top 22
abbrev lV:List Str:=["thing"]
abbrev aQ:Stmt:=top 23
abbrev iU:List Str:=["thing"]
abbrev dH:Stmt:=top 27
abbrev mF:List Str:=["word"]
abbrev aW:Stmt:=top 28
abbrev jx:List Str:=["word"]
abbrev bR:Stmt:=top 29
abbrev lU:List Str:=["word"]
abbrev bu:Stmt:=top 31
abbrev jX:List Str:=["thing"]
abbrev dF:Stmt:=top 32
abbrev mC:List Str:=["row", "words"]
abbrev aR:Stmt:=top 33
abbrev fX:List Str:=["scroll"]
abbrev bV:Stmt:=top 34
abbrev jL:List Str:=["text", "words", "word"]
abbrev aV:Stmt:=top 35
abbrev gk:List Str:=["text", "rows"]
abbrev cF:Stmt:=top 37
abbrev pF:List Str:=["_law_script", "_law_k"]
abbrev b8:Stmt:=top 38
abbrev gW:List Str:=["_law_cell", "_law_turn", "_law_letters", "_law_size", "_law_places", "_law_k", "_law_word", "_law_at", "_law_found", "_law_sign"]
abbrev fc:Stmt:=top 39
abbrev vZ:List Str:=["_law_cell", "_law_k", "_law_names", "_law_number", "_law_more", "_law_j", "_law_way", "_law_parts", "_law_i"]
abbrev cz:Stmt:=top 40
abbrev ju:List Str:=["_law_cells", "_law_names"]
abbrev cH:Stmt:=top 41
abbrev oF:List Str:=["_law_some", "_law_k", "_law_j"]
abbrev cT:Stmt:=top 42
abbrev pL:List Str:=["_law_row_here", "_law_k"]
abbrev bN:Stmt:=top 43
abbrev lQ:List Str:=["_law_found", "_law_most", "_law_k"]
abbrev dG:Stmt:=top 44
abbrev mK:List Str:=["_law_scroll_here", "_law_parts", "_law_row_here", "_law_words", "_law_thing"]
abbrev bx:Stmt:=top 45
abbrev lg:List Str:=["_law_way", "_law_thing"]
abbrev dZ:Stmt:=top 46
abbrev uB:List Str:=["_law_way", "_law_thing", "_law_kinds", "e", "_law_other"]
abbrev bU:Stmt:=top 47
abbrev ni:List Str:=["_law_cell", "_law_some"]
abbrev bL:Stmt:=top 48
abbrev lF:List Str:=["_law_text_here", "_law_cell", "_law_some"]
abbrev bM:Stmt:=top 49
abbrev lB:List Str:=["_law_at", "_law_cell", "_law_some"]
abbrev dJ:Stmt:=top 50
abbrev rD:List Str:=["_law_scroll_here", "_law_at", "_law_cell", "_law_rows", "_law_some"]
abbrev dX:Stmt:=top 51
abbrev tK:List Str:=["_law_scroll_here", "_law_text_here", "_law_handed", "_law_told", "_law_found"]
abbrev oN:Stmt:=top 52
abbrev yx:List Str:=["_law_script", "_law_first", "_law_pool", "_law_scroll_here", "_law_text_here", "_law_turn", "_law_cell", "_law_at", "_law_parts", "_law_late", "_law_many", "_law_bad"]
abbrev rn:List Str:=["NoScroll", "NoText"]
structure Txt(K:PySem.W.Frag)(mg:Str->Option Value):Prop where
 FE:mg "ValueError" = none
 y8:mg "all" = none
 Cb:mg "bool" = none
 FG:mg "enumerate" = none
 A3:mg "int" = none
 iq:mg "isinstance" = none
 g9:mg "len" = none
 y9:mg "list" = none
 FH:mg "min" = none
 rX:mg "range" = none
 mr:mg "str" = none
 qq:mg "tuple" = none
 FI:ED mg "HIDDEN" "*"
 FK:ED mg "LETTERS" "abcdefghijklmnopqrstuvwxyz"
 FL:BQ mg "MOST_LETTERS" 6
 FP:BQ mg "MOST_ROWS" 2000
 FR:BQ mg "MOST_PARTS" 200
 FT:ED mg "FIGURES" "0123456789"
 FU:BQ mg "MOST_FIGURES" 4
 V7:P5 K mg "NoScroll"
 MG:P5 K mg "NoText"
 df':Hm K mg rn "KinError"
 dg':∀ n C,n∈rn->mg n=some (.ref C)->∃ c,mg "NoDeed" = some (.ref c)/\PySem.W.kitOne K (.ref C) (.ref c)=some (decide (n = "NoDeed"))
 dh':∀ n C,n∈rn->mg n=some (.ref C)->∃ c,mg "TooBig" = some (.ref c)/\PySem.W.kitOne K (.ref C) (.ref c)=some (decide (n = "TooBig"))
 di':∀ n C,n∈rn->mg n=some (.ref C)->PySem.W.kitOne K (.ref C) (.type "ValueError")=some true
 dk':∀ n C,n∈rn->mg n=some (.ref C)->∃ c,mg "NoScroll" = some (.ref c)/\PySem.W.kitOne K (.ref C) (.ref c)=some (decide (n = "NoScroll"))
 dl':∀ n C,n∈rn->mg n=some (.ref C)->∃ c,mg "NoText" = some (.ref c)/\PySem.W.kitOne K (.ref C) (.ref c)=some (decide (n = "NoText"))
section
variable {P:Program}{w:World}{K:PySem.W.Frag}{mg:Str->Option Value}{base:Heap}
theorem wJ:ft Bq ["row"] (aT lO):=⟨rfl,rfl,rfl,by decide +kernel,rfl,by decide +kernel,by decide +kernel⟩
theorem Bg {f:Addr} {fd:FuncData} (F:dQ K "drawn" "drawn" lO f fd) (T:Txt K mg)  : dA P w K mg base fP 1 f fd ["row"] (az K iW) :=
 iN.ok (t:=vD) F wJ zF (fun bT A outer s H E hr =>
  have nd:=wJ.nd;have hu:=hr.units
  (aj (bF (kR (gm (aM (fm (K:=K) hu) cA (eI hu (qv 0) au) aA (dP _)) (eF (aM (fm (K:=K) hu) cA (eI hu (qv 0) au) aA (dP _))))) (ao (aG (dq (aa (eI hu (qv 0) au) aq))))
   aD)
   (aj (bF (aM (fm (K:=K) hu) cA (eI hu (qv 0) au) aA (dP _))
   (ao (aG (dq (aa (eI hu (qv 0) au) aq))))
   aD)
   (ao (aG (dw qF zE rfl T.y9 rO (eI hu (qv 0) au))))))) Gg
theorem ql:ft qt ["thing"] (aT fG):=⟨rfl,rfl,rfl,by decide +kernel,rfl,by decide +kernel,by decide +kernel⟩
theorem yo {f:Addr} {fd:FuncData} (F:dQ K "is_open" "is_open" fG f fd) (T:Txt K mg)  : dA P w K mg base fP 1 f fd ["thing"] (az K fC) :=
 iN.ok (t:=jP) F ql vU (fun bT A outer s H E hr =>
  have nd:=ql.nd;have hu:=hr.units
  (aj (bF (kR (gm (cB (cN (gU T.iq (qv 0) (gF T.mr fV)))) (eF (cB (kJ jt jt qd qd au (aP aB b_ rfl T.g9 bZ (qv 0)) (LG T.FL)))))) (ao (aG hJ))
   aD)
   (ao (aG (aP KL wH rfl T.y8 wD (il (tn:=["sign"]) (cn:=[]) (ix:=[]) rfl (qC (CW (qv 0))) (cC.of (sc:=aT fG) (N:=qt) rfl rfl (by decide +kernel)) (fun _ _ _ _=>(bK (i:=0) (show(["sign"]:List Str).Nodup by decide +kernel) rfl (Or.inl rfl) (.inr rfl))) (fun _ _ _ _=>dR) (fun _ _ _ _=>(kh (gS (K:=K) hu) Bf (qv 0) (PD T.FK) (by rfl))))))))) zQ
theorem oJ:ft uX ["thing"] (aT fj):=⟨rfl,rfl,rfl,by decide +kernel,rfl,by decide +kernel,by decide +kernel⟩
theorem vd {f:Addr} {fd:FuncData} (F:dQ K "is_whole" "is_whole" fj f fd) (T:Txt K mg)  : dA P w K mg base fP 1 f fd ["thing"] (az K dW) :=
 iN.ok (t:=lN) F oJ uR (fun bT A outer s H E hr =>
  have nd:=oJ.nd;have hu:=hr.units
  (ao (aG (jU (gU T.iq (qv 0) (gF T.A3 xq)) (mZ (Ju (gU T.iq (qv 0) (gF T.Cb zK)))))))) yf
theorem mJ:ft mF ["word"] (aT dH):=⟨rfl,rfl,rfl,by decide +kernel,rfl,by decide +kernel,by decide +kernel⟩
theorem tM {f:Addr} {fd:FuncData} (F:dQ K "is_number" "is_number" dH f fd) (T:Txt K mg)  : dA P w K mg base fP 1 f fd ["word"] (az K cR) :=
 iN.ok (t:=jE) F mJ sJ (fun bT A outer s H E hr =>
  have nd:=mJ.nd;have hu:=hr.units
  (aj (bF (cB (kJ jt jt qd qd au (aP aB b_ rfl T.g9 bZ (qv 0)) (LG T.FU))) (ao (aG hJ))
   aD)
   (aj (bF (cB (cN (aP KL wH rfl T.y8 wD (il (tn:=["sign"]) (cn:=[]) (ix:=[]) rfl (qC (CW (qv 0))) (cC.of (sc:=aT dH) (N:=mF) rfl rfl (by decide +kernel)) (fun _ _ _ _=>(bK (i:=0) (show(["sign"]:List Str).Nodup by decide +kernel) rfl (Or.inl rfl) (.inr rfl))) (fun _ _ _ _=>dR) (fun _ _ _ _=>(kh (gS (K:=K) hu) Bf (qv 0) (PD T.FT) (by rfl)))))))
   (ao (aG hJ))
   aD)
   (ao (aG (Vb (kh (fm (K:=K) hu) cA (qv 0) aA (dP _)) (mZ (kh (xo (K:=K) hu) sU (eI hu (qv 0) au) aA (dP _))))))))) vA
theorem j_:ft jX ["thing"] (aT bu):=⟨rfl,rfl,rfl,by decide +kernel,rfl,by decide +kernel,by decide +kernel⟩
theorem tG {f:Addr} (T:Txt K mg)  (bT:Value) (A:Around) (outer:List PySem.Env) (s:Shared) (H:Hp) (E:XK) (hr:fe 0 (A.deeper (envOfC "check_text" (aT bu) s.heap.objs.size f bT))) :
  lT (i9 (fN P w mg rn) P w K mg base jX "check_text" (aT bu) f bT A outer s H E) K (LX rn mg E) (ek bu) iy :=
 have nd:=j_.nd;have hu:(A.deeper (envOfC "check_text" (aT bu) s.heap.objs.size f bT)).units+64<cLine:=hr.units
 (ao (bF (cB (cN (gU T.iq (qv 0) (gF T.mr fV)))) (ao (i_ rfl qJ T.MG (.tail _ (.head _)) aA))
   aD))
theorem qY {f:Addr} {fd:FuncData} (F:dQ K "check_text" "check_text" bu f fd) (T:Txt K mg)  : dA P w K mg base (fN P w mg rn) 1 f fd ["thing"] (dh K rn mg cu) :=
 y0.ok F j_ pN (tG T ) uN
theorem iB:ft pF ["_law_script", "_law_k"] (aT cF):=⟨rfl,rfl,rfl,by decide +kernel,rfl,by decide +kernel,by decide +kernel⟩
theorem pG {f:Addr} {fd:FuncData} (F:dQ K "_law_cell_at" "_law_cell_at" cF f fd) (T:Txt K mg)  : dA P w K mg base fP 1 f fd ["_law_script", "_law_k"] (az K aH) :=
 iN.ok (t:=gh) F iB m_ (fun bT A outer s H E hr =>
  have nd:=iB.nd;have hu:=hr.units
  (aj (bF (aM uh yP (qv 1) (aP aB b_ rfl T.g9 bZ (qv 0)) (dP _)) (ao (aG (eI hu (qv 0) (qv 1))))
   aD)
   (ao (aG au)))) pQ
theorem km:ft gW ["_law_cell", "_law_turn"] (aT b8):=⟨rfl,rfl,rfl,by decide +kernel,rfl,by decide +kernel,by decide +kernel⟩
theorem rF {f:Addr} {fd:FuncData} (F:dQ K "_law_deeds" "_law_deeds" b8 f fd) (T:Txt K mg)  : dA P w K mg base fP 1 f fd ["_law_cell", "_law_turn"] (az K cY) :=
 iN.ok (t:=iT) F km pP (fun bT A outer s H E hr =>
  have nd:=km.nd;have hu:=hr.units
  (aj (aK (i:=2) nd rfl (Or.inr rfl) aA) (aj (aK (i:=3) nd rfl (Or.inl rfl) (bW au (dO (qv 0) au))) (aj (aK (i:=0) nd rfl (Or.inl rfl) (lE (qv 0) au)) (aj (aK (i:=4) nd rfl (Or.inl rfl) (dq aq)) (aj (oH PassesOwn.never rfl (jF T.rX (qv 3)) (bK (i:=5) nd rfl (Or.inl rfl)) (aj (lu (fY (pv 4)) (dO (qv 0) au)) (ao (aK (i:=0) nd rfl (Or.inl rfl) (lE (qv 0) au))))) (aj (aK (i:=6) nd rfl (Or.inr rfl) (jy aA (il (tn:=["_law_k"]) (cn:=["_law_letters"]) (ix:=[2]) rfl (oK (qv 4)) (cC.of (sc:=aT b8) (N:=gW) rfl rfl (by decide +kernel)) (fun _ _ _ _=>(bK (i:=0) (show(["_law_k", "_law_letters"]:List Str).Nodup by decide +kernel) rfl (Or.inl rfl) (.inr rfl))) (fun _ _ _ _=>dR) (fun _ _ _ _=>(eI hu (qv 1) (qv 0)))))) (aj (bF (aM (fm (K:=K) hu) cA (dO (lE (qv 1) au) au) au (dP _)) (ao (aG (il (tn:=["_law_k"]) (cn:=["_law_word"]) (ix:=[6]) rfl (qC (Fv T.rX au au)) (cC.of (sc:=aT b8) (N:=gW) rfl rfl (by decide +kernel)) (fun _ _ _ _=>(bK (i:=0) (show(["_law_k", "_law_word"]:List Str).Nodup by decide +kernel) rfl (Or.inl rfl) (.inr rfl))) (fun _ _ _ _=>dR) (fun _ _ _ _=>(dg (Gn au (qv 1)) dI (cO (qv 0)))))))
   aD)
   (aj (aK (i:=7) nd rfl (Or.inl rfl) (dO (qv 1) (qv 3)))
   (aj (aK (i:=8) nd rfl (Or.inl rfl) (dq aq))
   (aj (oH PassesOwn.never rfl (jF T.rX au) (bK (i:=5) nd rfl (Or.inl rfl))
   (aj (aK (i:=9) nd rfl (Or.inl rfl) (eI hu (qv 2) (dO (bW (eI hu (qv 4) (qv 7)) (yg au (qv 5))) au)))
   (ao (lu (fY (pv 8)) (bW (bW (dg (qv 6) dI (cO (qv 7))) (qv 9)) (dg (qv 6) (cO (bW (qv 7) au)) dI))))))
   (ao (uW (pv 8)))))))))))))) uc
theorem pA:ft vZ ["_law_cell", "_law_k", "_law_names"] (aT fc):=⟨rfl,rfl,rfl,by decide +kernel,rfl,by decide +kernel,by decide +kernel⟩
theorem wy {f:Addr} {fd:FuncData} (F:dQ K "_law_row" "_law_row" fc f fd) (T:Txt K mg)  : dA P w K mg base fP 1 f fd ["_law_cell", "_law_k", "_law_names"] (az K dY) :=
 iN.ok (t:=lz) F pA uL (fun bT A outer s H E hr =>
  have nd:=pA.nd;have hu:=hr.units
  (aj (aK (i:=3) nd rfl (Or.inl rfl) (dO (yg (bW (dO (qv 0) au) au) (bW au (yg au (qv 1)))) au)) (aj (aK (i:=4) nd rfl (Or.inl rfl) (dO (yg (qv 3) au) au)) (aj (bF (aM (fm (K:=K) hu) cA (qv 1) au (dP _)) (ao (aG (eI hu (dq (aa (eQ (aa aA (aa (eQ aq) aq))) (aa (eQ (aa aA (aa (eQ aq) aq))) aq))) (dO (qv 3) au))))
   aD)
   (aj (aK (i:=5) nd rfl (Or.inl rfl) (dO (qv 4) (qv 1)))
   (aj (bF (aM (fm (K:=K) hu) cA (dO (lE (qv 3) au) au) au (dP _))
   (ao (aK (i:=5) nd rfl (Or.inl rfl) (xU (xU (qv 1) au) (dO (qv 4) (Di G3 E_ rfl T.FH Hr (qv 1) au)))))
   aD)
   (aj (aK (i:=6) nd rfl (Or.inl rfl) (dO (qv 3) au))
   (aj (bF (aM uh yP (qv 6) au (dP _))
   (ao (Af (P0 (eI hu (dq (aa aA (aa aA aq))) (lE (qv 6) au)) (P0 (eI hu (qv 2) (dO (lE (qv 3) au) (aP aB b_ rfl T.g9 bZ (qv 2)))) (Vl (pv 5) Dc)))))
   aD)
   (aj (bF (aM (fm (K:=K) hu) cA (qv 6) au (dP _))
   (ao (Af (P0 aA (Vl (pv 5) Dc))))
   aD)
   (aj (aK (i:=7) nd rfl (Or.inl rfl) (dq aq))
   (aj (oH PassesOwn.never rfl (jF T.rX (dO (lE (qv 3) au) au)) (bK (i:=8) nd rfl (Or.inl rfl))
   (aj (mD 5 (lu (fY (pv 7)) (qv 5)))
   (ao (aK (i:=5) nd rfl (Or.inl rfl) (dO (bW (yg au (qv 5)) (lE (qv 4) (bW (qv 8) au))) (qv 1))))))
   (ao (aG (eQ (aa (eI hu (dq (aa aA (aa aA aq))) (xU (qv 6) au)) (aa (dw xn nP rfl T.qq eY (qv 7)) aq)))))))))))))))) xQ
theorem iV:ft oF ["_law_some", "_law_k"] (aT cH):=⟨rfl,rfl,rfl,by decide +kernel,rfl,by decide +kernel,by decide +kernel⟩
theorem oV {f:Addr} {fd:FuncData} (F:dQ K "_law_numbers" "_law_numbers" cH f fd) (T:Txt K mg)  : dA P w K mg base fP 1 f fd ["_law_some", "_law_k"] (az K aZ) :=
 iN.ok (t:=fZ) F iV mU (fun bT A outer s H E hr =>
  have nd:=iV.nd;have hu:=hr.units
  (aj (mD 0 (oH PassesOwn.never rfl (CP (qv 0)) (bK (i:=2) nd rfl (Or.inl rfl)) (ao (bF (kR (gm (cB (cN (gU T.iq (qv 2) (gF T.A3 xq)))) (gm (cN (gU T.iq (qv 2) (gF T.Cb zK))) (eF (cB (kJ jt uh qd yP au (qv 2) (qv 1))))))) (ao (aG hJ))
   aD))))
   (ao (aG hJ)))) pR
theorem mq:ft mK ["_law_scroll_here"] (aT dG):=⟨rfl,rfl,rfl,by decide +kernel,rfl,by decide +kernel,by decide +kernel⟩
theorem ur {f:Addr} {fd:FuncData} (F:dQ K "_law_text" "_law_text" dG f fd) (T:Txt K mg)  : dA P w K mg base fP 1 f fd ["_law_scroll_here"] (az K cQ) :=
 iN.ok (t:=jB) F mq rZ (fun bT A outer s H E hr =>
  have nd:=mq.nd;have hu:=hr.units
  (aj (aK (i:=1) nd rfl (Or.inl rfl) (dq aq)) (aj (mD 0 (oH PassesOwn.never rfl (Dz (qv 0)) (bK (i:=2) nd rfl (Or.inl rfl)) (aj (aK (i:=3) nd rfl (Or.inl rfl) (dq (aa (eI hu (qv 2) au) aq))) (aj (mD 2 (oH PassesOwn.never rfl (CP (dg (qv 2) (cO au) dI)) (bK (i:=4) nd rfl (Or.inl rfl)) (ao (bF (cN (gU T.iq (qv 4) (gF T.qq eY))) (ao (aK (i:=3) nd rfl (Or.inl rfl) (bW (qv 3) (il (tn:=["_law_j"]) (cn:=[]) (ix:=[]) rfl (CG (qv 4)) (cC.of (sc:=aT dG) (N:=mK) rfl rfl (by decide +kernel)) (fun _ _ _ _=>(bK (i:=0) (show(["_law_j"]:List Str).Nodup by decide +kernel) rfl (Or.inl rfl) (.inr rfl))) (fun _ _ _ _=>dR) (fun _ _ _ _=>(dw gQ lM rfl T.mr fV (qv 0))))))) (ao (bF (cN (gU T.iq (qv 4) (gF T.mr fV))) (ao (mD 4 (lu (fY (pv 3)) (qv 4)))) (ao (lu (fY (pv 3)) (dw gQ lM rfl T.mr fV (qv 4)))))))))) (ao (lu (fY (pv 1)) (jy aA (qv 3)))))))) (ao (aG (jy aA (qv 1))))))) vo
theorem ir:ft ni ["_law_cell"] (aT bU):=⟨rfl,rfl,rfl,by decide +kernel,rfl,by decide +kernel,by decide +kernel⟩
theorem mV {f:Addr} {fd:FuncData} (F:dQ K "_law_bad_part" "_law_bad_part" bU f fd) (T:Txt K mg)  : dA P w K mg base fP 1 f fd ["_law_cell"] (az K a_) :=
 iN.ok (t:=fJ) F ir lG (fun bT A outer s H E hr =>
  have nd:=ir.nd;have hu:=hr.units
  (by(refine aj ?_ ?_);(with_reducible refine aK (i:=1) ?_ ?_ ?_ ?_ ?_ ?_);(exact nd);(rfl);(exact Or.inl rfl);(with_reducible refine dq ?_);(with_reducible refine aa ?_ ?_ ?_);(exact aA);(with_reducible refine aa ?_ ?_ ?_);(exact aA);(with_reducible refine aa ?_ ?_ ?_);(exact aA);(with_reducible refine aa ?_ ?_ ?_);(exact aA);(with_reducible refine aa ?_ ?_ ?_);(exact aA);(with_reducible refine aa ?_ ?_ ?_);(exact aA);(with_reducible refine aa ?_ ?_ ?_);(exact aA);(with_reducible refine aa ?_ ?_ ?_);(exact aA);(with_reducible refine aa ?_ ?_ ?_);(exact aA);(with_reducible refine aa ?_ ?_ ?_);(exact aA);(with_reducible refine aa ?_ ?_ ?_);(exact aA);(exact aq);(rfl);(rfl);(rfl);(rfl);(rfl);(rfl);(rfl);(rfl);(rfl);(rfl);(rfl);(rfl);(first|exact .inl rfl|exact .inr rfl);(exact(by(refine aj ?_ ?_);(with_reducible refine Bl (i:=1) ?_ ?_ ?_ ?_ ?_ ?_ ?_ ?_);(exact nd);(rfl);(exact Or.inl rfl);(exact(pv 1));(with_reducible refine dq ?_);(with_reducible refine aa ?_ ?_ ?_);(exact aA);(with_reducible refine aa ?_ ?_ ?_);(exact aA);(with_reducible refine aa ?_ ?_ ?_);(exact aA);(with_reducible refine aa ?_ ?_ ?_);(exact aA);(with_reducible refine aa ?_ ?_ ?_);(exact aA);(with_reducible refine aa ?_ ?_ ?_);(exact aA);(with_reducible refine aa ?_ ?_ ?_);(exact aA);(with_reducible refine aa ?_ ?_ ?_);(exact aA);(with_reducible refine aa ?_ ?_ ?_);(exact aA);(exact aq);(rfl);(rfl);(rfl);(rfl);(rfl);(rfl);(rfl);(rfl);(rfl);(rfl);(rfl);(first|exact .inl rfl|exact .inr rfl);(exact(by(refine ao ?_);(refine oG ?_ ?_ ?_ ?_ ?_);(exact(pv 1));(with_reducible refine dq ?_);(with_reducible refine aa ?_ ?_ ?_);(exact aA);(with_reducible refine aa ?_ ?_ ?_);(exact aA);(with_reducible refine aa ?_ ?_ ?_);(exact aA);(with_reducible refine aa ?_ ?_ ?_);(exact aA);(with_reducible refine aa ?_ ?_ ?_);(exact aA);(with_reducible refine aa ?_ ?_ ?_);(exact aA);(exact aq);(rfl);(rfl);(rfl);(rfl);(rfl);(rfl);(exact(dO (qv 0) au));(exact fun _ _=>rfl);(rfl))))))) nQ
theorem gq:ft lF ["_law_text_here", "_law_cell"] (aT bL):=⟨rfl,rfl,rfl,by decide +kernel,rfl,by decide +kernel,by decide +kernel⟩
theorem lD {f:Addr} {fd:FuncData} (F:dQ K "_law_bad_whole" "_law_bad_whole" bL f fd) (T:Txt K mg)  : dA P w K mg base fP 1 f fd ["_law_text_here", "_law_cell"] (az K bC) :=
 iN.ok (t:=eV) F gq jO (fun bT A outer s H E hr =>
  have nd:=gq.nd;have hu:=hr.units
  (aj (aK (i:=2) nd rfl (Or.inl rfl) (dq (aa (bW (qv 0) aA) (aa (bW aA (qv 0)) (aa (bW (qv 0) aA) (aa (bW aA (qv 0)) (aa (bW aA (qv 0)) (aa (bW (qv 0) aA) (aa (bW (qv 0) aA) (aa BZ (aa au aq))))))))))) (ao (oG (pv 2) (dq (aa (dq (aa aA aq)) (aa aA (aa hJ aq)))) (dO (qv 1) au))))) mY
theorem gM:ft lB ["_law_at", "_law_cell"] (aT bM):=⟨rfl,rfl,rfl,by decide +kernel,rfl,by decide +kernel,by decide +kernel⟩
theorem lA {f:Addr} {fd:FuncData} (F:dQ K "_law_late_part" "_law_late_part" bM f fd) (T:Txt K mg)  : dA P w K mg base fP 1 f fd ["_law_at", "_law_cell"] (az K bz) :=
 iN.ok (t:=eU) F gM jY (fun bT A outer s H E hr =>
  have nd:=gM.nd;have hu:=hr.units
  (aj (aK (i:=2) nd rfl (Or.inl rfl) (dq (aa (bW aA (dw gQ lM rfl T.mr fV (qv 0))) (aa (bW aA (dw gQ lM rfl T.mr fV (bW (qv 0) au))) (aa (bW aA (dw gQ lM rfl T.mr fV (qv 0))) (aa aA aq)))))) (ao (aG (eI hu (bW (qv 2) (dq (aa (bW aA (jy aA (Ai (dq (aa aA aq)) au))) aq))) (dO (qv 1) au)))))) m7
theorem kW:ft rD ["_law_scroll_here", "_law_at", "_law_cell"] (aT dJ):=⟨rfl,rfl,rfl,by decide +kernel,rfl,by decide +kernel,by decide +kernel⟩
theorem rJ {f:Addr} {fd:FuncData} (F:dQ K "_law_worse" "_law_worse" dJ f fd) (T:Txt K mg)  : dA P w K mg base fP 1 f fd ["_law_scroll_here", "_law_at", "_law_cell"] (az K cW) :=
 iN.ok (t:=iD) F kW qb (fun bT A outer s H E hr =>
  have nd:=kW.nd;have hu:=hr.units
  (aj (mD 1 (aK (i:=3) nd rfl (Or.inl rfl) (dq (aa (eQ (aa aA (aa (qv 1) aq))) (aa (eQ (aa aA (aa (eQ aq) aq))) (aa (eQ (aa aA (aa (eQ (aa (Gr au) aq)) aq))) (aa (eQ (aa aA (aa aA (aa (Gr au) aq)))) (aa (eQ (aa aA (aa (dq (aa au aq)) aq))) (aa (eQ (aa aA aq)) (aa (eQ (aa aA (aa aA (aa au aq)))) (aa BZ aq) (hs:=wI)) (hs:=wI)))))))))) (aj (aK (i:=4) nd rfl (Or.inl rfl) (dq (aa BZ (aa (dq aq) (aa (dw xn nP rfl T.qq eY (qv 0)) (aa (Ai (dq (aa (eQ (aa aA (aa (eQ aq) aq))) aq)) au) (aa aA (aa au (aa Ec aq))))))))) (aj (bF (aM (fm (K:=K) hu) cA (dO (qv 2) au) au (dP _)) (ao (Ba (pv 4) (dO (lE (qv 2) au) au)))
   aD)
   (ao (mD 3 (aG (bW (L3 (bW (L3 (dg (qv 0) dI (cO (qv 1)))) (L3 (dq (aa (eI hu (qv 3) (dO (lE (qv 2) au) au)) aq))))) (L3 (dg (qv 0) (cO (bW (qv 1) au)) dI)))))))))) tE
theorem qz:ft xW ["thing"] (aT gP):=⟨rfl,rfl,rfl,by decide +kernel,rfl,by decide +kernel,by decide +kernel⟩
theorem xV {f:Addr} {fd:FuncData} (F:dQ K "is_deed" "is_deed" gP f fd) (T:Txt K mg) (dm':de P w K mg base 1 "is_open" ["thing"] (az K fC)):dA P w K mg base fP 2 f fd ["thing"] (az K cU) :=
 iN.ok (t:=jR) F qz vL (fun bT A outer s H E hr =>
  have nd:=qz.nd;have hu:=hr.units
  (ao (aG (Vb (bO dm' (hr.mono (by decide)) (aa (qv 0) aq)) (mZ (jU (gU T.iq (qv 0) (gF T.mr fV)) (mZ (kh (fm (K:=K) hu) cA (qv 0) (PD T.FI) (dP _))))))))) yQ
theorem pD:ft wj ["k", "thing"] (aT fu):=⟨rfl,rfl,rfl,by decide +kernel,rfl,by decide +kernel,by decide +kernel⟩
theorem uZ {f:Addr} {fd:FuncData} (F:dQ K "is_ahead" "is_ahead" fu f fd) (T:Txt K mg) (dn':de P w K mg base 1 "is_whole" ["thing"] (az K dW)):dA P w K mg base fP 2 f fd ["k", "thing"] (az K cj) :=
 iN.ok (t:=lK) F pD tU (fun bT A outer s H E hr =>
  have nd:=pD.nd;have hu:=hr.units
  (ao (aG (jU (bO dn' (hr.mono (by decide)) (aa (qv 1) aq)) (mZ (DR jt uh qd yP au (qv 1) (qv 0))))))) xR
theorem jo:ft jx ["word"] (aT aW):=⟨rfl,rfl,rfl,by decide +kernel,rfl,by decide +kernel,by decide +kernel⟩
theorem qO {f:Addr} (T:Txt K mg) (Qr:de P w K mg base 1 "is_number" ["word"] (az K cR)) (bT:Value) (A:Around) (outer:List PySem.Env) (s:Shared) (H:Hp) (E:XK) (hr:fe 1 (A.deeper (envOfC "read_number" (aT aW) s.heap.objs.size f bT))) :
  lT (i9 (fN P w mg rn) P w K mg base jx "read_number" (aT aW) f bT A outer s H E) K (LX rn mg E) (ek aW) ie :=
 have nd:=jo.nd;have hu:(A.deeper (envOfC "read_number" (aT aW) s.heap.objs.size f bT)).units+64<cLine:=hr.units
 (aj (bF (cB (cN (bO Qr (hr.mono (by decide)) (aa (qv 0) aq)))) (ao (i_ rfl qJ T.MG (.tail _ (.head _)) aA))
   aD)
   (ao (aG (dw z7 Ew rfl T.A3 xq (qv 0)))))
theorem qe {f:Addr} {fd:FuncData} (F:dQ K "read_number" "read_number" aW f fd) (T:Txt K mg) (Qr:de P w K mg base 1 "is_number" ["word"] (az K cR)):dA P w K mg base (fN P w mg rn) 2 f fd ["word"] (dh K rn mg aJ) :=
 y0.ok F jo ou (qO T Qr) sY
theorem mL:ft mC ["row"] (aT dF):=⟨rfl,rfl,rfl,by decide +kernel,rfl,by decide +kernel,by decide +kernel⟩
theorem uq {f:Addr} {fd:FuncData} (F:dQ K "shown_row" "shown_row" dF f fd) (T:Txt K mg) (dp':de P w K mg base 1 "drawn" ["row"] (az K iW)):dA P w K mg base fP 2 f fd ["row"] (az K bh) :=
 iN.ok (t:=jC) F mL qU (fun bT A outer s H E hr =>
  have nd:=mL.nd;have hu:=hr.units
  (aj (aK (i:=1) nd rfl (Or.inl rfl) (dq (aa (eI hu (qv 0) au) aq))) (aj (bF (kR (gm (aM (fm (K:=K) hu) cA (eI hu (qv 0) au) aA (dP _)) (eF (aM (fm (K:=K) hu) cA (eI hu (qv 0) au) aA (dP _))))) (ao (lu (fY (pv 1)) (eI hu (qv 0) au)))
   aD)
   (ao (aG (jy aA (bW (qv 1) (il (tn:=["part"]) (cn:=[]) (ix:=[]) rfl (oK (bO dp' (hr.mono (by decide)) (aa (qv 0) aq))) (cC.of (sc:=aT dF) (N:=mC) rfl rfl (by decide +kernel)) (fun _ _ _ _=>(bK (i:=0) (show(["part"]:List Str).Nodup by decide +kernel) rfl (Or.inl rfl) (.inr rfl))) (fun _ _ _ _=>dR) (fun _ _ _ _=>(dw gQ lM rfl T.mr fV (qv 0))))))))))) uY
theorem jr:ft ju ["_law_cells", "_law_names"] (aT cz):=⟨rfl,rfl,rfl,by decide +kernel,rfl,by decide +kernel,by decide +kernel⟩
theorem pY {f:Addr} {fd:FuncData} (F:dQ K "_law_scroll" "_law_scroll" cz f fd) (T:Txt K mg) (dq':de P w K mg base 1 "_law_row" ["_law_cell", "_law_k", "_law_names"] (az K dY)):dA P w K mg base fP 2 f fd ["_law_cells", "_law_names"] (az K cD) :=
 iN.ok (t:=h_) F jr nR (fun bT A outer s H E hr =>
  have nd:=jr.nd;have hu:=hr.units
  (ao (aG (il (tn:=["_law_k"]) (cn:=["_law_cells", "_law_names"]) (ix:=[0,1]) rfl (qC (jF T.rX (aP aB b_ rfl T.g9 bZ (qv 0)))) (cC.of (sc:=aT cz) (N:=ju) rfl rfl (by decide +kernel)) (fun _ _ _ _=>(bK (i:=0) (show(["_law_k", "_law_cells", "_law_names"]:List Str).Nodup by decide +kernel) rfl (Or.inl rfl) (.inr rfl))) (fun _ _ _ _=>dR) (fun _ _ _ _=>(bO dq' (hr.mono (by decide)) (aa (eI hu (qv 1) (qv 0)) (aa (qv 0) (aa (qv 2) aq))))))))) sS
theorem jl:ft pL ["_law_row_here", "_law_k"] (aT cT):=⟨rfl,rfl,rfl,by decide +kernel,rfl,by decide +kernel,by decide +kernel⟩
theorem pU {f:Addr} {fd:FuncData} (F:dQ K "_law_is_row" "_law_is_row" cT f fd) (T:Txt K mg) (Qs:de P w K mg base 1 "_law_numbers" ["_law_some", "_law_k"] (az K aZ)):dA P w K mg base fP 2 f fd ["_law_row_here", "_law_k"] (az K cG) :=
 iN.ok (t:=ig) F jl pC (fun bT A outer s H E hr =>
  have nd:=jl.nd;have hu:=hr.units
  (aj (bF (kR (gm (cB (cN (gU T.iq (qv 0) (gF T.qq eY)))) (gm (aM uh yP (aP aB b_ rfl T.g9 bZ (qv 0)) au (dP _)) (eF (cB (cN (gU T.iq (eI hu (qv 0) au) (gF T.mr fV)))))))) (ao (aG hJ))
   aD)
   (aj (bF (aM (gS (K:=K) hu) Bf (eI hu (qv 0) au) (eQ (aa aA (aa aA aq))) (by rfl))
   (ao (aG (jU (kh (fm (K:=K) hu) cA (aP aB b_ rfl T.g9 bZ (qv 0)) au (dP _)) (jU (gU T.iq (eI hu (qv 0) au) (gF T.qq eY)) (mZ (bO Qs (hr.mono (by decide)) (aa (eI hu (qv 0) au) (aa (qv 1) aq))))))))
   aD)
   (aj (bF (aM (fm (K:=K) hu) cA (eI hu (qv 0) au) aA (dP _))
   (ao (aG (jU (kh (fm (K:=K) hu) cA (aP aB b_ rfl T.g9 bZ (qv 0)) au (dP _)) (mZ (bO Qs (hr.mono (by decide)) (aa (dg (qv 0) (cO au) dI) (aa (qv 1) aq)))))))
   aD)
   (ao (aG (jU (kh (gS (K:=K) hu) Bf (eI hu (qv 0) au) (eQ (aa aA (aa aA aq))) (by rfl)) (jU (kh (fm (K:=K) hu) cA (aP aB b_ rfl T.g9 bZ (qv 0)) au (dP _)) (jU (gU T.iq (eI hu (qv 0) au) (gF T.mr fV)) (mZ (bO Qs (hr.mono (by decide)) (aa (dg (qv 0) (cO au) dI) (aa (qv 1) aq))))))))))))) sy
theorem mQ:ft lW ["k", "thing"] (aT dB):=⟨rfl,rfl,rfl,by decide +kernel,rfl,by decide +kernel,by decide +kernel⟩
theorem uC {f:Addr} {fd:FuncData} (F:dQ K "are_parts" "are_parts" dB f fd) (T:Txt K mg) (ML:de P w K mg base 2 "is_ahead" ["k", "thing"] (az K cj)):dA P w K mg base fP 3 f fd ["k", "thing"] (az K dM) :=
 iN.ok (t:=jA) F mQ qL (fun bT A outer s H E hr =>
  have nd:=mQ.nd;have hu:=hr.units
  (aj (bF (kR (gm (cB (cN (gU T.iq (qv 1) (gF T.qq eY)))) (eF (aM Ht JR (aP aB b_ rfl T.g9 bZ (qv 1)) (LG T.FR) (dP _))))) (ao (aG hJ))
   aD)
   (ao (aG (aP KL wH rfl T.y8 wD (il (tn:=["part"]) (cn:=["k"]) (ix:=[0]) rfl (CG (qv 1)) (cC.of (sc:=aT dB) (N:=lW) rfl rfl (by decide +kernel)) (fun _ _ _ _=>(bK (i:=0) (show(["part", "k"]:List Str).Nodup by decide +kernel) rfl (Or.inl rfl) (.inr rfl))) (fun _ _ _ _=>dR) (fun _ _ _ _=>(bO ML (hr.mono (by decide)) (aa (qv 1) (aa (qv 0) aq)))))))))) vY
theorem my:ft lU ["word"] (aT bR):=⟨rfl,rfl,rfl,by decide +kernel,rfl,by decide +kernel,by decide +kernel⟩
theorem vg {f:Addr} (T:Txt K mg) (FV:de P w K mg base 2 "is_deed" ["thing"] (az K cU)) (bT:Value) (A:Around) (outer:List PySem.Env) (s:Shared) (H:Hp) (E:XK) (hr:fe 2 (A.deeper (envOfC "read_deed" (aT bR) s.heap.objs.size f bT))) :
  lT (i9 (fN P w mg rn) P w K mg base lU "read_deed" (aT bR) f bT A outer s H E) K (LX rn mg E) (ek bR) jD :=
 have nd:=my.nd;have hu:(A.deeper (envOfC "read_deed" (aT bR) s.heap.objs.size f bT)).units+64<cLine:=hr.units
 (aj (bF (cB (cN (bO FV (hr.mono (by decide)) (aa (qv 0) aq)))) (ao (i_ rfl qJ T.MG (.tail _ (.head _)) aA))
   aD)
   (ao (uW (pv 0))))
theorem ud {f:Addr} {fd:FuncData} (F:dQ K "read_deed" "read_deed" bR f fd) (T:Txt K mg) (FV:de P w K mg base 2 "is_deed" ["thing"] (az K cU)):dA P w K mg base (fN P w mg rn) 3 f fd ["word"] (dh K rn mg bY) :=
 y0.ok F my sV (vg T FV) vO
theorem gw:ft lQ ["_law_found", "_law_most"] (aT bN):=⟨rfl,rfl,rfl,by decide +kernel,rfl,by decide +kernel,by decide +kernel⟩
theorem lH {f:Addr} {fd:FuncData} (F:dQ K "_law_is_scroll" "_law_is_scroll" bN f fd) (T:Txt K mg) (dr':de P w K mg base 2 "_law_is_row" ["_law_row_here", "_law_k"] (az K cG)):dA P w K mg base fP 3 f fd ["_law_found", "_law_most"] (az K bA) :=
 iN.ok (t:=eO) F gw lq (fun bT A outer s H E hr =>
  have nd:=gw.nd;have hu:=hr.units
  (aj (bF (kR (gm (cB (cN (gU T.iq (qv 0) (gF T.y9 rO)))) (eF (cB (kJ jt jt qd qd au (aP aB b_ rfl T.g9 bZ (qv 0)) (qv 1)))))) (ao (aG hJ))
   aD)
   (aj (oH PassesOwn.never rfl (jF T.rX (aP aB b_ rfl T.g9 bZ (qv 0))) (bK (i:=2) nd rfl (Or.inl rfl))
   (ao (bF (cB (cN (bO dr' (hr.mono (by decide)) (aa (eI hu (qv 0) (qv 2)) (aa (qv 2) aq)))))
   (ao (aG hJ))
   aD)))
   (ao (aG hJ))))) mX
theorem uD:ft z_ ["k", "thing"] (aT jb):=⟨rfl,rfl,rfl,by decide +kernel,rfl,by decide +kernel,by decide +kernel⟩
theorem zH {f:Addr} {fd:FuncData} (F:dQ K "is_row" "is_row" jb f fd) (T:Txt K mg) (FV:de P w K mg base 2 "is_deed" ["thing"] (az K cU)) (ML:de P w K mg base 2 "is_ahead" ["k", "thing"] (az K cj)) (ds':de P w K mg base 3 "are_parts" ["k", "thing"] (az K dM)):dA P w K mg base fP 4 f fd ["k", "thing"] (az K gH) :=
 iN.ok (t:=qK) F uD ye (fun bT A outer s H E hr =>
  have nd:=uD.nd;have hu:=hr.units
  (aj (bF (kR (gm (cB (cN (gU T.iq (qv 1) (gF T.qq eY)))) (gm (aM (fm (K:=K) hu) cA (aP aB b_ rfl T.g9 bZ (qv 1)) au (dP _)) (eF (cB (cN (gU T.iq (eI hu (qv 1) au) (gF T.mr fV)))))))) (ao (aG hJ))
   aD)
   (aj (bF (kR (gm (aM (fm (K:=K) hu) cA (eI hu (qv 1) au) aA (dP _)) (eF (aM (fm (K:=K) hu) cA (eI hu (qv 1) au) aA (dP _)))))
   (ao (aG (jU (kh (fm (K:=K) hu) cA (aP aB b_ rfl T.g9 bZ (qv 1)) au (dP _)) (jU (bO FV (hr.mono (by decide)) (aa (eI hu (qv 1) au) aq)) (mZ (bO ML (hr.mono (by decide)) (aa (qv 0) (aa (eI hu (qv 1) au) aq))))))))
   aD)
   (aj (bF (aM (fm (K:=K) hu) cA (eI hu (qv 1) au) aA (dP _))
   (ao (aG (jU (kh (fm (K:=K) hu) cA (aP aB b_ rfl T.g9 bZ (qv 1)) au (dP _)) (mZ (bO ML (hr.mono (by decide)) (aa (qv 0) (aa (eI hu (qv 1) au) aq)))))))
   aD)
   (aj (bF (kR (gm (aM (fm (K:=K) hu) cA (eI hu (qv 1) au) aA (dP _)) (eF (aM (fm (K:=K) hu) cA (eI hu (qv 1) au) aA (dP _)))))
   (ao (aG (jU (kh (fm (K:=K) hu) cA (aP aB b_ rfl T.g9 bZ (qv 1)) au (dP _)) (mZ (bO ds' (hr.mono (by decide)) (aa (qv 0) (aa (eI hu (qv 1) au) aq)))))))
   aD)
   (ao (aG hJ))))))) Cm
theorem o_:ft jL ["text"] (aT bV):=⟨rfl,rfl,rfl,by decide +kernel,rfl,by decide +kernel,by decide +kernel⟩
theorem xY {f:Addr} (T:Txt K mg) (Qt:gL P w K mg base rn 3 "read_deed" ["word"] bY) (FX:gL P w K mg base rn 2 "read_number" ["word"] aJ) (bT:Value) (A:Around) (outer:List PySem.Env) (s:Shared) (H:Hp) (E:XK) (hr:fe 3 (A.deeper (envOfC "read_row" (aT bV) s.heap.objs.size f bT))) :
  lT (i9 (fN P w mg rn) P w K mg base jL "read_row" (aT bV) f bT A outer s H E) K (LX rn mg E) (ek bV) lC :=
 have nd:=o_.nd;have hu:(A.deeper (envOfC "read_row" (aT bV) s.heap.objs.size f bT)).units+64<cLine:=hr.units
 (aj (aK (i:=1) nd rfl (Or.inl rfl) (vX (qv 0) aA)) (aj (aK (i:=2) nd rfl (Or.inl rfl) (eI hu (qv 1) au)) (aj (bF (kR (Cz (kR (gm (aM (fm (K:=K) hu) cA (qv 2) aA (dP _)) (eF (aM (fm (K:=K) hu) cA (qv 2) aA (dP _))))) (yE (aM (fm (K:=K) hu) cA (aP aB b_ rfl T.g9 bZ (qv 1)) au (dP _))))) (ao (u_ (yz (jK (Qj (qv 2)) (jK (n_ Qt (hr.mono (by decide)) vN (aa (eI hu (qv 1) au) aq)) (jK (n_ FX (hr.mono (by decide)) vN (aa (eI hu (qv 1) au) aq)) zx))))))
   aD)
   (aj (bF (kR (Cz (aM (fm (K:=K) hu) cA (qv 2) aA (dP _)) (yE (aM (fm (K:=K) hu) cA (aP aB b_ rfl T.g9 bZ (qv 1)) au (dP _)))))
   (ao (u_ (yz (jK (Qj (qv 2)) (jK (n_ FX (hr.mono (by decide)) vN (aa (eI hu (qv 1) au) aq)) zx)))))
   aD)
   (aj (bF (kR (gm (aM (fm (K:=K) hu) cA (qv 2) aA (dP _)) (eF (aM (fm (K:=K) hu) cA (qv 2) aA (dP _)))))
   (ao (u_ (yz (jK (Qj (qv 2)) (jK (JV xn nP rfl T.qq eY (Eh (tn:=["part"]) (cn:=[]) (ix:=[]) rfl (oK (dg (qv 1) (cO au) dI)) (cC.of (sc:=aT bV) (N:=jL) rfl rfl (by decide +kernel)) (fun _ _ _ _=>(bK (i:=0) (show(["part"]:List Str).Nodup by decide +kernel) rfl (Or.inl rfl) (.inr rfl))) (fun _ _ _ _=>dR) (fun _ _ _ _ S=>(n_ FX (hr.mono (by decide)) (Hu S) (aa (qv 0) aq))))) zx)))))
   aD)
   (ao (i_ rfl qJ T.MG (.tail _ (.head _)) aA)))))))
theorem vV {f:Addr} {fd:FuncData} (F:dQ K "read_row" "read_row" bV f fd) (T:Txt K mg) (Qt:gL P w K mg base rn 3 "read_deed" ["word"] bY) (FX:gL P w K mg base rn 2 "read_number" ["word"] aJ):dA P w K mg base (fN P w mg rn) 4 f fd ["text"] (dh K rn mg cP) :=
 y0.ok F o_ uK (xY T Qt FX) xZ
theorem mH:ft lV ["thing"] (aT dD):=⟨rfl,rfl,rfl,by decide +kernel,rfl,by decide +kernel,by decide +kernel⟩
theorem uw {f:Addr} {fd:FuncData} (F:dQ K "is_scroll" "is_scroll" dD f fd) (T:Txt K mg) (dt':de P w K mg base 4 "is_row" ["k", "thing"] (az K gH)):dA P w K mg base fP 5 f fd ["thing"] (az K bj) :=
 iN.ok (t:=jJ) F mH qW (fun bT A outer s H E hr =>
  have nd:=mH.nd;have hu:=hr.units
  (aj (bF (kR (gm (cB (cN (gU T.iq (qv 0) (gF T.y9 rO)))) (eF (cB (kJ jt jt qd qd au (aP aB b_ rfl T.g9 bZ (qv 0)) (LG T.FP)))))) (ao (aG hJ))
   aD)
   (ao (aG (aP KL wH rfl T.y8 wD (il (tn:=["k", "row"]) (cn:=[]) (ix:=[]) rfl (DQ T.FG (qv 0)) (cC.of (sc:=aT dD) (N:=lV) rfl rfl (by decide +kernel)) (fun _ _ _ _=>(G_ rfl (wV (bK (i:=0) (show(["k", "row"]:List Str).Nodup by decide +kernel) rfl (Or.inl rfl) (.inr rfl)) (wV (bK (i:=1) (show(["k", "row"]:List Str).Nodup by decide +kernel) rfl (Or.inl rfl) (.inr rfl)) Dm)))) (fun _ _ _ _=>dR) (fun _ _ _ _=>(bO dt' (hr.mono (by decide)) (aa (qv 0) (aa (qv 1) aq)))))))))) vG
theorem iH:ft iU ["thing"] (aT aQ):=⟨rfl,rfl,rfl,by decide +kernel,rfl,by decide +kernel,by decide +kernel⟩
theorem pM {f:Addr} (T:Txt K mg) (A4:de P w K mg base 5 "is_scroll" ["thing"] (az K bj)) (bT:Value) (A:Around) (outer:List PySem.Env) (s:Shared) (H:Hp) (E:XK) (hr:fe 5 (A.deeper (envOfC "check_scroll" (aT aQ) s.heap.objs.size f bT))) :
  lT (i9 (fN P w mg rn) P w K mg base iU "check_scroll" (aT aQ) f bT A outer s H E) K (LX rn mg E) (ek aQ) gf :=
 have nd:=iH.nd;have hu:(A.deeper (envOfC "check_scroll" (aT aQ) s.heap.objs.size f bT)).units+64<cLine:=hr.units
 (ao (bF (cB (cN (bO A4 (hr.mono (by decide)) (aa (qv 0) aq)))) (ao (i_ rfl qJ T.V7 (.head _) aA))
   aD))
theorem n8 {f:Addr} {fd:FuncData} (F:dQ K "check_scroll" "check_scroll" aQ f fd) (T:Txt K mg) (A4:de P w K mg base 5 "is_scroll" ["thing"] (az K bj)):dA P w K mg base (fN P w mg rn) 6 f fd ["thing"] (dh K rn mg bJ) :=
 y0.ok F iH mR (pM T A4) pW
theorem jq:ft gk ["text"] (aT aV):=⟨rfl,rfl,rfl,by decide +kernel,rfl,by decide +kernel,by decide +kernel⟩
theorem qZ {f:Addr} (T:Txt K mg) (Qu:gL P w K mg base rn 1 "check_text" ["thing"] cu) (Qw:gL P w K mg base rn 4 "read_row" ["text"] cP) (A4:de P w K mg base 5 "is_scroll" ["thing"] (az K bj)) (bT:Value) (A:Around) (outer:List PySem.Env) (s:Shared) (H:Hp) (E:XK) (hr:fe 5 (A.deeper (envOfC "read_scroll" (aT aV) s.heap.objs.size f bT))) :
  lT (i9 (fN P w mg rn) P w K mg base gk "read_scroll" (aT aV) f bT A outer s H E) K (LX rn mg E) (ek aV) gR :=
 have nd:=jq.nd;have hu:(A.deeper (envOfC "read_scroll" (aT aV) s.heap.objs.size f bT)).units+64<cLine:=hr.units
 (aj (wG Qu (hr.mono (by decide)) vN (aa (qv 0) aq)) (aj (vR (i:=1) (tn:=["part"]) (cn:=[]) (ix:=[]) nd rfl (Or.inl rfl) rfl (oK (vX (qv 0) aA)) (cC.of (sc:=aT aV) (N:=gk) rfl rfl (by decide +kernel)) (fun _ _ _ _=>(bK (i:=0) (show(["part"]:List Str).Nodup by decide +kernel) rfl (Or.inl rfl) (.inr rfl))) (fun _ _ _ _=>dR) (fun _ _ _ _ S=>(n_ Qw (hr.mono (by decide)) (Hu S) (aa (qv 0) aq)))) (aj (bF (cB (cN (bO A4 (hr.mono (by decide)) (aa (qv 1) aq)))) (ao (i_ rfl qJ T.V7 (.head _) aA))
   aD)
   (ao (uW (pv 1))))))
theorem pK {f:Addr} {fd:FuncData} (F:dQ K "read_scroll" "read_scroll" aV f fd) (T:Txt K mg) (Qu:gL P w K mg base rn 1 "check_text" ["thing"] cu) (Qw:gL P w K mg base rn 4 "read_row" ["text"] cP) (A4:de P w K mg base 5 "is_scroll" ["thing"] (az K bj)):dA P w K mg base (fN P w mg rn) 6 f fd ["text"] (dh K rn mg aL) :=
 y0.ok F jq oR (qZ T Qu Qw A4) q_
theorem jz:ft fX ["scroll"] (aT aR):=⟨rfl,rfl,rfl,by decide +kernel,rfl,by decide +kernel,by decide +kernel⟩
theorem rK {f:Addr} (T:Txt K mg) (Qx:gL P w K mg base rn 6 "check_scroll" ["thing"] bJ) (Qy:de P w K mg base 2 "shown_row" ["row"] (az K bh)) (bT:Value) (A:Around) (outer:List PySem.Env) (s:Shared) (H:Hp) (E:XK) (hr:fe 6 (A.deeper (envOfC "show_scroll" (aT aR) s.heap.objs.size f bT))) :
  lT (i9 (fN P w mg rn) P w K mg base fX "show_scroll" (aT aR) f bT A outer s H E) K (LX rn mg E) (ek aR) gY :=
 have nd:=jz.nd;have hu:(A.deeper (envOfC "show_scroll" (aT aR) s.heap.objs.size f bT)).units+64<cLine:=hr.units
 (aj (wG Qx (hr.mono (by decide)) vN (aa (qv 0) aq)) (ao (aG (jy aA (il (tn:=["row"]) (cn:=[]) (ix:=[]) rfl (oK (qv 0)) (cC.of (sc:=aT aR) (N:=fX) rfl rfl (by decide +kernel)) (fun _ _ _ _=>(bK (i:=0) (show(["row"]:List Str).Nodup by decide +kernel) rfl (Or.inl rfl) (.inr rfl))) (fun _ _ _ _=>dR) (fun _ _ _ _=>(bO Qy (hr.mono (by decide)) (aa (qv 0) aq))))))))
theorem pJ {f:Addr} {fd:FuncData} (F:dQ K "show_scroll" "show_scroll" aR f fd) (T:Txt K mg) (Qx:gL P w K mg base rn 6 "check_scroll" ["thing"] bJ) (Qy:de P w K mg base 2 "shown_row" ["row"] (az K bh)):dA P w K mg base (fN P w mg rn) 7 f fd ["scroll"] (dh K rn mg aX) :=
 y0.ok F jz pB (rK T Qx Qy) rB
theorem jN:ft lg ["_law_way", "_law_thing"] (aT bx):=⟨rfl,rfl,rfl,by decide +kernel,rfl,by decide +kernel,by decide +kernel⟩
theorem uf {f:Addr} (T:Txt K mg) (Ct:gL P w K mg base rn 6 "read_scroll" ["text"] aL) (FY:gL P w K mg base rn 7 "show_scroll" ["scroll"] aX) (bT:Value) (A:Around) (outer:List PySem.Env) (s:Shared) (H:Hp) (E:XK) (hr:fe 7 (A.deeper (envOfC "_law_asked" (aT bx) s.heap.objs.size f bT))) :
  lT (i9 (fN P w mg rn) P w K mg base lg "_law_asked" (aT bx) f bT A outer s H E) K (LX rn mg E) (ek bx) iG :=
 have nd:=jN.nd;have hu:(A.deeper (envOfC "_law_asked" (aT bx) s.heap.objs.size f bT)).units+64<cLine:=hr.units
 (aj (bF (aM (fm (K:=K) hu) cA (qv 0) au (dP _)) (ao (yR Ct (hr.mono (by decide)) vN (aa (qv 1) aq)))
   aD)
   (ao (yR FY (hr.mono (by decide)) vN (aa (qv 1) aq))))
theorem rE {f:Addr} {fd:FuncData} (F:dQ K "_law_asked" "_law_asked" bx f fd) (T:Txt K mg) (Ct:gL P w K mg base rn 6 "read_scroll" ["text"] aL) (FY:gL P w K mg base rn 7 "show_scroll" ["scroll"] aX):dA P w K mg base (fN P w mg rn) 8 f fd ["_law_way", "_law_thing"] (dh K rn mg cZ) :=
 y0.ok F jN p_ (uf T Ct FY) tH
theorem lY:ft tK ["_law_scroll_here", "_law_text_here"] (aT dX):=⟨rfl,rfl,rfl,by decide +kernel,rfl,by decide +kernel,by decide +kernel⟩
theorem uA {f:Addr} {fd:FuncData} (F:dQ K "_law_good" "_law_good" dX f fd) (T:Txt K mg) (FY:gL P w K mg base rn 7 "show_scroll" ["scroll"] aX) (Ct:gL P w K mg base rn 6 "read_scroll" ["text"] aL) (du':de P w K mg base 3 "_law_is_scroll" ["_law_found", "_law_most"] (az K bA)):dA P w K mg base fP 8 f fd ["_law_scroll_here", "_law_text_here"] (az K cg) :=
 iN.ok (t:=jG) F lY rP (fun bT A outer s H E hr =>
  have nd:=lY.nd;have hu:=hr.units
  (aj (aK (i:=2) nd rfl (Or.inl rfl) (dw qF zE rfl T.y9 rO (qv 0))) (aj (aK (i:=3) nd rfl (Or.inl rfl) (zM FY (hr.mono (by decide)) (aa (qv 2) aq))) (aj (aK (i:=4) nd rfl (Or.inl rfl) (zM Ct (hr.mono (by decide)) (aa (qv 1) aq))) (aj (bF (kR (gm (cB (cN (gU T.iq (qv 3) (gF T.mr fV)))) (gm (aM (xo (K:=K) hu) sU (qv 3) (qv 1) (dP _)) (eF (aM (xo (K:=K) hu) sU (qv 2) (qv 0) (dP _)))))) (ao (aG hJ))
   aD)
   (aj (bF (kR (gm (cB (cN (bO du' (hr.mono (by decide)) (aa (qv 4) (aa (aP aB b_ rfl T.g9 bZ (qv 0)) aq))))) (eF (aM (xo (K:=K) hu) sU (qv 4) (qv 0) (dP _)))))
   (ao (aG hJ))
   aD)
   (aj (lu (fY (pv 4)) (eQ (aa aA (aa (eQ aq) aq))))
   (ao (aG (kh (fm (K:=K) hu) cA (zM Ct (hr.mono (by decide)) (aa (qv 1) aq)) (qv 0) (dP _))))))))))) uV
theorem l_:ft uB ["_law_way", "_law_thing"] (aT dZ):=⟨rfl,rfl,rfl,by decide +kernel,rfl,by decide +kernel,by decide +kernel⟩
theorem ux {f:Addr} {fd:FuncData} (F:dQ K "_law_kind" "_law_kind" dZ f fd) (T:Txt K mg) (dv':gL P w K mg base rn 8 "_law_asked" ["_law_way", "_law_thing"] cZ):dA P w K mg base fP 9 f fd ["_law_way", "_law_thing"] (az K aY) :=
 iN.ok (t:=jH) F l_ rN (fun bT A outer s H E hr =>
  have nd:=l_.nd;have hu:=hr.units
  (aj (aK (i:=2) nd rfl (Or.inl rfl) BZ) (aj (Fd (j:=3) T.df' nd rfl rfl rfl rfl (fun pn xe E1 nk Vs=>(El (Em dv' (hr.mono (by decide)) Vs (aa (qv 0) (aa (qv 1) aq))))) (fun pn a oe n C hn hm xc hp ky=>by
    obtain⟨dw',dx',dy'⟩:=T.dg' n C hn hm;obtain⟨dz',dA',dB'⟩:=T.dh' n C hn hm;obtain⟨dC',dD',dE'⟩:=T.dk' n C hn hm;obtain⟨dF',dG',dH'⟩:=T.dl' n C hn hm;exact(aj (aK (i:=4) nd rfl (Or.inl rfl) (Hk (j:=3) (cs:=[dw',dz']) T.iq hp ky xc (nW dy' (nW dB' ym)) (Nat.le_of_ble_eq_true rfl) (pv 3) (wM (BE rfl dx' rfl) (wM (BE rfl dA' rfl) Ey))))
   (ao (mD 4 (aK (i:=2) nd rfl (Or.inl rfl) (eQ (aa (Dk (vc:=.ref dF') (j:=3) T.iq hp ky xc dH' (pv 3) (BE rfl dG' rfl) (fun _ r=>r)) (aa (Dk (vc:=.ref dC') (j:=3) T.iq hp ky xc dE' (pv 3) (BE rfl dD' rfl) (fun _ r=>r)) (aa (Dk (vc:=.ty "ValueError") (j:=3) T.iq hp ky xc (T.di' n C hn hm) (pv 3) (gF T.FE sX) (fun _ r=>r)) (aa (qv 4) aq)))))))))))
   (aj (bF (aM (fm (K:=K) hu) cA (qv 2) (eQ (aa hJ (aa hJ (aa hJ (aa hJ aq))))) (dP _))
   (ao (aG aA))
   aD)
   (aj (bF (aM (fm (K:=K) hu) cA (qv 2) (eQ (aa hJ (aa hJ (aa hJ (aa hJ aq))))) (dP _))
   (ao (aG aA))
   aD)
   (ao (aG aA))))))) v_
theorem Cw:ft yx ["_law_script"] (aT oN):=⟨rfl,rfl,rfl,by decide +kernel,rfl,by decide +kernel,by decide +kernel⟩
theorem dI' {f:Addr} {fd:FuncData} (F:dQ K "law" "law" oN f fd) (T:Txt K mg) (CB:de P w K mg base 1 "_law_cell_at" ["_law_script", "_law_k"] (az K aH)) (dJ':de P w K mg base 1 "_law_deeds" ["_law_cell", "_law_turn"] (az K cY)) (dK':de P w K mg base 2 "_law_scroll" ["_law_cells", "_law_names"] (az K cD)) (V8:de P w K mg base 1 "_law_text" ["_law_scroll_here"] (az K cQ)) (Qz:de P w K mg base 8 "_law_good" ["_law_scroll_here", "_law_text_here"] (az K cg)) (dL':de P w K mg base 1 "_law_late_part" ["_law_at", "_law_cell"] (az K bz)) (CC:de P w K mg base 9 "_law_kind" ["_law_way", "_law_thing"] (az K aY)) (V9:de P w K mg base 1 "_law_bad_part" ["_law_cell"] (az K a_)) (dM':de P w K mg base 1 "_law_bad_whole" ["_law_text_here", "_law_cell"] (az K bC)) (dN':de P w K mg base 1 "_law_worse" ["_law_scroll_here", "_law_at", "_law_cell"] (az K cW)):dA P w K mg base fP 10 f fd ["_law_script"] (az K B9) :=
 iN.ok (t:=Dw) F Cw Ek (fun bT A outer s H E hr =>
  have nd:=Cw.nd;have hu:=hr.units
  (aj (aK (i:=1) nd rfl (Or.inl rfl) (bO CB (hr.mono (by decide)) (aa (qv 0) (aa au aq)))) (aj (aK (i:=2) nd rfl (Or.inl rfl) (bO dJ' (hr.mono (by decide)) (aa (bO CB (hr.mono (by decide)) (aa (qv 0) (aa au aq))) (aa (bO CB (hr.mono (by decide)) (aa (qv 0) (aa au aq))) aq)))) (aj (aK (i:=3) nd rfl (Or.inr rfl) (bO dK' (hr.mono (by decide)) (aa (bW (dg (qv 0) (cO au) (cO au)) (dq (aa (bO CB (hr.mono (by decide)) (aa (qv 0) (aa au aq))) aq))) (aa (bW (dq (aa aA aq)) (qv 2)) aq)))) (aj (bF (aM (fm (K:=K) hu) cA (dO (qv 1) au) au (dP _)) (ao (aK (i:=3) nd rfl (Or.inr rfl) (bW (qv 3) (il (tn:=["_law_k"]) (cn:=["_law_scroll_here"]) (ix:=[3]) rfl (qC (jF T.rX (xU au (aP aB b_ rfl T.g9 bZ (qv 3))))) (cC.of (sc:=aT oN) (N:=yx) rfl rfl (by decide +kernel)) (fun _ _ _ _=>(bK (i:=0) (show(["_law_k", "_law_scroll_here"]:List Str).Nodup by decide +kernel) rfl (Or.inl rfl) (.inr rfl))) (fun _ _ _ _=>dR) (fun _ _ _ _=>(eQ (aa aA (aa (xU (xU (bW (aP aB b_ rfl T.g9 bZ (qv 1)) (qv 0)) au) (dO (dO (yg (qv 0) (qv 0)) au) (aP aB b_ rfl T.g9 bZ (qv 1)))) aq))))))))
   aD)
   (aj (bF (aM (fm (K:=K) hu) cA (dO (qv 1) au) au (dP _))
   (ao (lu (fY (pv 3)) (eQ (aa (eI hu (dq (aa aA (aa aA aq))) (dO (lE (qv 1) au) au)) (aa (dw xn nP rfl T.qq eY (il (tn:=["_law_k"]) (cn:=["_law_scroll_here"]) (ix:=[3]) rfl (qC (jF T.rX au)) (cC.of (sc:=aT oN) (N:=yx) rfl rfl (by decide +kernel)) (fun _ _ _ _=>(bK (i:=0) (show(["_law_k", "_law_scroll_here"]:List Str).Nodup by decide +kernel) rfl (Or.inl rfl) (.inr rfl))) (fun _ _ _ _=>dR) (fun _ _ _ _=>(dO (qv 0) (aP aB b_ rfl T.g9 bZ (qv 1)))))) aq)))))
   aD)
   (aj (aK (i:=4) nd rfl (Or.inl rfl) (bO V8 (hr.mono (by decide)) (aa (qv 3) aq)))
   (aj (bF (cB (cN (bO Qz (hr.mono (by decide)) (aa (qv 3) (aa (qv 4) aq)))))
   (ao (aG hJ))
   aD)
   (aj (aK (i:=5) nd rfl (Or.inl rfl) (bO CB (hr.mono (by decide)) (aa (qv 0) (aa au aq))))
   (aj (aK (i:=6) nd rfl (Or.inl rfl) (bO CB (hr.mono (by decide)) (aa (qv 0) (aa au aq))))
   (aj (aK (i:=7) nd rfl (Or.inl rfl) (dO (qv 5) (aP aB b_ rfl T.g9 bZ (qv 3))))
   (aj (aK (i:=8) nd rfl (Or.inl rfl) (vX (qv 4) aA))
   (aj (aK (i:=9) nd rfl (Or.inl rfl) (bW (bW (dg (qv 8) dI (cO (qv 7))) (dq (aa (bO dL' (hr.mono (by decide)) (aa (qv 7) (aa (qv 6) aq))) aq))) (dg (qv 8) (cO (bW (qv 7) au)) dI)))
   (aj (aK (i:=10) nd rfl (Or.inl rfl) (jy aA (Ai (dq (aa (eI hu (qv 8) au) aq)) au)))
   (aj (bF (kR (gm (aM (xo (K:=K) hu) sU (bO CC (hr.mono (by decide)) (aa au (aa (jy aA (qv 9)) aq))) aA (dP _)) (eF (aM (xo (K:=K) hu) sU (bO CC (hr.mono (by decide)) (aa au (aa (qv 10) aq))) aA (dP _)))))
   (ao (aG hJ))
   aD)
   (aj (Hy (fY (pv 9)) (dO (lE (qv 6) au) (bW (aP aB b_ rfl T.g9 bZ (qv 9)) au)) (bO V9 (hr.mono (by decide)) (aa (qv 5) aq)))
   (aj (aK (i:=11) nd rfl (Or.inl rfl) (jy aA (bW (bW (dg (qv 8) dI (cO (qv 7))) (dq (aa (bO V9 (hr.mono (by decide)) (aa (qv 6) aq)) aq))) (dg (qv 8) (cO (bW (qv 7) au)) dI))))
   (aj (bF (kR (gm (aM (xo (K:=K) hu) sU (bO CC (hr.mono (by decide)) (aa au (aa (jy aA (qv 9)) aq))) aA (dP _)) (eF (aM (xo (K:=K) hu) sU (bO CC (hr.mono (by decide)) (aa au (aa (qv 11) aq))) aA (dP _)))))
   (ao (aG hJ))
   aD)
   (aj (bF (aM (xo (K:=K) hu) sU (bO CC (hr.mono (by decide)) (aa au (aa (bO dM' (hr.mono (by decide)) (aa (qv 4) (aa (qv 5) aq))) aq))) aA (dP _))
   (ao (aG hJ))
   aD)
   (aj (bF (cB (cN (bO Qz (hr.mono (by decide)) (aa (dg (qv 3) dI (cO (bW (qv 7) au))) (aa (bO V8 (hr.mono (by decide)) (aa (dg (qv 3) dI (cO (bW (qv 7) au))) aq)) aq)))))
   (ao (aG hJ))
   aD)
   (ao (aG (jU (kh (fm (K:=K) hu) cA (bO CC (hr.mono (by decide)) (aa au (aa (bO dN' (hr.mono (by decide)) (aa (qv 3) (aa (qv 7) (aa (lE (qv 5) au) aq)))) aq))) aA (dP _)) (mZ (bO Qz (hr.mono (by decide)) (aa (qv 3) (aa (qv 4) aq))))))))))))))))))))))))))) Ia
end
theorem nS{us:List Value}(h:us.length=1):∃ a0,us=[a0]:=by
 cases us with
 |nil=>simp at h
 |cons a0 us =>
 cases us with
 |nil=>exact⟨_,rfl⟩
 |cons b us=>simp at h
theorem oS{us:List Value}(h:us.length=2):∃ a0 a1,us=[a0,a1]:=by
 cases us with
 |nil=>simp at h
 |cons a0 us =>
 cases us with
 |nil=>simp at h
 |cons a1 us =>
 cases us with
 |nil=>exact⟨_,_,rfl⟩
 |cons b us=>simp at h
theorem V_{us:List Value}(h:us.length=3):∃ a0 a1 a2,us=[a0,a1,a2]:=by
 cases us with
 |nil=>simp at h
 |cons a0 us =>
 cases us with
 |nil=>simp at h
 |cons a1 us =>
 cases us with
 |nil=>simp at h
 |cons a2 us =>
 cases us with
 |nil=>exact⟨_,_,_,rfl⟩
 |cons b us=>simp at h
theorem all_mk {l:PySem.W.OpenLaw} {w:World} {K:PySem.W.Frag} {h:Heap} {mg:Str->Option Value} {fa:Addr} (X:K.In h) (G:h.Ns mainGlobals mg) (hfa:mg "law" = some (.ref fa))(a0:PySem.W.nsIn K mainGlobals "drawn" = some (some (.ref f0))) (l0:K.lookup f0=some ⟨o0,d0,.func (PySem.W.fnOf "drawn" "drawn" (fh lO) (ek lO) (aT lO) .none v0 j0 p0 e0 r0 u0),t0⟩) (c0:PySem.W.codeIn K r0 "drawn" = true) (k0:PySem.W.keepIn K (.ref f0)=true)(a1:PySem.W.nsIn K mainGlobals "is_open" = some (some (.ref f1))) (l1:K.lookup f1=some ⟨o1,d1,.func (PySem.W.fnOf "is_open" "is_open" (fh fG) (ek fG) (aT fG) .none v1 j1 p1 e1 r1 u1),t1⟩) (c1:PySem.W.codeIn K r1 "is_open" = true) (k1:PySem.W.keepIn K (.ref f1)=true)(a2:PySem.W.nsIn K mainGlobals "is_deed" = some (some (.ref f2))) (l2:K.lookup f2=some ⟨o2,d2,.func (PySem.W.fnOf "is_deed" "is_deed" (fh gP) (ek gP) (aT gP) .none v2 j2 p2 e2 r2 u2),t2⟩) (c2:PySem.W.codeIn K r2 "is_deed" = true) (k2:PySem.W.keepIn K (.ref f2)=true)(a3:PySem.W.nsIn K mainGlobals "is_whole" = some (some (.ref f3))) (l3:K.lookup f3=some ⟨o3,d3,.func (PySem.W.fnOf "is_whole" "is_whole" (fh fj) (ek fj) (aT fj) .none v3 j3 p3 e3 r3 u3),t3⟩) (c3:PySem.W.codeIn K r3 "is_whole" = true) (k3:PySem.W.keepIn K (.ref f3)=true)(a4:PySem.W.nsIn K mainGlobals "is_ahead" = some (some (.ref f4))) (l4:K.lookup f4=some ⟨o4,d4,.func (PySem.W.fnOf "is_ahead" "is_ahead" (fh fu) (ek fu) (aT fu) .none v4 j4 p4 e4 r4 u4),t4⟩) (c4:PySem.W.codeIn K r4 "is_ahead" = true) (k4:PySem.W.keepIn K (.ref f4)=true)(a5:PySem.W.nsIn K mainGlobals "are_parts" = some (some (.ref f5))) (l5:K.lookup f5=some ⟨o5,d5,.func (PySem.W.fnOf "are_parts" "are_parts" (fh dB) (ek dB) (aT dB) .none v5 j5 p5 e5 r5 u5),t5⟩) (c5:PySem.W.codeIn K r5 "are_parts" = true) (k5:PySem.W.keepIn K (.ref f5)=true)(a6:PySem.W.nsIn K mainGlobals "is_row" = some (some (.ref f6))) (l6:K.lookup f6=some ⟨o6,d6,.func (PySem.W.fnOf "is_row" "is_row" (fh jb) (ek jb) (aT jb) .none v6 j6 p6 e6 r6 u6),t6⟩) (c6:PySem.W.codeIn K r6 "is_row" = true) (k6:PySem.W.keepIn K (.ref f6)=true)(a7:PySem.W.nsIn K mainGlobals "is_scroll" = some (some (.ref f7))) (l7:K.lookup f7=some ⟨o7,d7,.func (PySem.W.fnOf "is_scroll" "is_scroll" (fh dD) (ek dD) (aT dD) .none v7 j7 p7 e7 r7 u7),t7⟩) (c7:PySem.W.codeIn K r7 "is_scroll" = true) (k7:PySem.W.keepIn K (.ref f7)=true)(a8:PySem.W.nsIn K mainGlobals "check_scroll" = some (some (.ref f8))) (l8:K.lookup f8=some ⟨o8,d8,.func (PySem.W.fnOf "check_scroll" "check_scroll" (fh aQ) (ek aQ) (aT aQ) .none v8 j8 p8 e8 r8 u8),t8⟩) (c8:PySem.W.codeIn K r8 "check_scroll" = true) (k8:PySem.W.keepIn K (.ref f8)=true)(a9:PySem.W.nsIn K mainGlobals "is_number" = some (some (.ref f9))) (l9:K.lookup f9=some ⟨o9,d9,.func (PySem.W.fnOf "is_number" "is_number" (fh dH) (ek dH) (aT dH) .none v9 j9 p9 e9 r9 u9),t9⟩) (c9:PySem.W.codeIn K r9 "is_number" = true) (k9:PySem.W.keepIn K (.ref f9)=true)(QB:PySem.W.nsIn K mainGlobals "read_number" = some (some (.ref Wa))) (l10:K.lookup Wa=some ⟨y6,d10,.func (PySem.W.fnOf "read_number" "read_number" (fh aW) (ek aW) (aT aW) .none v10 j10 p10 e10 D9 u10),t10⟩) (QC:PySem.W.codeIn K D9 "read_number" = true) (QD:PySem.W.keepIn K (.ref Wa)=true)(QF:PySem.W.nsIn K mainGlobals "read_deed" = some (some (.ref Wb))) (QH:K.lookup Wb=some ⟨MD,d11,.func (PySem.W.fnOf "read_deed" "read_deed" (fh bR) (ek bR) (aT bR) .none v11 j11 p11 e11 r11 u11),t11⟩) (QJ:PySem.W.codeIn K r11 "read_deed" = true) (QK:PySem.W.keepIn K (.ref Wb)=true)(QL:PySem.W.nsIn K mainGlobals "check_text" = some (some (.ref Wc))) (QN:K.lookup Wc=some ⟨o12,d12,.func (PySem.W.fnOf "check_text" "check_text" (fh bu) (ek bu) (aT bu) .none v12 j12 p12 e12 r12 u12),t12⟩) (QQ:PySem.W.codeIn K r12 "check_text" = true) (QR:PySem.W.keepIn K (.ref Wc)=true)(QV:PySem.W.nsIn K mainGlobals "shown_row" = some (some (.ref Wd))) (QX:K.lookup Wd=some ⟨o13,d13,.func (PySem.W.fnOf "shown_row" "shown_row" (fh dF) (ek dF) (aT dF) .none v13 j13 p13 e13 r13 u13),t13⟩) (QY:PySem.W.codeIn K r13 "shown_row" = true) (QZ:PySem.W.keepIn K (.ref Wd)=true)(Q0:PySem.W.nsIn K mainGlobals "show_scroll" = some (some (.ref Wg))) (Q5:K.lookup Wg=some ⟨o14,d14,.func (PySem.W.fnOf "show_scroll" "show_scroll" (fh aR) (ek aR) (aT aR) .none v14 j14 p14 e14 r14 u14),t14⟩) (Q6:PySem.W.codeIn K r14 "show_scroll" = true) (Q7:PySem.W.keepIn K (.ref Wg)=true)(Q8:PySem.W.nsIn K mainGlobals "read_row" = some (some (.ref Wh))) (Q9:K.lookup Wh=some ⟨o15,d15,.func (PySem.W.fnOf "read_row" "read_row" (fh bV) (ek bV) (aT bV) .none v15 j15 p15 e15 r15 u15),t15⟩) (Q_:PySem.W.codeIn K r15 "read_row" = true) (Ra:PySem.W.keepIn K (.ref Wh)=true)(Rb:PySem.W.nsIn K mainGlobals "read_scroll" = some (some (.ref Wi))) (Rc:K.lookup Wi=some ⟨o16,d16,.func (PySem.W.fnOf "read_scroll" "read_scroll" (fh aV) (ek aV) (aT aV) .none v16 j16 p16 e16 r16 u16),t16⟩) (c16:PySem.W.codeIn K r16 "read_scroll" = true) (Rf:PySem.W.keepIn K (.ref Wi)=true)(Rg:PySem.W.nsIn K mainGlobals "_law_cell_at" = some (some (.ref Wj))) (Rh:K.lookup Wj=some ⟨o17,d17,.func (PySem.W.fnOf "_law_cell_at" "_law_cell_at" (fh cF) (ek cF) (aT cF) .none v17 j17 p17 e17 r17 u17),t17⟩) (Ri:PySem.W.codeIn K r17 "_law_cell_at" = true) (Rj:PySem.W.keepIn K (.ref Wj)=true)(Rk:PySem.W.nsIn K mainGlobals "_law_deeds" = some (some (.ref Wk))) (Rl:K.lookup Wk=some ⟨o18,d18,.func (PySem.W.fnOf "_law_deeds" "_law_deeds" (fh b8) (ek b8) (aT b8) .none v18 j18 p18 e18 r18 u18),t18⟩) (Rm:PySem.W.codeIn K r18 "_law_deeds" = true) (Rn:PySem.W.keepIn K (.ref Wk)=true)(Ro:PySem.W.nsIn K mainGlobals "_law_row" = some (some (.ref Wl))) (Rp:K.lookup Wl=some ⟨o19,d19,.func (PySem.W.fnOf "_law_row" "_law_row" (fh fc) (ek fc) (aT fc) .none v19 j19 p19 e19 r19 u19),t19⟩) (Rq:PySem.W.codeIn K r19 "_law_row" = true) (Rr:PySem.W.keepIn K (.ref Wl)=true)(Rt:PySem.W.nsIn K mainGlobals "_law_scroll" = some (some (.ref Wm))) (Ru:K.lookup Wm=some ⟨o20,d20,.func (PySem.W.fnOf "_law_scroll" "_law_scroll" (fh cz) (ek cz) (aT cz) .none v20 j20 p20 e20 r20 u20),t20⟩) (Rv:PySem.W.codeIn K r20 "_law_scroll" = true) (Rx:PySem.W.keepIn K (.ref Wm)=true)(Ry:PySem.W.nsIn K mainGlobals "_law_numbers" = some (some (.ref Wn))) (Rz:K.lookup Wn=some ⟨o21,d21,.func (PySem.W.fnOf "_law_numbers" "_law_numbers" (fh cH) (ek cH) (aT cH) .none v21 j21 p21 e21 r21 u21),t21⟩) (RA:PySem.W.codeIn K r21 "_law_numbers" = true) (RB:PySem.W.keepIn K (.ref Wn)=true)(RC:PySem.W.nsIn K mainGlobals "_law_is_row" = some (some (.ref Wo))) (EJ:K.lookup Wo=some ⟨o22,d22,.func (PySem.W.fnOf "_law_is_row" "_law_is_row" (fh cT) (ek cT) (aT cT) .none v22 j22 p22 e22 r22 u22),t22⟩) (RD:PySem.W.codeIn K r22 "_law_is_row" = true) (RG:PySem.W.keepIn K (.ref Wo)=true)(RH:PySem.W.nsIn K mainGlobals "_law_is_scroll" = some (some (.ref Wq))) (RJ:K.lookup Wq=some ⟨o23,d23,.func (PySem.W.fnOf "_law_is_scroll" "_law_is_scroll" (fh bN) (ek bN) (aT bN) .none v23 j23 p23 e23 r23 u23),t23⟩) (RK:PySem.W.codeIn K r23 "_law_is_scroll" = true) (An:PySem.W.keepIn K (.ref Wq)=true)(RL:PySem.W.nsIn K mainGlobals "_law_text" = some (some (.ref Wr))) (RN:K.lookup Wr=some ⟨o24,d24,.func (PySem.W.fnOf "_law_text" "_law_text" (fh dG) (ek dG) (aT dG) .none v24 j24 p24 e24 r24 u24),t24⟩) (RP:PySem.W.codeIn K r24 "_law_text" = true) (RQ:PySem.W.keepIn K (.ref Wr)=true)(RT:PySem.W.nsIn K mainGlobals "_law_asked" = some (some (.ref Ws))) (RV:K.lookup Ws=some ⟨o25,d25,.func (PySem.W.fnOf "_law_asked" "_law_asked" (fh bx) (ek bx) (aT bx) .none v25 j25 p25 e25 r25 u25),t25⟩) (RW:PySem.W.codeIn K r25 "_law_asked" = true) (RX:PySem.W.keepIn K (.ref Ws)=true)(RZ:PySem.W.nsIn K mainGlobals "_law_kind" = some (some (.ref Wt))) (R0:K.lookup Wt=some ⟨o26,d26,.func (PySem.W.fnOf "_law_kind" "_law_kind" (fh dZ) (ek dZ) (aT dZ) .none v26 j26 p26 e26 r26 u26),t26⟩) (R3:PySem.W.codeIn K r26 "_law_kind" = true) (R4:PySem.W.keepIn K (.ref Wt)=true)(R5:PySem.W.nsIn K mainGlobals "_law_bad_part" = some (some (.ref Wu))) (R6:K.lookup Wu=some ⟨o27,d27,.func (PySem.W.fnOf "_law_bad_part" "_law_bad_part" (fh bU) (ek bU) (aT bU) .none v27 j27 p27 e27 r27 u27),t27⟩) (R7:PySem.W.codeIn K r27 "_law_bad_part" = true) (R8:PySem.W.keepIn K (.ref Wu)=true)(R9:PySem.W.nsIn K mainGlobals "_law_bad_whole" = some (some (.ref Wv))) (R_:K.lookup Wv=some ⟨o28,d28,.func (PySem.W.fnOf "_law_bad_whole" "_law_bad_whole" (fh bL) (ek bL) (aT bL) .none v28 j28 p28 e28 r28 u28),t28⟩) (Sb:PySem.W.codeIn K r28 "_law_bad_whole" = true) (Sd:PySem.W.keepIn K (.ref Wv)=true)(Se:PySem.W.nsIn K mainGlobals "_law_late_part" = some (some (.ref Ww))) (Sf:K.lookup Ww=some ⟨o29,d29,.func (PySem.W.fnOf "_law_late_part" "_law_late_part" (fh bM) (ek bM) (aT bM) .none v29 j29 p29 e29 r29 u29),t29⟩) (Sg:PySem.W.codeIn K r29 "_law_late_part" = true) (Sh:PySem.W.keepIn K (.ref Ww)=true)(Si:PySem.W.nsIn K mainGlobals "_law_worse" = some (some (.ref Wx))) (Sj:K.lookup Wx=some ⟨o30,d30,.func (PySem.W.fnOf "_law_worse" "_law_worse" (fh dJ) (ek dJ) (aT dJ) .none v30 j30 p30 e30 r30 u30),t30⟩) (Sn:PySem.W.codeIn K r30 "_law_worse" = true) (Sq:PySem.W.keepIn K (.ref Wx)=true)(Sr:PySem.W.nsIn K mainGlobals "_law_good" = some (some (.ref Wy))) (Ss:K.lookup Wy=some ⟨o31,d31,.func (PySem.W.fnOf "_law_good" "_law_good" (fh dX) (ek dX) (aT dX) .none v31 j31 p31 e31 r31 u31),t31⟩) (Sv:PySem.W.codeIn K r31 "_law_good" = true) (Sw:PySem.W.keepIn K (.ref Wy)=true)(Sx:PySem.W.nsIn K mainGlobals "law" = some (some (.ref Wz))) (Sy:K.lookup Wz=some ⟨o32,d32,.func (PySem.W.fnOf "law" "law" (fh oN) (ek oN) (aT oN) .none v32 j32 p32 e32 WC u32),t32⟩) (Sz:PySem.W.codeIn K WC "law" = true) (SD:PySem.W.keepIn K (.ref Wz)=true)(FE:PySem.W.nsIn K mainGlobals "ValueError" = some none)(y8:PySem.W.nsIn K mainGlobals "all" = some none)(Cb:PySem.W.nsIn K mainGlobals "bool" = some none)(FG:PySem.W.nsIn K mainGlobals "enumerate" = some none)(A3:PySem.W.nsIn K mainGlobals "int" = some none)(iq:PySem.W.nsIn K mainGlobals "isinstance" = some none)(g9:PySem.W.nsIn K mainGlobals "len" = some none)(y9:PySem.W.nsIn K mainGlobals "list" = some none)(FH:PySem.W.nsIn K mainGlobals "min" = some none)(rX:PySem.W.nsIn K mainGlobals "range" = some none)(mr:PySem.W.nsIn K mainGlobals "str" = some none)(qq:PySem.W.nsIn K mainGlobals "tuple" = some none){eo':Tok} (FI:PySem.W.nsIn K mainGlobals "HIDDEN" = some (some (.str "*" eo'))){eq':Tok} (FK:PySem.W.nsIn K mainGlobals "LETTERS" = some (some (.str "abcdefghijklmnopqrstuvwxyz" eq'))){er':Tok} (FL:PySem.W.nsIn K mainGlobals "MOST_LETTERS" = some (some (.int 6 er'))){et':Tok} (FP:PySem.W.nsIn K mainGlobals "MOST_ROWS" = some (some (.int 2000 et'))){eu':Tok} (FR:PySem.W.nsIn K mainGlobals "MOST_PARTS" = some (some (.int 200 eu'))){ev':Tok} (FT:PySem.W.nsIn K mainGlobals "FIGURES" = some (some (.str "0123456789" ev'))){ew':Tok} (FU:PySem.W.nsIn K mainGlobals "MOST_FIGURES" = some (some (.int 4 ew'))){xS:Addr} (SF:PySem.W.nsIn K mainGlobals "KinError" = some (some (.ref xS))){SG:Addr} (SJ:PySem.W.nsIn K mainGlobals "NoDeed" = some (some (.ref SG))){nV:Addr} (SK:PySem.W.nsIn K mainGlobals "NoScroll" = some (some (.ref nV))){nX:Addr} (SN:PySem.W.nsIn K mainGlobals "NoText" = some (some (.ref nX))){SQ:Addr} (SV:PySem.W.nsIn K mainGlobals "TooBig" = some (some (.ref SQ)))(SW:PySem.W.excIn K xS [.type "ValueError",.type "Exception",.type "BaseException",.type "object"] "ValueError.__new__" = true) (SX:PySem.W.findIn K (.ref xS) "__getattr__" = some none) (SY:PySem.W.findIn K (.ref xS) "__getattribute__" = some (some (.builtin "BaseException.__getattribute__"))) (S0:PySem.W.findIn K (.ref xS) "__class__" = some (some (.builtin "object.__class__"))) (S1:PySem.W.mroIn K xS (.type "object")=some true)(S2:PySem.W.excIn K nV [.type "ValueError",.type "Exception",.type "BaseException",.type "object"] "ValueError.__new__" = true) (S4:PySem.W.findIn K (.ref nV) "__getattr__" = some none) (S5:PySem.W.findIn K (.ref nV) "__getattribute__" = some (some (.builtin "BaseException.__getattribute__"))) (S6:PySem.W.findIn K (.ref nV) "__class__" = some (some (.builtin "object.__class__"))) (S7:PySem.W.mroIn K nV (.type "object")=some true)(S8:PySem.W.excIn K nX [.type "ValueError",.type "Exception",.type "BaseException",.type "object"] "ValueError.__new__" = true) (S9:PySem.W.findIn K (.ref nX) "__getattr__" = some none) (S_:PySem.W.findIn K (.ref nX) "__getattribute__" = some (some (.builtin "BaseException.__getattribute__"))) (Ta:PySem.W.findIn K (.ref nX) "__class__" = some (some (.builtin "object.__class__"))) (Tb:PySem.W.mroIn K nX (.type "object")=some true)(Tc:PySem.W.mroIn K nV (.ref xS)=some true)(Td:PySem.W.kitOne K (.ref nV) (.ref SG)=some false)(Te:PySem.W.kitOne K (.ref nV) (.ref SQ)=some false)(Tf:PySem.W.kitOne K (.ref nV) (.type "ValueError")=some true)(Tg:PySem.W.kitOne K (.ref nV) (.ref nV)=some true)(Ti:PySem.W.kitOne K (.ref nV) (.ref nX)=some false)(Tj:PySem.W.mroIn K nX (.ref xS)=some true)(Tn:PySem.W.kitOne K (.ref nX) (.ref SG)=some false)(To:PySem.W.kitOne K (.ref nX) (.ref SQ)=some false)(Tp:PySem.W.kitOne K (.ref nX) (.type "ValueError")=some true)(Tq:PySem.W.kitOne K (.ref nX) (.ref nV)=some false)(Tr:PySem.W.kitOne K (.ref nX) (.ref nX)=some true)
  : ∃ fd:FuncData,(∀ (s:Shared) (v:Value),BindsTo s fd ⟨[v],[]⟩ [("_law_script",v)])/\∀ base:Heap,K.In base->base.Ns mainGlobals mg->dA l.prog w K mg base fP 10 fa fd ["_law_script"] (az K B9):=by
 have e:=hfa.symm.trans (PySem.W.mg_of X G Sx);cases e;have ey':=PySem.W.mg_of X G SF;have WD:=PySem.W.mg_of X G SJ;have MQ:=PySem.W.mg_of X G SK;have MR:=PySem.W.mg_of X G SN;have WH:=PySem.W.mg_of X G SV;have ez':kD K xS:=⟨SW,SX,SY,S0,S1⟩
 have WK:kD K nV:=⟨S2,S4,S5,S6,S7⟩
 have WL:kD K nX:=⟨S8,S9,S_,Ta,Tb⟩
 have each:∀ {G:Str->Addr->Prop},G "NoScroll" nV->G "NoText" nX->∀ n C,n∈rn->mg n=some (.ref C)->G n C:=by
  intro G eA' eB' n C hn hm;simp only[rn,eK,sf,or_false] at hn;rcases hn with rfl|rfl
  ·rw[MQ] at hm;cases hm;exact eA'
  ·rw[MR] at hm;cases hm;exact eB'
 have T:Txt K mg:=⟨PySem.W.mg_none_of X G FE,PySem.W.mg_none_of X G y8,PySem.W.mg_none_of X G Cb,PySem.W.mg_none_of X G FG,PySem.W.mg_none_of X G A3,PySem.W.mg_none_of X G iq,PySem.W.mg_none_of X G g9,PySem.W.mg_none_of X G y9,PySem.W.mg_none_of X G FH,PySem.W.mg_none_of X G rX,PySem.W.mg_none_of X G mr,PySem.W.mg_none_of X G qq,⟨_,PySem.W.mg_of X G FI⟩,⟨_,PySem.W.mg_of X G FK⟩,⟨_,PySem.W.mg_of X G FL⟩,⟨_,PySem.W.mg_of X G FP⟩,⟨_,PySem.W.mg_of X G FR⟩,⟨_,PySem.W.mg_of X G FT⟩,⟨_,PySem.W.mg_of X G FU⟩,⟨_,MQ,WK⟩,⟨_,MR,WL⟩,⟨_,ey',ez',each ⟨WK,Tc⟩ ⟨WL,Tj⟩⟩,each ⟨_,WD,Td⟩ ⟨_,WD,Tn⟩,each ⟨_,WH,Te⟩ ⟨_,WH,To⟩,each Tf Tp,each ⟨_,MQ,Tg⟩ ⟨_,MQ,Tq⟩,each ⟨_,MR,Ti⟩ ⟨_,MR,Tr⟩⟩
 have F0:=gi (st:=lO) l0 c0 k0;have F1:=gi (st:=fG) l1 c1 k1;have F2:=gi (st:=gP) l2 c2 k2;have F3:=gi (st:=fj) l3 c3 k3;have F4:=gi (st:=fu) l4 c4 k4;have F5:=gi (st:=dB) l5 c5 k5;have F6:=gi (st:=jb) l6 c6 k6;have F7:=gi (st:=dD) l7 c7 k7;have F8:=gi (st:=aQ) l8 c8 k8;have F9:=gi (st:=dH) l9 c9 k9;have WM:=gi (st:=aW) l10 QC QD;have WN:=gi (st:=bR) QH QJ QK;have WQ:=gi (st:=bu) QN QQ QR;have WR:=gi (st:=dF) QX QY QZ;have WU:=gi (st:=aR) Q5 Q6 Q7;have WV:=gi (st:=bV) Q9 Q_ Ra;have WW:=gi (st:=aV) Rc c16 Rf;have WY:=gi (st:=cF) Rh Ri Rj;have WZ:=gi (st:=b8) Rl Rm Rn;have W0:=gi (st:=fc) Rp Rq Rr;have W3:=gi (st:=cz) Ru Rv Rx;have W4:=gi (st:=cH) Rz RA RB;have W5:=gi (st:=cT) EJ RD RG;have W6:=gi (st:=bN) RJ RK An;have W7:=gi (st:=dG) RN RP RQ;have W8:=gi (st:=bx) RV RW RX;have W9:=gi (st:=dZ) R0 R3 R4;have W_:=gi (st:=bU) R6 R7 R8;have Ya:=gi (st:=bL) R_ Sb Sd;have Yb:=gi (st:=bM) Sf Sg Sh;have Yc:=gi (st:=dJ) Sj Sn Sq;have Yd:=gi (st:=dX) Ss Sv Sw;have F32:=gi (st:=oN) Sy Sz SD;refine⟨PySem.W.fnOf "law" "law" (fh oN) (ek oN) (aT oN) .none v32 j32 p32 e32 WC u32,fun s v=>.of_eq rfl,fun base _ _=>?_⟩;have C0:de l.prog w K mg base 1 "drawn" ["row"] (az K iW):=F0.iX (PySem.W.mg_of X G a0) (Bg F0 T ) fun _ _ _ _ _ _ us hl=>by obtain⟨_,rfl⟩:=nS hl;rfl
 have C1:de l.prog w K mg base 1 "is_open" ["thing"] (az K fC):=F1.iX (PySem.W.mg_of X G a1) (yo F1 T ) fun _ _ _ _ _ _ us hl=>by obtain⟨_,rfl⟩:=nS hl;rfl
 have C3:de l.prog w K mg base 1 "is_whole" ["thing"] (az K dW):=F3.iX (PySem.W.mg_of X G a3) (vd F3 T ) fun _ _ _ _ _ _ us hl=>by obtain⟨_,rfl⟩:=nS hl;rfl
 have C9:de l.prog w K mg base 1 "is_number" ["word"] (az K cR):=F9.iX (PySem.W.mg_of X G a9) (tM F9 T ) fun _ _ _ _ _ _ us hl=>by obtain⟨_,rfl⟩:=nS hl;rfl
 have C12:gL l.prog w K mg base rn 1 "check_text" ["thing"] cu:=dQ.y1 WQ (PySem.W.mg_of X G QL) (qY WQ T ) fun _ _ _ _ _ _ us hl=>by obtain⟨_,rfl⟩:=nS hl;rfl
 have C17:de l.prog w K mg base 1 "_law_cell_at" ["_law_script", "_law_k"] (az K aH):=WY.iX (PySem.W.mg_of X G Rg) (pG WY T ) fun _ _ _ _ _ _ us hl=>by obtain⟨_,_,rfl⟩:=oS hl;rfl
 have C18:de l.prog w K mg base 1 "_law_deeds" ["_law_cell", "_law_turn"] (az K cY):=WZ.iX (PySem.W.mg_of X G Rk) (rF WZ T ) fun _ _ _ _ _ _ us hl=>by obtain⟨_,_,rfl⟩:=oS hl;rfl
 have C19:de l.prog w K mg base 1 "_law_row" ["_law_cell", "_law_k", "_law_names"] (az K dY):=W0.iX (PySem.W.mg_of X G Ro) (wy W0 T ) fun _ _ _ _ _ _ us hl=>by obtain⟨_,_,_,rfl⟩:=V_ hl;rfl
 have C21:de l.prog w K mg base 1 "_law_numbers" ["_law_some", "_law_k"] (az K aZ):=W4.iX (PySem.W.mg_of X G Ry) (oV W4 T ) fun _ _ _ _ _ _ us hl=>by obtain⟨_,_,rfl⟩:=oS hl;rfl
 have C24:de l.prog w K mg base 1 "_law_text" ["_law_scroll_here"] (az K cQ):=W7.iX (PySem.W.mg_of X G RL) (ur W7 T ) fun _ _ _ _ _ _ us hl=>by obtain⟨_,rfl⟩:=nS hl;rfl
 have C27:de l.prog w K mg base 1 "_law_bad_part" ["_law_cell"] (az K a_):=W_.iX (PySem.W.mg_of X G R5) (mV W_ T ) fun _ _ _ _ _ _ us hl=>by obtain⟨_,rfl⟩:=nS hl;rfl
 have C28:de l.prog w K mg base 1 "_law_bad_whole" ["_law_text_here", "_law_cell"] (az K bC):=Ya.iX (PySem.W.mg_of X G R9) (lD Ya T ) fun _ _ _ _ _ _ us hl=>by obtain⟨_,_,rfl⟩:=oS hl;rfl
 have C29:de l.prog w K mg base 1 "_law_late_part" ["_law_at", "_law_cell"] (az K bz):=Yb.iX (PySem.W.mg_of X G Se) (lA Yb T ) fun _ _ _ _ _ _ us hl=>by obtain⟨_,_,rfl⟩:=oS hl;rfl
 have C30:de l.prog w K mg base 1 "_law_worse" ["_law_scroll_here", "_law_at", "_law_cell"] (az K cW):=Yc.iX (PySem.W.mg_of X G Si) (rJ Yc T ) fun _ _ _ _ _ _ us hl=>by obtain⟨_,_,_,rfl⟩:=V_ hl;rfl
 have C2:de l.prog w K mg base 2 "is_deed" ["thing"] (az K cU):=F2.iX (PySem.W.mg_of X G a2) (xV F2 T C1) fun _ _ _ _ _ _ us hl=>by obtain⟨_,rfl⟩:=nS hl;rfl
 have C4:de l.prog w K mg base 2 "is_ahead" ["k", "thing"] (az K cj):=F4.iX (PySem.W.mg_of X G a4) (uZ F4 T C3) fun _ _ _ _ _ _ us hl=>by obtain⟨_,_,rfl⟩:=oS hl;rfl
 have C10:gL l.prog w K mg base rn 2 "read_number" ["word"] aJ:=dQ.y1 WM (PySem.W.mg_of X G QB) (qe WM T C9) fun _ _ _ _ _ _ us hl=>by obtain⟨_,rfl⟩:=nS hl;rfl
 have C13:de l.prog w K mg base 2 "shown_row" ["row"] (az K bh):=WR.iX (PySem.W.mg_of X G QV) (uq WR T C0) fun _ _ _ _ _ _ us hl=>by obtain⟨_,rfl⟩:=nS hl;rfl
 have C20:de l.prog w K mg base 2 "_law_scroll" ["_law_cells", "_law_names"] (az K cD):=W3.iX (PySem.W.mg_of X G Rt) (pY W3 T C19) fun _ _ _ _ _ _ us hl=>by obtain⟨_,_,rfl⟩:=oS hl;rfl
 have C22:de l.prog w K mg base 2 "_law_is_row" ["_law_row_here", "_law_k"] (az K cG):=W5.iX (PySem.W.mg_of X G RC) (pU W5 T C21) fun _ _ _ _ _ _ us hl=>by obtain⟨_,_,rfl⟩:=oS hl;rfl
 have C5:de l.prog w K mg base 3 "are_parts" ["k", "thing"] (az K dM):=F5.iX (PySem.W.mg_of X G a5) (uC F5 T C4) fun _ _ _ _ _ _ us hl=>by obtain⟨_,_,rfl⟩:=oS hl;rfl
 have C11:gL l.prog w K mg base rn 3 "read_deed" ["word"] bY:=dQ.y1 WN (PySem.W.mg_of X G QF) (ud WN T C2) fun _ _ _ _ _ _ us hl=>by obtain⟨_,rfl⟩:=nS hl;rfl
 have C23:de l.prog w K mg base 3 "_law_is_scroll" ["_law_found", "_law_most"] (az K bA):=W6.iX (PySem.W.mg_of X G RH) (lH W6 T C22) fun _ _ _ _ _ _ us hl=>by obtain⟨_,_,rfl⟩:=oS hl;rfl
 have C6:de l.prog w K mg base 4 "is_row" ["k", "thing"] (az K gH):=F6.iX (PySem.W.mg_of X G a6) (zH F6 T C2 C4 C5) fun _ _ _ _ _ _ us hl=>by obtain⟨_,_,rfl⟩:=oS hl;rfl
 have C15:gL l.prog w K mg base rn 4 "read_row" ["text"] cP:=dQ.y1 WV (PySem.W.mg_of X G Q8) (vV WV T C11 C10) fun _ _ _ _ _ _ us hl=>by obtain⟨_,rfl⟩:=nS hl;rfl
 have C7:de l.prog w K mg base 5 "is_scroll" ["thing"] (az K bj):=F7.iX (PySem.W.mg_of X G a7) (uw F7 T C6) fun _ _ _ _ _ _ us hl=>by obtain⟨_,rfl⟩:=nS hl;rfl
 have C8:gL l.prog w K mg base rn 6 "check_scroll" ["thing"] bJ:=dQ.y1 F8 (PySem.W.mg_of X G a8) (n8 F8 T C7) fun _ _ _ _ _ _ us hl=>by obtain⟨_,rfl⟩:=nS hl;rfl
 have Ye:gL l.prog w K mg base rn 6 "read_scroll" ["text"] aL:=dQ.y1 WW (PySem.W.mg_of X G Rb) (pK WW T C12 C15 C7) fun _ _ _ _ _ _ us hl=>by obtain⟨_,rfl⟩:=nS hl;rfl
 have Yf:gL l.prog w K mg base rn 7 "show_scroll" ["scroll"] aX:=dQ.y1 WU (PySem.W.mg_of X G Q0) (pJ WU T C8 C13) fun _ _ _ _ _ _ us hl=>by obtain⟨_,rfl⟩:=nS hl;rfl
 have C25:gL l.prog w K mg base rn 8 "_law_asked" ["_law_way", "_law_thing"] cZ:=dQ.y1 W8 (PySem.W.mg_of X G RT) (rE W8 T Ye Yf) fun _ _ _ _ _ _ us hl=>by obtain⟨_,_,rfl⟩:=oS hl;rfl
 have C31:de l.prog w K mg base 8 "_law_good" ["_law_scroll_here", "_law_text_here"] (az K cg):=Yd.iX (PySem.W.mg_of X G Sr) (uA Yd T Yf Ye C23) fun _ _ _ _ _ _ us hl=>by obtain⟨_,_,rfl⟩:=oS hl;rfl
 have C26:de l.prog w K mg base 9 "_law_kind" ["_law_way", "_law_thing"] (az K aY):=W9.iX (PySem.W.mg_of X G RZ) (ux W9 T C25) fun _ _ _ _ _ _ us hl=>by obtain⟨_,_,rfl⟩:=oS hl;rfl
 exact dI' F32 T C17 C18 C20 C24 C31 C29 C26 C27 C28 C30
theorem walk{l:PySem.W.OpenLaw}{q:Program}{loose:List Str}{XP:(Str->Option Value)->Heap->Prop}{YP:World->Heap->Prop}{d:DefRec}{K:Params->PySem.W.Frag}(hn:l.most=some 63)(D5:d.params.defaults=[])(hY:∀ (w:World) (h:Heap),YP w h->(K w.params).In h)(F:∀ (w:World) (mg:Str->Option Value) (fa:Addr) (h:Heap),(K w.params).In h->h.Ns mainGlobals mg->mg d.name=some (.ref fa) ->
   ∃ fd:FuncData,(∀ (s:Shared) (u:Value),BindsTo s fd ⟨[u],[]⟩ [("_law_script",u)])/\∀ base:Heap,(K w.params).In base->base.Ns mainGlobals mg->dA l.prog w (K w.params) mg base fP 10 fa fd ["_law_script"] (az (K w.params) B9)) :
  PySem.W.WalkO q loose XP YP l.row.toRowW d [] (fun f vs=>PySem.call f vs) :=
 L2.aZ' (n:=63) (k:=10) (x := "_law_script") (CX:=fun _=>fP) (sp:=fun w=>az (K w.params) B9) hn (by decide) D5 ⟨rfl,by decide,by decide⟩ hY F (fun w H a ns hl hO hS=>Ci hl hS) fun _ _ _ _ _ z=>z
end L2.Q.Ql
open PySem PySem.W PyProof.Rows
namespace PySem.W.Fast
def tw6311170978950620094:=0
def tw339625654436598009:=0
def tw1835390049419633219:=0
def tw4701330664618662676:=0
def tw9581732892888978258:=0
def tw16861102185484366240:=0
def tw12863889083681383689:=0
def tw12526053770420446974:=0
def tw5139559236361800544:=0
def tw15383654521877862365:=0
def tw13531998520652562609:=0
def tw4031022603565973056:=0
def tw6904924442840741459:=0
def tw5961194104086511296:=0
def tw11377324925935114058:=0
def tw5317145750474942643:=0
def tw15032189746102875659:=0
def tw9886845725392957892:=0
def tw3497978349764028012:=0
def tw18384875723717413217:=0
end PySem.W.Fast
set_option maxRecDepth 100000 in
set_option maxHeartbeats 0 in
theorem PySem.Challenge.cw_kinlook_k25_scrolls_as_text_holds : PySem.Challenge.rw_kinlook_k25_scrolls_as_text.Holds := by
 w_on;o_law;k_head;(case hw=>w_witness2)
 k_fill
 refine L2.Q.Ql.walk (l:=PySem.Challenge.rw_kinlook_k25_scrolls_as_text) rfl rfl (fun w h Y=>PySem.W.kIn_of Y) ?F
 case F =>
  intro w mg fa h KX G D6
  refine' L2.Q.Ql.all_mk KX G D6 ?a0 ?l0 ?c0 ?k0 ?a1 ?l1 ?c1 ?k1 ?a2 ?l2 ?c2 ?k2 ?a3 ?l3 ?c3 ?k3 ?a4 ?l4 ?c4 ?k4 ?a5 ?l5 ?c5 ?k5 ?a6 ?l6 ?c6 ?k6 ?a7 ?l7 ?c7 ?k7 ?a8 ?l8 ?c8 ?k8 ?a9 ?l9 ?c9 ?k9 ?QB ?l10 ?QC ?QD ?QF ?QH ?QJ ?QK ?QL ?QN ?QQ ?QR ?QV ?QX ?QY ?QZ ?Q0 ?Q5 ?Q6 ?Q7 ?Q8 ?Q9 ?Q_ ?Ra ?Rb ?Rc ?c16 ?Rf ?Rg ?Rh ?Ri ?Rj ?Rk ?Rl ?Rm ?Rn ?Ro ?Rp ?Rq ?Rr ?Rt ?Ru ?Rv ?Rx ?Ry ?Rz ?RA ?RB ?RC ?EJ ?RD ?RG ?RH ?RJ ?RK ?An ?RL ?RN ?RP ?RQ ?RT ?RV ?RW ?RX ?RZ ?R0 ?R3 ?R4 ?R5 ?R6 ?R7 ?R8 ?R9 ?R_ ?Sb ?Sd ?Se ?Sf ?Sg ?Sh ?Si ?Sj ?Sn ?Sq ?Sr ?Ss ?Sv ?Sw ?Sx ?Sy ?Sz ?SD ?FE ?y8 ?Cb ?FG ?A3 ?iq ?g9 ?y9 ?FH ?rX ?mr ?qq ?FI ?FK ?FL ?FP ?FR ?FT ?FU ?SF ?SJ ?SK ?SN ?SV ?SW ?SX ?SY ?S0 ?S1 ?S2 ?S4 ?S5 ?S6 ?S7 ?S8 ?S9 ?S_ ?Ta ?Tb ?Tc ?Td ?Te ?Tf ?Tg ?Ti ?Tj ?Tn ?To ?Tp ?Tq ?Tr
  (case a0=>k_is)
  (case l0=>k_is)
  (case c0=>k_is)
  (case k0=>k_is)
  (case a1=>k_is)
  (case l1=>k_is)
  (case c1=>k_is)
  (case k1=>k_is)
  (case a2=>k_is)
  (case l2=>k_is)
  (case c2=>k_is)
  (case k2=>k_is)
  (case a3=>k_is)
  (case l3=>k_is)
  (case c3=>k_is)
  (case k3=>k_is)
  (case a4=>k_is)
  (case l4=>k_is)
  (case c4=>k_is)
  (case k4=>k_is)
  (case a5=>k_is)
  (case l5=>k_is)
  (case c5=>k_is)
  (case k5=>k_is)
  (case a6=>k_is)
  (case l6=>k_is)
  (case c6=>k_is)
  (case k6=>k_is)
  (case a7=>k_is)
  (case l7=>k_is)
  (case c7=>k_is)
  (case k7=>k_is)
  (case a8=>k_is)
  (case l8=>k_is)
  (case c8=>k_is)
  (case k8=>k_is)
  (case a9=>k_is)
  (case l9=>k_is)
  (case c9=>k_is)
  (case k9=>k_is)
  (case QB=>k_is)
  (case l10=>k_is)
  (case QC=>k_is)
  (case QD=>k_is)
  (case QF=>k_is)
  (case QH=>k_is)
  (case QJ=>k_is)
  (case QK=>k_is)
  (case QL=>k_is)
  (case QN=>k_is)
  (case QQ=>k_is)
  (case QR=>k_is)
  (case QV=>k_is)
  (case QX=>k_is)
  (case QY=>k_is)
  (case QZ=>k_is)
  (case Q0=>k_is)
  (case Q5=>k_is)
  (case Q6=>k_is)
  (case Q7=>k_is)
  (case Q8=>k_is)
  (case Q9=>k_is)
  (case Q_=>k_is)
  (case Ra=>k_is)
  (case Rb=>k_is)
  (case Rc=>k_is)
  (case c16=>k_is)
  (case Rf=>k_is)
  (case Rg=>k_is)
  (case Rh=>k_is)
  (case Ri=>k_is)
  (case Rj=>k_is)
  (case Rk=>k_is)
  (case Rl=>k_is)
  (case Rm=>k_is)
  (case Rn=>k_is)
  (case Ro=>k_is)
  (case Rp=>k_is)
  (case Rq=>k_is)
  (case Rr=>k_is)
  (case Rt=>k_is)
  (case Ru=>k_is)
  (case Rv=>k_is)
  (case Rx=>k_is)
  (case Ry=>k_is)
  (case Rz=>k_is)
  (case RA=>k_is)
  (case RB=>k_is)
  (case RC=>k_is)
  (case EJ=>k_is)
  (case RD=>k_is)
  (case RG=>k_is)
  (case RH=>k_is)
  (case RJ=>k_is)
  (case RK=>k_is)
  (case An=>k_is)
  (case RL=>k_is)
  (case RN=>k_is)
  (case RP=>k_is)
  (case RQ=>k_is)
  (case RT=>k_is)
  (case RV=>k_is)
  (case RW=>k_is)
  (case RX=>k_is)
  (case RZ=>k_is)
  (case R0=>k_is)
  (case R3=>k_is)
  (case R4=>k_is)
  (case R5=>k_is)
  (case R6=>k_is)
  (case R7=>k_is)
  (case R8=>k_is)
  (case R9=>k_is)
  (case R_=>k_is)
  (case Sb=>k_is)
  (case Sd=>k_is)
  (case Se=>k_is)
  (case Sf=>k_is)
  (case Sg=>k_is)
  (case Sh=>k_is)
  (case Si=>k_is)
  (case Sj=>k_is)
  (case Sn=>k_is)
  (case Sq=>k_is)
  (case Sr=>k_is)
  (case Ss=>k_is)
  (case Sv=>k_is)
  (case Sw=>k_is)
  (case Sx=>k_is)
  (case Sy=>k_is)
  (case Sz=>k_is)
  (case SD=>k_is)
  (case FE=>k_is)
  (case y8=>k_is)
  (case Cb=>k_is)
  (case FG=>k_is)
  (case A3=>k_is)
  (case iq=>k_is)
  (case g9=>k_is)
  (case y9=>k_is)
  (case FH=>k_is)
  (case rX=>k_is)
  (case mr=>k_is)
  (case qq=>k_is)
  (case FI=>k_is)
  (case FK=>k_is)
  (case FL=>k_is)
  (case FP=>k_is)
  (case FR=>k_is)
  (case FT=>k_is)
  (case FU=>k_is)
  (case SF=>k_is)
  (case SJ=>k_is)
  (case SK=>k_is)
  (case SN=>k_is)
  (case SV=>k_is)
  (case SW=>k_exc)
  (case SX=>k_is)
  (case SY=>k_is)
  (case S0=>k_is)
  (case S1=>k_is)
  (case S2=>k_exc)
  (case S4=>k_is)
  (case S5=>k_is)
  (case S6=>k_is)
  (case S7=>k_is)
  (case S8=>k_exc)
  (case S9=>k_is)
  (case S_=>k_is)
  (case Ta=>k_is)
  (case Tb=>k_is)
  (case Tc=>k_is)
  (case Td=>kit_is)
  (case Te=>kit_is)
  (case Tf=>kit_is)
  (case Tg=>kit_is)
  (case Ti=>kit_is)
  (case Tj=>k_is)
  (case Tn=>kit_is)
  (case To=>kit_is)
  (case Tp=>kit_is)
  (case Tq=>kit_is)
  (case Tr=>kit_is)
