import PyProof.Rows.All
import Wide.All
import OpenK.AllK
import Wide.FinOn
import Lean
import PyProof.EqAt
import PyProof.EqKinds
import PyProof.TupleCall
import PyProof.CompUse
import PyProof.NeData
import PyProof.WalksEnum
import PyProof.EnumMake
import PyProof.ZipIter
import PyProof.Rows.EnumRows
import PyProof.Rows.FactsT2
import KE.KDictList
import PyProof.Rows.SortRuns
import PyProof.Rows.SortWalk
import KE.KSortTup
import PyProof.Rows.SortStr
import PyProof.ListRange
import PyProof.StrOps2
import PyProof.StrBlock2
import PyProof.AutoIntG3
import PyProof.ListMulRight
import PyProof.Rows.ListMulArg
import PyProof.Rows.CallKwBuiltin
import PyProof.Rows.StrMul
import KE.KMinBuiltin
import PyProof.TupleKey
import PyProof.SetKind
import PyProof.Rows.SetFrom
import PyProof.DictWalks
import KE.KRevIter
import PyProof.AutoSeq1
import PyProof.P3Eq
import PyProof.MeetsSeq3
import PyProof.FactsAll.list_2
import PyProof.FactsAll.tuple_2
import PyProof.Rows.RowHeap
import PyProof.FactsAll.list_3
import KE.KItem
import PyProof.MeetsSeq
import PyProof.FactsAll.list_4
import PySem.Challenge.RW_kinlook_k30_first_rounds
open PySem renaming wpAny_bind->xaa,wpAny_pure->xad,wpAny_mono->xa2
open List renaming mem_cons_of_mem->xab,mem_cons_self->xac,length_map->xaf,mem_cons->xag,mem_append_right->xai,getElem?_eq_some_iff->xaj,mem_map->xak,mem_append->xal,map_cons->xap,nodup_append->xar,sublist_append_right->xas,getElem?_eq_getElem->xau,size_toArray->xaw,mem_append_left->xay,mem_of_getElem?->xaB,mem_singleton->xaC,nodup_cons->xaD,getElem?_eq_none->xaF,map_map->xaG,getElem?_map->xaH,pairwise_map->xaK,length_append->xaL,pairwise_iff_getElem->xaM,drop_eq_getElem_cons->xaN,append_nil->xaO,nodup_nil->xaQ,mem_range->xaS,length_take->xaT,length_cons->xaU,replicate_succ->xaX,getElem?_append_right->xaY,mem_iff_getElem?->xa3,zip_cons_cons->xa6,lookup_cons->xa7,all_eq_true->xa8,flatten_cons->xba,mem_filter->xbb,sublist_append_left->xbc,nil_sublist->xbd,getElem_mem->xbe,getElem?_set_ne->xbf,ext_getElem?->xbg,nodup_iff_pairwise_ne->xbh,getD_eq_getElem?_getD->xbi,getElem?_append_left->xbj,length_drop->xbk,pairwise_cons->xbl,all_cons->xbo,any_cons->xbp,map_congr_left->xbq,append_eq_nil_iff->xbs,nil_append->xbx,mem_of_mem_take->xbA,filterMap_cons->xbB,countP_cons->xbD,any_eq_true->xbE,filter_eq_self->xbF,length_eq_zero_iff->xbH,getElem?_set_self->xbI,find?_cons->xbJ,map_append->xbL,all_map->xbO,not_mem_nil->xbR,take_length->xbS,length_zip->xbU,append_assoc->xbZ,take_add_one->xb1,drop_of_length_le->xb2,map_fst_zip->xb5,drop_length->xb6,cons_ne_nil->xb7,eq_nil_iff_forall_not_mem->xb8,mem_of_mem_drop->xb9,pairwise_append->xca,foldl_cons->xcc,length_set->xcd,mem_filterMap->xch,filterMap_map->xci,length_range->xck
open PySem.Heap renaming get?_push_of_some->xae,lt_size->xan,get?_push_size->xao,get?_update_other->xbr,size_push->xbt,get?_update_self->xbu,get?_push_ne->xbz,size_update->xbC
open Nat renaming le_refl->xah,le_trans->xaq,ne_of_lt->xat,lt_of_lt_of_le->xav,zero_le->xaz,lt_succ_of_lt->xaI,le_of_lt->xaP,lt_succ_of_le->xaV,le_of_not_lt->xaW,zero_add->xa5,lt_irrefl->xa9,pow_succ->xbn,not_lt_zero->xbw,le_of_eq->xbG,succ_pos->xbN,le_add_right->xbQ,mul_assoc->xbT,ne_of_gt->xbW,lt_or_ge->xbX,le_of_succ_le->xbY,le_of_lt_succ->xb0,lt_of_not_le->xb3,lt_succ_self->xb4,min_self->xce,mod_lt->xcf,lt_of_le_of_lt->xcg,sub_le->xcn,lt_trans->xco,sub_zero->xcq,add_zero->xcr,mul_comm->xcs
open Bool renaming false_ne_true->xam,false_eq_true->xax,and_eq_true->xaA,eq_iff_iff->xa4,not_true->xcl,and_true->xcm
open Array renaming getElem?_toList->xaE,getElem?_eq_getElem->xaJ,getD_eq_getD_getElem?->xaR,getElem?_eq_none->xaZ,length_toList->xa0,getElem?_eq_some_iff->xbv,toArray_toList->xbP
open Int renaming toNat_of_nonneg->xa1,le_refl->xbm,toNat_natCast->xby,le_of_lt->xbM,emod_lt_of_pos->xbV,emod_nonneg->xcb,le_trans->xcp
open Option renaming map_eq_some_iff->xbK,isSome_map->xcj
local macro_rules | `(command| def $i:declId $s:optDeclSig $v:declVal)=>`(command| noncomputable def $i:declId $s:optDeclSig $v:declVal)
local macro_rules | `(command| abbrev $i:declId $s:optDeclSig $v:declVal)=>`(command| noncomputable abbrev $i:declId $s:optDeclSig $v:declVal)
set_option compiler.extract_closed false
local macro_rules | `(tactic| walk_at "l") => `(tactic| first | lia | omega)
local macro_rules | `(tactic| walk_at "s1") => `(tactic| solve_by_elim (maxDepth := 4) [Nat.lt_of_lt_of_le, Nat.lt_of_le_of_lt, Nat.le_trans, Nat.lt_trans, Nat.le_of_lt, Nat.le_of_not_lt])
local macro_rules | `(tactic| walk_at "s2") => `(tactic| solve_by_elim (maxDepth := 5) [Nat.lt_of_lt_of_le, Nat.lt_of_le_of_lt, Nat.le_trans, Nat.le_of_lt, Nat.le_of_not_lt, Nat.lt_of_not_le, Nat.lt_of_succ_lt, Nat.le_of_succ_le])
local macro_rules | `(tactic| walk_at "s3") => `(tactic| solve_by_elim (maxDepth := 5) [Int.lt_of_lt_of_le, Int.lt_of_le_of_lt, Int.le_trans, Int.le_of_lt, Int.not_lt.mp, Int.not_le.mp])
local macro_rules | `(tactic| walk_at "s4") => `(tactic| solve_by_elim (maxDepth := 5) [Nat.le_trans, Nat.lt_of_lt_of_le, Nat.le_of_lt, Nat.le_add_right, Nat.le_add_left, Nat.add_le_add_left, Nat.add_lt_add_left, Nat.succ_le_succ, Nat.sub_le])
theorem L2.ex2 {α β:Type _} {A B C:α->β->Prop} {G:Prop} (x:∃ a b,A a b/\B a b/\C a b) (k:∀ a b,A a b->B a b->C a b->G):G :=
 let ⟨a,b,p,q,r⟩:=x
 k a b p q r
set_option Elab.async false
set_option linter.all false
set_option maxRecDepth 100000
namespace L2
open PySem PySem.Spec PyProof.Rows
abbrev Key:=Sum Int Str
def keyIs:Key->Value->Bool
 | .inl k,v=>Value.isInt k v
 | .inr x,v=>Value.isStrOf x v
def keyH (w:World):Key->Int
 | .inl k=>hashInt k
 | .inr x=>hashStr w x
theorem keyIs_shape:∀ {k:Key} {v:Value},keyIs k v=true->(∃ i t,k=Sum.inl i/\v=Value.int i t)\/(∃ x t,k=Sum.inr x/\v=Value.str x t)
 | .inl i,v,h=>by
  obtain ⟨t,e⟩:=Value.isInt_shape (k:=i) (v:=v) h
  exact .inl ⟨i,t,rfl,e⟩
 | .inr x,v,h=>by
  obtain ⟨t,e⟩:=Value.isStrOf_shape (x:=x) (v:=v) h
  exact .inr ⟨x,t,rfl,e⟩
theorem keyIs_int (i:Int) (t:Tok):keyIs (.inl i) (.int i t)=true:=by simp [keyIs,Value.isInt]
theorem keyIs_str (x:Str) (t:Tok):keyIs (.inr x) (.str x t)=true:=by simp [keyIs,Value.isStrOf]
theorem key_ll (a b:Int):decide ((Sum.inl a:Key)=Sum.inl b)=(a == b):=by
 by_cases e:a=b
 ·subst e; simp
 ·have h:¬ (Sum.inl a:Key)=Sum.inl b:=fun q=>e (Sum.inl.inj q)
  rw [decide_eq_false h]
  exact (beq_eq_false_iff_ne.mpr e).symm
theorem key_rr (a b:Str):decide ((Sum.inr a:Key)=Sum.inr b)=decide (a=b):=by
 by_cases e:a=b
 ·subst e; simp
 ·have h:¬ (Sum.inr a:Key)=Sum.inr b:=fun q=>e (Sum.inr.inj q)
  rw [decide_eq_false h,decide_eq_false e]
theorem key_lr (a:Int) (b:Str):decide ((Sum.inl a:Key)=Sum.inr b)=false:=decide_eq_false (fun q=>nomatch q)
theorem key_rl (a:Str) (b:Int):decide ((Sum.inr a:Key)=Sum.inl b)=false:=decide_eq_false (fun q=>nomatch q)
def mixKind (prog:Program) (w:World):PySem.KeyKind prog w Key where
 is:=keyIs
 hash:=keyH w
 inj:=fun v a b ha hb=>by
  rcases keyIs_shape ha with ⟨i,t,rfl,rfl⟩ | ⟨x,t,rfl,rfl⟩
  ·rcases keyIs_shape hb with ⟨j,u,rfl,e⟩ | ⟨y,u,rfl,e⟩
   ·injection e with e1 _; rw [e1]
   ·exact nomatch e
  ·rcases keyIs_shape hb with ⟨j,u,rfl,e⟩ | ⟨y,u,rfl,e⟩
   ·exact nomatch e
   ·injection e with e1 _; rw [e1]
 byValue:=fun k v h=>by
  rcases keyIs_shape h with ⟨i,t,rfl,rfl⟩ | ⟨x,t,rfl,rfl⟩ <;> rfl
 pyHash:=fun hv h=>by
  rcases keyIs_shape hv with ⟨i,t,rfl,rfl⟩ | ⟨x,t,rfl,rfl⟩
  ·exact wpAny_pyHash_int h
  ·exact wpAny_pyHash_str h
 eqBool:=fun hu hv h=>by
  rcases keyIs_shape hu with ⟨i,t,rfl,rfl⟩ | ⟨x,t,rfl,rfl⟩
  ·rcases keyIs_shape hv with ⟨j,u,rfl,rfl⟩ | ⟨y,u,rfl,rfl⟩
   ·rw [key_ll] at h; exact wpAny_eqBool_int h
   ·rw [key_lr] at h; exact SeqAt.EqAt.int_str i t y u _ _ _ _ h
  ·rcases keyIs_shape hv with ⟨j,u,rfl,rfl⟩ | ⟨y,u,rfl,rfl⟩
   ·rw [key_rl] at h; exact SeqAt.EqAt.str_int x t j u _ _ _ _ h
   ·rw [key_rr] at h; exact wpAny_eqBool_str h
 «strs» := fun k x t v h=>by
  rcases keyIs_shape h with ⟨i,u,rfl,e⟩ | ⟨y,u,rfl,e⟩
  ·exact nomatch e
  ·injection e with e1 _
   subst e1
   cases v <;> rfl
theorem mixKind_int (prog:Program) (w:World) (i:Int) (t:Tok):(mixKind prog w).is (.inl i) (.int i t)=true:=keyIs_int i t
theorem mixKind_str (prog:Program) (w:World) (x:Str) (t:Tok):(mixKind prog w).is (.inr x) (.str x t)=true:=keyIs_str x t
inductive V where
 | non | bl (b:Bool) | int (i:Int) | str (x:Str) | byt (b:Array UInt8) | flt (b:UInt64) | ref (a:Addr) | ty (n:String)
 deriving DecidableEq
def RelV:V->Value->Prop
 | .non,u=>u=Value.none
 | .bl b,u=>u=Value.bool b
 | .int i,u=>∃ t,u=Value.int i t
 | .str x,u=>∃ t,u=Value.str x t
 | .byt b,u=>∃ t,u=Value.bytes b t
 | .flt b,u=>∃ t,u=Value.float b t
 | .ref a,u=>u=Value.ref a
 | .ty n,u=>u=Value.type n
abbrev Vals:List V->List Value->Prop:=Paired RelV
theorem Vals.length {xs:List V} {us:List Value} (r:Vals xs us):xs.length=us.length:=Paired.length r
theorem Vals.get:∀ {xs:List V} {us:List Value} {i:Nat} {x:V},Vals xs us->xs[i]? = some x->∃ u,us[i]? = some u/\RelV x u
 | _,_,_,_,.nil,e=>by simp at e
 | _,_,0,_,.cons r _,e=>by simp at e; subst e; exact ⟨_,rfl,r⟩
 | _,_,i+1,x,.cons _ t,e=>by
  obtain ⟨u,h1,h2⟩:=Vals.get (i:=i) (x:=x) t (by simpa using e)
  exact ⟨u,by simpa using h1,h2⟩
theorem Vals.set {x:V} {u:Value} (r:RelV x u):∀ {xs:List V} {us:List Value} (i:Nat),Vals xs us->Vals (xs.set i x) (us.set i u)
 | _,_,_,.nil=>.nil
 | _,_,0,.cons _ t=>.cons r t
 | _,_,i+1,.cons q t=>.cons q (Vals.set r i t)
theorem Vals.append:∀ {xs ys:List V} {us ws:List Value},Vals xs us->Vals ys ws->Vals (xs++ys) (us++ws)
 | _,_,_,_,.nil,s=>s
 | _,_,_,_,.cons r t,s=>.cons r (Vals.append t s)
theorem Vals.take:∀ {xs:List V} {us:List Value} (n:Nat),Vals xs us->Vals (xs.take n) (us.take n)
 | _,_,0,_=>.nil
 | _,_,_+1,.nil=>.nil
 | _,_,n+1,.cons r t=>.cons r (Vals.take n t)
theorem Vals.drop:∀ {xs:List V} {us:List Value} (n:Nat),Vals xs us->Vals (xs.drop n) (us.drop n)
 | _,_,0,r=>r
 | _,_,_+1,.nil=>.nil
 | _,_,n+1,.cons _ t=>Vals.drop n t
def RelO:Option V->Option Value->Prop
 | some v,some u=>RelV v u
 | none,none=>True
 | _,_=>False
def KV {κ:Type}:List (κ × V)->List (κ × Value)->Prop:=Paired fun (p:κ × V) (q:κ × Value)=>p.1=q.1/\RelV p.2 q.2
def kV:Key->V
 | .inl i=>.int i
 | .inr x=>.str x
inductive HO where
 /-- a list -/
 | lst (xs:List V)
 /-- a tuple (never changes) -/
 | tup (xs:List V)
 /-- a dict whose keys are ints and texts; one whose keys are tuples of ints and texts (the empty one is both) -/
 | dK (kvs:List (Key × V)) | dT (kvs:List (List Key × V))
 /-- a set of ints: its members,its size -/
 | set (S:Int->Bool) (n:Nat)
 /-- an instance of the class at C,its dict at dx,its attributes -/
 | ins (C dx:Addr) (fs:List (Str × V))
 /-- the dict of the instance at x -/
 | own (x:Addr)
 /-- the dict of an exception -/
 | xd (fs:List (Str × V))
 /-- a bound method,f of x -/
 | met (f x:Addr)
 /-- a range object lo,lo+1,.. below hi -/
 | rng (lo hi:Int)
 /-- a thing that is known to the object (the script; a dict while a loop walks it): read,never written while it is so -/
 | frz (o:Obj) (u:HO)
 /-- a code object's table -/
 | tbl (ps:Array Value)
 /-- any other thing,by what is true of its one object (a def of one's own: SetO a S n:=HO.ext fun h=>..) -/
 | ext (φ:Heap->Prop)
abbrev Hp:=Addr->Option HO
def upd (H:Hp) (a:Addr) (o:HO):Hp:=fun b=>if b=a then some o else H b
theorem upd_same {H:Hp} {a:Addr} {o:HO}:upd H a o a=some o:=by unfold upd; rw [if_pos rfl]
theorem upd_ne {H:Hp} {a b:Addr} {o:HO} (h:b≠a):upd H a o b=H b:=by unfold upd; rw [if_neg h]
theorem ne_of {H:Hp} {a b:Addr} {o u:HO} (h:H a=some o) (h':H b=some u) (d:o≠u):a≠b:=by
 intro e; subst e; rw [h] at h'; exact d (Option.some.inj h')
theorem ne_of_none {H:Hp} {a b:Addr} {o:HO} (h:H a=some o) (h':H b=none):a≠b:=by
 intro e; subst e; rw [h] at h'; cases h'
section
variable (P:Program) (w:World)
def ObjOk (H:Hp) (h:Heap) (a:Addr):HO->Prop
 | .lst xs=>xs.length<=sizeLine/\∃ (its:List Value) (n:Nat),Vals xs its/\h.get? a=some { cls:=.type "list",data:=.seq its.toArray n }
 | .tup xs=>xs.length<=sizeLine/\∃ its:List Value,Vals xs its/\IsTup h a its.toArray
 | .dK kvs=>kvs.length<=sizeLine/\(a == sysModules)=false/\∃ vs,KV kvs vs/\h.DictOf (mixKind P w) a vs
 | .dT kvs=>kvs.length<=sizeLine/\(a == sysModules)=false/\∃ xs:List (List Key × Addr × Value),
   Paired (fun (p:List Key × V) (q:List Key × Addr × Value)=>p.1=q.1/\H q.2.1=some (.tup (p.1.map kV))/\RelV p.2 q.2.2) kvs xs /\
   ∃ o es ep,h.get? a=some o/\o.ExactDict/\o.data=.dict es ep/\es.toList=xs.map (entryOfKey (tupleKind (mixKind P w)))/\(xs.map (·.1)).Nodup
 | .set S n=>h.SetOf (intKind P w) a S n
 | .ins C dx fs=>H dx=some (.own a)/\fs.length<=1000/\dx≠a/\h.get? a=some (PySem.W.instObj C dx) /\
   ∃ mA,h.Ns1 dx mA/\(∀ f,RelO (fs.lookup f) (mA f))/\PySem.Within mA (fs.map (·.1))
 | .own _=>∃ o,h.get? a=some o
 | .xd fs=>∃ mA,h.Ns1 a mA/\∀ f,RelO (fs.lookup f) (mA f)
 | .rng lo hi=>∃ t u v,h.get? a=some { cls:=.type "range",data:=.fields #[.int lo t,.int hi u,.int 1 v] }
 | .frz o u=>h.get? a=some o/\ObjOk H h a u
 | .tbl ps=>h.get? a=some { cls:=.none,data:=.fields ps }
 | .met f x=>h.get? a=some (PySem.W.methodObj (.ref f) (.ref x))
 | .ext φ=>φ h/\(∃ o,h.get? a=some o)/\∀ h1 h2:Heap,φ h1->(∀ o,h1.get? a=some o->h2.get? a=some o)->φ h2
def HOk (H:Hp) (h:Heap):Prop:=∀ a o,H a=some o->ObjOk P w H h a o
end
section
variable {P:Program} {w:World} {H H':Hp} {h h':Heap} {a:Addr} {o:HO}
theorem ObjOk.lt (x:ObjOk P w H h a o):a<h.objs.size:=by
 cases o with
 | lst xs=>obtain ⟨_,_,_,_,e⟩:=x; exact xan e
 | tup xs=>obtain ⟨_,_,_,p⟩:=x; exact p.lt
 | dK kvs=>obtain ⟨_,_,_,_,o,_,_,e,_⟩:=x; exact xan e
 | dT kvs=>obtain ⟨_,_,_,_,o,_,_,e,_⟩:=x; exact xan e
 | set S n=>obtain ⟨o,_,_,_,e,_⟩:=x; exact xan e
 | ins C dx fs=>obtain ⟨_,_,_,e,_⟩:=x; exact xan e
 | own y=>obtain ⟨_,e⟩:=x; exact xan e
 | xd fs=>obtain ⟨_,⟨_,_,_,e,_⟩,_⟩:=x; exact xan e
 | rng lo hi=>obtain ⟨_,_,_,e⟩:=x; exact xan e
 | frz ob u=>obtain ⟨e,_⟩:=x; exact xan e
 | tbl ps=>exact xan (show h.get? a=some _ from x)
 | met f y=>exact xan (show h.get? a=some _ from x)
 | ext φ=>obtain ⟨_,⟨_,e⟩,_⟩:=x; exact xan e
theorem Paired.mapP {α β:Type} {F G:α->β->Prop}:∀ {l₁:List α} {l₂:List β},Paired F l₁ l₂->(∀ a b,F a b->G a b)->Paired G l₁ l₂
 | _,_,.nil,_=>.nil
 | _,_,.cons r t,f=>.cons (f _ _ r) (Paired.mapP t f)
theorem ObjOk.stay (x:ObjOk P w H h a o) (k:∀ b u,(b=a\/H b=some (.own a))->h.get? b=some u->h'.get? b=some u)
  (ho:∀ b,H b=some (.own a)->H' b=some (.own a)) (ht:∀ b xs,H b=some (.tup xs)->H' b=some (.tup xs)):ObjOk P w H' h' a o:=by
 induction o with
 | lst xs=>obtain ⟨z,its,n,r,e⟩:=x; exact ⟨z,its,n,r,k _ _ (.inl rfl) e⟩
 | tup xs=>obtain ⟨z,its,r,ob,e,c⟩:=x; exact ⟨z,its,r,ob,k _ _ (.inl rfl) e,c⟩
 | dK kvs=>obtain ⟨z,y,vs,r,ob,es,ep,e,c⟩:=x; exact ⟨z,y,vs,r,ob,es,ep,k _ _ (.inl rfl) e,c⟩
 | dT kvs =>
  obtain ⟨z,y,xs,r,ob,es,ep,e,c⟩:=x
  exact ⟨z,y,xs,Paired.mapP r fun p q z=>⟨z.1,ht _ _ z.2.1,z.2.2⟩,ob,es,ep,k _ _ (.inl rfl) e,c⟩
 | set S n=>obtain ⟨ob,es,ep,t,e,c⟩:=x; exact ⟨ob,es,ep,t,k _ _ (.inl rfl) e,c⟩
 | ins C dx fs =>
  obtain ⟨d,z,ne,e,mA,⟨od,es,ep,e2,c⟩,r⟩:=x
  exact ⟨ho _ d,z,ne,k _ _ (.inl rfl) e,mA,⟨od,es,ep,k _ _ (.inr d) e2,c⟩,r⟩
 | own y=>obtain ⟨ob,e⟩:=x; exact ⟨ob,k _ _ (.inl rfl) e⟩
 | xd fs=>obtain ⟨mA,⟨od,es,ep,e,c⟩,r⟩:=x; exact ⟨mA,⟨od,es,ep,k _ _ (.inl rfl) e,c⟩,r⟩
 | rng lo hi=>obtain ⟨t,u,v,e⟩:=x; exact ⟨t,u,v,k _ _ (.inl rfl) e⟩
 | frz ob u ih=>obtain ⟨e,q⟩:=x; exact ⟨k _ _ (.inl rfl) e,ih q⟩
 | tbl ps =>
  have e:h.get? a=some { cls:=.none,data:=.fields ps }:=x
  show h'.get? a=some { cls:=.none,data:=.fields ps }
  exact k a _ (.inl rfl) e
 | met f y =>
  have e:h.get? a=some (PySem.W.methodObj (.ref f) (.ref y)):=x
  show h'.get? a=some (PySem.W.methodObj (.ref f) (.ref y))
  exact k a _ (.inl rfl) e
 | ext φ=>obtain ⟨p,⟨o,e⟩,st⟩:=x; exact ⟨st _ _ p fun o q=>k _ _ (.inl rfl) q,⟨o,k _ _ (.inl rfl) e⟩,st⟩
theorem HOk.lt (x:HOk P w H h) (e:H a=some o):a<h.objs.size:=(x a o e).lt
theorem HOk.fresh (x:HOk P w H h) (e:h.objs.size<=a):H a=none:=by
 cases q:H a with
 | none=>rfl
 | some u=>exact absurd (xav (x.lt q) e) (xa9 _)
theorem HOk.kept (x:HOk P w H h) (k:∀ b u,h.get? b=some u->h'.get? b=some u):HOk P w H h':=fun a o e =>
 (x a o e).stay (fun b u _ q=>k b u q) (fun _ q=>q) fun _ _ q=>q
theorem HOk.laid (x:HOk P w H h) (k:∀ b u,h.get? b=some u->h'.get? b=some u) (hp:h.objs.size<=a) (new:ObjOk P w (upd H a o) h' a o):HOk P w (upd H a o) h':=fun b u e=>by
 have hn:=x.fresh hp
 by_cases hb:b=a
 ·subst hb; rw [upd_same] at e; cases e; exact new
 ·rw [upd_ne hb] at e
  exact (x b u e).stay (fun c v _ q=>k c v q) (fun c q=>by rw [upd_ne (ne_of_none q hn)]; exact q) fun c xs q=>by rw [upd_ne (ne_of_none q hn)]; exact q
end
def Rd (H:Hp) (a:Addr) (u:HO):Prop:=H a=some u\/∃ o,H a=some (.frz o u)
theorem Rd.of {H:Hp} {a:Addr} {u:HO} (h:H a=some u):Rd H a u:=.inl h
theorem Rd.ok {P:Program} {w:World} {H:Hp} {h:Heap} {a:Addr} {u:HO} (r:Rd H a u) (x:HOk P w H h):ObjOk P w H h a u:=by
 rcases r with r | ⟨o,r⟩
 ·exact x a u r
 ·obtain ⟨_,q⟩:=x a _ r
  exact q
def Mut:Option HO->Prop
 | some (.lst _)=>True
 | some (.dK _)=>True
 | some (.dT _)=>True
 | some (.set _ _)=>True
 | some (.ins _ _ _)=>True
 | some (.ext _)=>True
 | _=>False
section
variable {P:Program} {w:World} {H:Hp} {h h':Heap} {x e:Addr} {o':HO}
theorem HOk.write (ok:HOk P w H h) (mu:Mut (H x)) (he:e=x\/H e=some (.own x)) (k:∀ b u,b≠e->h.get? b=some u->h'.get? b=some u) (heo:∃ u,h'.get? e=some u)
  (new:ObjOk P w (upd H x o') h' x o'):HOk P w (upd H x o') h':=fun b u q=>by
 have nown:∀ c y,H c=some (.own y)->c≠x:=fun c y r z=>by subst z; rw [r] at mu; exact mu
 have ntup:∀ c xs,H c=some (.tup xs)->c≠x:=fun c xs r z=>by subst z; rw [r] at mu; exact mu
 by_cases hb:b=x
 ·subst hb; rw [upd_same] at q; cases q; exact new
 ·rw [upd_ne hb] at q
  by_cases hbe:b=e
  ·have q':H b=some (.own x):=by
    rcases he with z | z
    ·exact absurd (hbe.trans z) hb
    ·rw [hbe]; exact z
   rw [q] at q'; cases q'
   obtain ⟨v,hv⟩:=heo
   exact ⟨v,by rw [hbe]; exact hv⟩
  ·refine (ok b u q).stay (fun c v hc r=>k c v ?_ r) (fun c r=>by rw [upd_ne (nown c b r)]; exact r) fun c xs r=>by rw [upd_ne (ntup c xs r)]; exact r
   rcases hc with rfl | hc
   ·exact hbe
   ·rintro rfl
    rcases he with z | z
    ·exact nown c b hc z
    ·rw [hc] at z; cases z; exact hb rfl
end
structure Un (fs ex:List Addr) (H H':Hp) (h h':Heap):Prop where
 keep:∀ b o,h.get? b=some o->H b=none->b∉fs->b∉ex->h'.get? b=some o
 slot:∀ b o,h.get? b=some o->H b=none->b∈fs->b∉ex->∃ sl,h'.get? b=some { o with slots:=sl }
 free:∀ b o,h.get? b=some o->H b=none->b∉ex->H' b=none
 there:∀ b o,h.get? b=some o->b∉ex->∃ o',h'.get? b=some o'
 tups:∀ b xs,H b=some (.tup xs)->H' b=some (.tup xs)
 frzs:∀ b o u,H b=some (.frz o u)->H' b=some (.frz o u)
 tbls:∀ b ps,H b=some (.tbl ps)->∃ more,H' b=some (.tbl (ps++more))
section
variable {fs fs' ex ex':List Addr} {H H1 H2:Hp} {h h1 h2 h':Heap} {a x e:Addr} {o:HO}
theorem Un.any (u:Un fs ex H H1 h h1) {b:Addr} {ob:Obj} (q:h.get? b=some ob) (n:H b=none) (hx:b∉ex):∃ sl,h1.get? b=some { ob with slots:=sl }:=by
 by_cases hb:b∈fs
 ·exact u.slot b ob q n hb hx
 ·exact ⟨ob.slots,u.keep b ob q n hb hx⟩
theorem Un.trans (a:Un fs ex H H1 h h1) (b:Un fs ex H1 H2 h1 h2):Un fs ex H H2 h h2 where
 keep:=fun c ob q n hc hx=>b.keep c ob (a.keep c ob q n hc hx) (a.free c ob q n hx) hc hx
 slot:=fun c ob q n hc hx=>by
  obtain ⟨sl,e1⟩:=a.slot c ob q n hc hx
  obtain ⟨sl',e2⟩:=b.slot c _ e1 (a.free c ob q n hx) hc hx
  exact ⟨sl',e2⟩
 free:=fun c ob q n hx=>by
  obtain ⟨o',e1⟩:=a.there c ob q hx
  exact b.free c o' e1 (a.free c ob q n hx) hx
 there:=fun c ob q hx=>by
  obtain ⟨o',e1⟩:=a.there c ob q hx
  exact b.there c o' e1 hx
 tups:=fun c xs q=>b.tups c xs (a.tups c xs q)
 frzs:=fun c ob xs q=>b.frzs c ob xs (a.frzs c ob xs q)
 tbls:=fun c ps q=>by
  obtain ⟨m1,e1⟩:=a.tbls c ps q
  obtain ⟨m2,e2⟩:=b.tbls c _ e1
  exact ⟨m1++m2,by rw [e2,Array.append_assoc]⟩
theorem Un.kept (k:∀ b u,h.get? b=some u->h'.get? b=some u):Un fs ex H H h h' :=
 ⟨fun b ob q _ _ _=>k b ob q,fun b ob q _ _ _=>⟨ob.slots,k b ob q⟩,fun _ _ _ n _=>n,fun b ob q _=>⟨ob,k b ob q⟩,fun _ _ q=>q,fun _ _ _ q=>q,fun _ ps q=>⟨#[],by rw [q]; simp⟩⟩
theorem Un.refl:Un fs ex H H h h:=Un.kept fun _ _ q=>q
theorem Un.laid (k:∀ b u,h.get? b=some u->h'.get? b=some u) (hp:h.objs.size<=a) (hn:H a=none):Un fs ex H (upd H a o) h h' where
 keep:=fun b u q _ _ _=>k b u q
 slot:=fun b u q _ _ _=>⟨u.slots,k b u q⟩
 free:=fun b u q n _=>by rw [upd_ne (xat (xav (xan q) hp))]; exact n
 there:=fun b u q _=>⟨u,k b u q⟩
 tups:=fun b xs q=>by rw [upd_ne (ne_of_none q hn)]; exact q
 frzs:=fun b u xs q=>by rw [upd_ne (ne_of_none q hn)]; exact q
 tbls:=fun b ps q=>⟨#[],by rw [upd_ne (ne_of_none q hn),q]; simp⟩
theorem Un.write (mu:Mut (H x)) (he:e=x\/H e=some (.own x)) (k:∀ b u,b≠e->h.get? b=some u->h'.get? b=some u) (heo:∃ u,h'.get? e=some u):Un fs ex H (upd H x o) h h':=by
 have hx:∀ b,H b=none->b≠x:=fun b n z=>by subst z; rw [n] at mu; exact mu
 have hb:∀ b,H b=none->b≠e:=fun b n z=>by
  subst z
  rcases he with r | r
  ·exact hx b n r
  ·rw [n] at r; cases r
 have hm:∀ b u,H b=some u->¬ Mut (some u)->b≠x:=fun b u q nm z=>by subst z; rw [q] at mu; exact nm mu
 refine ⟨fun b u q n _ _=>k b u (hb b n) q,fun b u q n _ _=>⟨u.slots,k b u (hb b n) q⟩,fun b u q n _=>by rw [upd_ne (hx b n)]; exact n,fun b u q _=>?_,
  fun b xs q=>by rw [upd_ne (hm b _ q fun z=>z)]; exact q,fun b u xs q=>by rw [upd_ne (hm b _ q fun z=>z)]; exact q,fun b ps q=>⟨#[],by rw [upd_ne (hm b _ q fun z=>z),q]; simp⟩⟩
 by_cases hbe:b=e
 ·subst hbe; exact heo
 ·exact ⟨u,k b u hbe q⟩
theorem Un.mono (u:Un fs ex H H1 h h1) (hs:∀ b∈fs,b∈fs') (hx:∀ b∈ex,b∈ex'):Un fs' ex' H H1 h h1 :=
 ⟨fun b ob q n hb he=>u.keep b ob q n (fun z=>hb (hs b z)) fun z=>he (hx b z),fun _ _ q n _ he=>u.any q n fun z=>he (hx _ z),fun b ob q n he=>u.free b ob q n fun z=>he (hx b z),fun b ob q he=>u.there b ob q fun z=>he (hx b z),u.tups,u.frzs,u.tbls⟩
end
def trk (h:Heap) (H:Hp):List Addr:=(List.range h.objs.size).filter fun a=>(H a).isSome
def hidT (h:Heap) (H:Hp):Heap:=PySem.W.hideAll h (trk h H)
theorem hidT_size (h:Heap) (H:Hp):(hidT h H).objs.size=h.objs.size:=PySem.W.hideAll_size _ _
theorem hidT_get {h:Heap} {H:Hp} {b:Addr} {o:Obj} (e:h.get? b=some o) (n:H b=none):(hidT h H).get? b=some o :=
 PySem.W.hideAll_get _ e fun hm=>by
  have q:(H b).isSome=true:=(xbb.mp hm).2
  rw [n] at q; simp at q
theorem of_hidT {h:Heap} {H:Hp} {b:Addr} {o:Obj} (e:(hidT h H).get? b=some o):h.get? b=some o/\H b=none:=by
 have e':h.get? b=some o:=PySem.W.of_hideAll (trk h H) e
 refine ⟨e',?_⟩
 cases q:H b with
 | none=>rfl
 | some x =>
  have hm:b∈trk h H:=xbb.mpr ⟨xaS.mpr (xan e'),by simp [q]⟩
  have z:(hidT h H).get? b=none:=PySem.W.hideAll_none (trk h H) hm
  rw [z] at e; cases e
def allNews (g h:Heap) (L:Addr):List (Addr × Obj):=(List.range h.objs.size).filterMap fun a=>if a=L\/(g.get? a).isSome=true then none else (h.get? a).map fun o=>(a,o)
def rest (g h:Heap) (L d:Addr):List (Addr × Obj):=(allNews g h L).filter fun p=>decide (p.1≠d)
structure Mod (K:PySem.W.Frag) (mg:Str->Option Value) (base:Heap):Prop where
 kin:K.In base
 glob:base.Ns mainGlobals mg
 blt:∃ mb,base.Ns builtinsNs mb/\∀ x:Str,x ≠ "__name__"->mb x=bootBuiltins x
 nolimit:base.NoLimit
structure Cx where
 prog:Program
 w:World
 K:PySem.W.Frag
 mg:Str->Option Value
 base:Heap
 A:Around
 N:List Str
 s₀:Shared
 H₀:Hp
 env:Env
 outer:List Env
 stack:List Env
 ex:List Addr
 fn:Str->Bool
 calm:Bool
 pn:List (Addr × Obj)
 xe:Value->Shared->Prop
def frs (l:List Env):List Addr:=l.filterMap (·.frame)
abbrev Cx.fs (X:Cx):List Addr:=frs X.outer
def Vis (sc:Scope) (x:Str):Prop:=sc.names.lookup x=some .local\/sc.names.lookup x=some .cell\/sc.names.lookup x=some .free
def Loc (sc:Scope) (x:Str):Prop:=sc.names.lookup x=some .local\/sc.names.lookup x=some .cell
def Look (env:Env) (h:Heap) (m:Str->Option Value) (x:Str) (u:Value):Prop :=
 (env.kindOf x=some .local/\m x=some u)\/((env.kindOf x=some .cell\/env.kindOf x=some .free)/\∃ c,env.cells.lookup x=some c/\h.IsCell c (some u))
structure Cx.Ok (X:Cx):Prop where
 mod:Mod X.K X.mg X.base
 kind:X.env.scope.kind=.function
 glob:X.env.globals=mainGlobals
 blt:X.env.builtins=builtinsNs
 above:X.s₀.heap.objs.size<=X.env.locals
 inj:∀ x y c,X.env.cells.lookup x=some c->X.env.cells.lookup y=some c->x=y
 has:∀ x,(X.env.kindOf x=some .cell\/X.env.kindOf x=some .free)->∃ c,X.env.cells.lookup x=some c
 cab:∀ x c,X.fn x=true->X.env.cells.lookup x=some c->X.s₀.heap.objs.size<=c
 hd:X.calm=true->X.A.handled=none
 frames:X.A.frames=some X.stack
 stk:X.stack=X.outer\/(X.stack=X.env :: X.outer/\X.env.frame=some X.env.locals)
 exf:∀ b∈X.ex,b≠X.env.locals/\∀ x c,X.env.cells.lookup x=some c->c≠b
 bs:∀ b o,X.base.get? b=some o->X.s₀.heap.get? b=some o/\X.H₀ b=none
 bsz:X.base.objs.size<=X.s₀.heap.objs.size
 noex:∀ b o,X.base.get? b=some o->b∉X.ex
 exfs:∀ b∈X.ex,b∉X.fs
 funs:X.s₀.heap.FunFrames X.base X.outer
 frf:∀ b∈X.fs,X.H₀ b=none
structure Inv (X:Cx) (pins:List (Addr × Obj)) (σ:List (Option V)) (H:Hp) (s:Shared):Prop where
 ok:X.Ok
 os:s.os=X.s₀.os
 bare:AllBare s.gens
 base:Un X.fs X.ex X.H₀ H X.s₀.heap s.heap
 loc:∃ m,s.heap.Ns X.env.locals m/\∀ (i:Nat) (x:Str) (v:V),X.N[i]? = some x->σ[i]? = some (some v)->Vis X.env.scope x->∃ u,RelV v u/\Look X.env s.heap m x u
 cell:∀ x c,X.env.cells.lookup x=some c->∃ v,s.heap.IsCell c v
 free:H X.env.locals=none
 freeC:∀ x c,X.env.cells.lookup x=some c->H c=none
 pin:∀ p∈X.pn++pins,s.heap.get? p.1=some p.2/\H p.1=none/\p.1≠X.env.locals/\p.1∉X.fs/\∀ v,p.2.data≠.cell v
 hok:HOk X.prog X.w H s.heap
 len:σ.length=X.N.length
section
variable {X:Cx} {pins:List (Addr × Obj)} {σ:List (Option V)} {H H':Hp} {s:Shared} {h':Heap}
theorem Cx.Ok.nofr (ok:X.Ok) {b:Addr} {o:Obj} (e:X.base.get? b=some o):b∉X.fs:=fun hb=>by
 have:=(ok.funs.mem hb).1
 rw [e] at this; cases this
theorem Inv.bs (I:Inv X pins σ H s):∀ b o,X.base.get? b=some o->s.heap.get? b=some o/\H b=none:=fun b o e =>
 ⟨I.base.keep b o (I.ok.bs b o e).1 (I.ok.bs b o e).2 (I.ok.nofr e) (I.ok.noex b o e),I.base.free b o (I.ok.bs b o e).1 (I.ok.bs b o e).2 (I.ok.noex b o e)⟩
theorem Inv.bk (I:Inv X pins σ H s):∀ b o,X.base.get? b=some o->s.heap.get? b=some o:=fun b o e=>(I.bs b o e).1
theorem Inv.mod (I:Inv X pins σ H s):Mod X.K X.mg X.base:=I.ok.mod
theorem Inv.kIn (I:Inv X pins σ H s):X.K.In s.heap:=I.ok.mod.kin.keeps I.bk
theorem Inv.nolimit (I:Inv X pins σ H s):s.heap.NoLimit:=I.ok.mod.nolimit.keeps I.bk
theorem Inv.fr (I:Inv X pins σ H s):∃ m,Fr X.base X.env.locals s.heap m :=
 let ⟨m,hn,_⟩:=I.loc
 ⟨m,hn,I.bk,xaq I.ok.bsz I.ok.above⟩
theorem Inv.lt (I:Inv X pins σ H s):X.env.locals<s.heap.objs.size:=let ⟨_,hn,_⟩:=I.loc; hn.lt
theorem Inv.sz (I:Inv X pins σ H s):X.s₀.heap.objs.size<=s.heap.objs.size:=xaq I.ok.above (xaP I.lt)
theorem Inv.nofs (I:Inv X pins σ H s) {a:Addr} (h:s.heap.objs.size<=a):a∉X.fs:=fun hb=>by
 obtain ⟨_,o,ho,_⟩:=I.ok.funs.mem hb
 exact absurd (xav (xan ho) (xaq I.sz h)) (xa9 _)
theorem Inv.cne (I:Inv X pins σ H s):∀ x c,X.env.cells.lookup x=some c->c≠X.env.locals:=fun x c e z=>by
 obtain ⟨v,o,ho,hd⟩:=I.cell x c e
 obtain ⟨m,⟨o',es,ep,ho',hd',_⟩,_⟩:=I.loc
 rw [z,ho'] at ho; cases ho; rw [hd'] at hd; cases hd
theorem Inv.funs (I:Inv X pins σ H s):s.heap.FunFrames X.base X.outer:=by
 have all:∀ (l:List Env),(∀ b∈frs l,b∈X.fs)->X.s₀.heap.FunFrames X.base l->s.heap.FunFrames X.base l:=by
  intro l
  induction l with
  | nil=>intro _ _; trivial
  | cons env r ih =>
   intro hs hl
   obtain ⟨hk,⟨L,o,hf,hn,ho,hd⟩,hr⟩:=hl
   have hL:L∈X.fs:=hs L (by unfold frs; rw [xbB,hf]; exact xac)
   obtain ⟨sl,e⟩:=I.base.slot L o ho (I.ok.frf L hL) hL fun z=>I.ok.exfs L z hL
   exact ⟨hk,⟨L,_,hf,hn,e,hd⟩,ih (fun b hb=>hs b (by unfold frs; rw [xbB,hf]; exact xab _ hb)) hr⟩
 exact all X.outer (fun _ hb=>hb) I.ok.funs
theorem Inv.stack (I:Inv X pins σ H s):s.heap.FunFrames X.base X.stack:=by
 rcases I.ok.stk with e | ⟨e,hf⟩
 ·rw [e]; exact I.funs
 ·rw [e]
  obtain ⟨m,hn,_⟩:=I.loc
  refine .cons (by rw [I.ok.kind]; decide) hf hn ?_ I.funs
  exact Heap.get?_none_of_le (xaq I.ok.bsz I.ok.above)
theorem Inv.stkSub (I:Inv X pins σ H s):∀ b∈frs X.stack,b∈X.env.locals :: X.fs:=fun b hb=>by
 rcases I.ok.stk with e | ⟨e,hf⟩
 ·rw [e] at hb; exact xab _ hb
 ·rw [e] at hb
  unfold frs at hb
  rw [xbB,hf] at hb
  exact hb
theorem Inv.stkFree (I:Inv X pins σ H s):∀ b∈frs X.stack,H b=none:=fun b hb=>by
 rcases xag.mp (I.stkSub b hb) with e | hb
 ·rw [e]; exact I.free
 ·obtain ⟨_,o,ho,_⟩:=I.ok.funs.mem hb
  exact I.base.free b o ho (I.ok.frf b hb) fun z=>I.ok.exfs b z hb
theorem Inv.step {g':Array GenState} {t':Nat} {d':Drawn} {ch:List Addr} (I:Inv X pins σ H s)
  (hch:∀ b∈ch,(b∈X.ex\/X.s₀.heap.objs.size<=b)/\b≠X.env.locals/\(∀ x c,X.env.cells.lookup x=some c->c≠b)/\∀ p∈X.pn++pins,p.1≠b)
  (keep:∀ b o,b≠X.env.locals->b∉X.fs->b∉ch->s.heap.get? b=some o->H b=none->h'.get? b=some o)
  (slot:∀ b o,b≠X.env.locals->b∈X.fs->b∉ch->s.heap.get? b=some o->H b=none->∃ sl,h'.get? b=some { o with slots:=sl }) (free:∀ b o,b∉ch->s.heap.get? b=some o->H b=none->H' b=none)
  (there:∀ b o,b∉ch->s.heap.get? b=some o->∃ o',h'.get? b=some o')
  (tups:∀ b xs,H b=some (.tup xs)->H' b=some (.tup xs)) (frzs:∀ b o u,H b=some (.frz o u)->H' b=some (.frz o u)) (tbls:∀ b ps,H b=some (.tbl ps)->∃ more,H' b=some (.tbl (ps++more)))
  (ns:∀ m,s.heap.Ns X.env.locals m->h'.Ns X.env.locals m) (hok:HOk X.prog X.w H' h') (hg:AllBare g') :
  Inv X pins σ H' { s with heap:=h',gens:=g',drawn:=d',toks:=t' }:=by
 have neL:∀ b o,X.s₀.heap.get? b=some o->b≠X.env.locals:=fun b o e=>xat (xav (xan e) I.ok.above)
 have neC:∀ b o,X.s₀.heap.get? b=some o->b∉X.ex->b∉ch:=fun b o e hx hb=>by
  rcases (hch b hb).1 with z | z
  ·exact hx z
  ·exact absurd (xav (xan e) z) (xa9 _)
 have cellK:∀ x c,X.env.cells.lookup x=some c->∀ v,s.heap.IsCell c v->h'.IsCell c v:=fun x c e v hx9=>by
  obtain ⟨o,ho,hd⟩:=hx9
  have nch:c∉ch:=fun z=>(hch c z).2.2.1 x c e rfl
  by_cases hc:c∈X.fs
  ·obtain ⟨sl,q⟩:=slot c o (I.cne x c e) hc nch ho (I.freeC x c e)
   exact ⟨_,q,hd⟩
  ·exact ⟨o,keep c o (I.cne x c e) hc nch ho (I.freeC x c e),hd⟩
 refine ⟨I.ok,I.os,hg,⟨fun b o e n hb hx=>?_,fun b o e n hb hx=>?_,fun b o e n hx=>?_,fun b o e hx=>?_,fun b xs e=>tups b xs (I.base.tups b xs e),fun b o xs e=>frzs b o xs (I.base.frzs b o xs e),fun b ps e=>?_⟩,?_,fun x c e=>?_,?_,fun x c e=>?_,fun p hp=>?_,hok,I.len⟩
 ·exact keep b o (neL b o e) hb (neC b o e hx) (I.base.keep b o e n hb hx) (I.base.free b o e n hx)
 ·obtain ⟨sl,e1⟩:=I.base.slot b o e n hb hx
  obtain ⟨sl',e2⟩:=slot b _ (neL b o e) hb (neC b o e hx) e1 (I.base.free b o e n hx)
  exact ⟨sl',e2⟩
 ·obtain ⟨o',e1⟩:=I.base.there b o e hx
  exact free b o' (neC b o e hx) e1 (I.base.free b o e n hx)
 ·obtain ⟨o',e1⟩:=I.base.there b o e hx
  exact there b o' (neC b o e hx) e1
 ·obtain ⟨m1,e1⟩:=I.base.tbls b ps e
  obtain ⟨m2,e2⟩:=tbls b _ e1
  exact ⟨m1++m2,by rw [e2,Array.append_assoc]⟩
 ·obtain ⟨m,hn,hl⟩:=I.loc
  refine ⟨m,ns m hn,fun i x v e1 e2 e3=>?_⟩
  obtain ⟨u,r,l⟩:=hl i x v e1 e2 e3
  refine ⟨u,r,?_⟩
  rcases l with l | ⟨k,c,e,z⟩
  ·exact .inl l
  ·exact .inr ⟨k,c,e,cellK x c e _ z⟩
 ·obtain ⟨v,z⟩:=I.cell x c e
  exact ⟨v,cellK x c e v z⟩
 ·obtain ⟨m,⟨o,_,_,ho,_⟩,_⟩:=I.loc
  exact free _ o (fun z=>(hch _ z).2.1 rfl) ho I.free
 ·obtain ⟨v,o,ho,hd⟩:=I.cell x c e
  exact free c o (fun z=>(hch c z).2.2.1 x c e rfl) ho (I.freeC x c e)
 ·obtain ⟨e,n,ne,nf,d⟩:=I.pin p hp
  have nch:p.1∉ch:=fun z=>(hch p.1 z).2.2.2 p hp rfl
  exact ⟨keep p.1 p.2 ne nf nch e n,free p.1 p.2 nch e n,ne,nf,d⟩
theorem Inv.un {t':Nat} (I:Inv X pins σ H s) (u:Un X.fs [] H H' s.heap h') (hok:HOk X.prog X.w H' h'):Inv X pins σ H' { s with heap:=h',toks:=t' }:=by
 obtain ⟨m,⟨o,es,ep,ho,r⟩,_⟩:=id I.loc
 obtain ⟨sl,hL⟩:=u.any ho I.free (by simp)
 exact I.step (g':=s.gens) (d':=s.drawn) (ch:=[]) (fun _ z=>nomatch z) (fun b o _ hb _ e n=>u.keep b o e n hb (by simp)) (fun b o _ hb _ e n=>u.slot b o e n hb (by simp)) (fun b o _ e n=>u.free b o e n (by simp)) (fun b o _ e=>u.there b o e (by simp)) u.tups u.frzs u.tbls (fun m' hm=>by
  obtain ⟨o',es',ep',ho',r'⟩:=hm
  rw [ho] at ho'; cases ho'
  exact ⟨_,es',ep',hL,r'⟩) hok I.bare
theorem Inv.call {g':Array GenState} {t':Nat} {d':Drawn} {ch:List Addr} (I:Inv X pins σ H s) (u:Un (frs X.stack) ch H H' s.heap h') (hok:HOk X.prog X.w H' h') (hg:AllBare g')
  (hch:∀ b∈ch,(b∈X.ex\/X.s₀.heap.objs.size<=b)/\b≠X.env.locals/\(∀ x c,X.env.cells.lookup x=some c->c≠b)/\∀ p∈X.pn++pins,p.1≠b) :
  Inv X pins σ H' { s with heap:=h',gens:=g',drawn:=d',toks:=t' }:=by
 obtain ⟨m,⟨o,es,ep,ho,r⟩,_⟩:=id I.loc
 obtain ⟨sl,hL⟩:=u.any ho I.free fun z=>(hch _ z).2.1 rfl
 exact I.step (ch:=ch) hch (fun b o hL hb hc e n=>u.keep b o e n (fun z=>(xag.mp (I.stkSub b z)).elim hL hb) hc) (fun b o _ _ hc e n=>u.any e n hc) (fun b o hc e n=>u.free b o e n hc) (fun b o hc e=>u.there b o e hc) u.tups u.frzs u.tbls (fun m' hm=>by
  obtain ⟨o',es',ep',ho',r'⟩:=hm
  rw [ho] at ho'; cases ho'
  exact ⟨_,es',ep',hL,r'⟩) hok hg
theorem Inv.turned {t':Nat} {it:Addr} (I:Inv X pins σ H s) (k:∀ b o,b≠it->s.heap.get? b=some o->h'.get? b=some o) (hn:H it=none) (hL:it≠X.env.locals)
  (h1:it∈X.ex\/X.s₀.heap.objs.size<=it) (h2:∀ x c,X.env.cells.lookup x=some c->c≠it) (h3:∀ p∈X.pn++pins,p.1≠it):Inv X pins σ H { s with heap:=h',toks:=t' }:=by
 have nit:∀ b u,H b=some u->b≠it:=fun b u e z=>by rw [z,hn] at e; cases e
 refine I.step (g':=s.gens) (d':=s.drawn) (ch:=[it]) (fun b hb=>?_) (fun b o _ _ hc e _=>k b o (fun z=>hc (by simp [z])) e) (fun b o _ _ hc e _=>⟨o.slots,k b o (fun z=>hc (by simp [z])) e⟩) (fun _ _ _ _ n=>n)
  (fun b o hc e=>⟨o,k b o (fun z=>hc (by simp [z])) e⟩) (fun _ _ e=>e) (fun _ _ _ e=>e) (fun b ps e=>⟨#[],by rw [e]; simp⟩) (fun m hm=>?_) (fun b u e=>?_) I.bare
 ·have e:b=it:=by simpa using hb
  subst e
  exact ⟨h1,hL,h2,h3⟩
 ·obtain ⟨o,es,ep,ho,r⟩:=hm
  exact ⟨o,es,ep,k _ o (Ne.symm hL) ho,r⟩
 ·refine (I.hok b u e).stay (fun c v hc q=>k c v ?_ q) (fun _ q=>q) fun _ _ q=>q
  rcases hc with z | z
  ·rw [z]; exact nit b u e
  ·exact nit c _ z
theorem Inv.tok (I:Inv X pins σ H s) (t:Nat):Inv X pins σ H { s with toks:=t }:=I.un (h':=s.heap) (t':=t) Un.refl I.hok
theorem Inv.kept {t':Nat} (I:Inv X pins σ H s) (k:∀ b u,s.heap.get? b=some u->h'.get? b=some u):Inv X pins σ H { s with heap:=h',toks:=t' }:=I.un (Un.kept k) (I.hok.kept k)
theorem Inv.laid {a:Addr} {o:HO} {t':Nat} (I:Inv X pins σ H s) (k:∀ b u,s.heap.get? b=some u->h'.get? b=some u) (hp:s.heap.objs.size<=a) (new:ObjOk X.prog X.w (upd H a o) h' a o) :
  Inv X pins σ (upd H a o) { s with heap:=h',toks:=t' }:=I.un (Un.laid k hp (I.hok.fresh hp)) (I.hok.laid k hp new)
theorem Inv.write {x e:Addr} {o:HO} {t':Nat} (I:Inv X pins σ H s) (mu:Mut (H x)) (he:e=x\/H e=some (.own x)) (k:∀ b u,b≠e->s.heap.get? b=some u->h'.get? b=some u) (heo:∃ u,h'.get? e=some u)
  (new:ObjOk X.prog X.w (upd H x o) h' x o):Inv X pins σ (upd H x o) { s with heap:=h',toks:=t' }:=I.un (Un.write mu he k heo) (I.hok.write mu he k heo new)
theorem Inv.pins_of {pins':List (Addr × Obj)} (I:Inv X pins σ H s) (h:∀ p∈pins',s.heap.get? p.1=some p.2/\H p.1=none/\p.1≠X.env.locals/\p.1∉X.fs/\∀ v,p.2.data≠.cell v):Inv X pins' σ H s :=
 ⟨I.ok,I.os,I.bare,I.base,I.loc,I.cell,I.free,I.freeC,fun p hp=>(xal.mp hp).elim (fun z=>I.pin p (xay _ z)) (h p),I.hok,I.len⟩
theorem nodup_ix {N:List Str} (hN:N.Nodup) {i j:Nat} {x:Str} (a:N[i]? = some x) (b:N[j]? = some x):i=j:=by
 obtain ⟨h1,e1⟩:=xaj.mp a
 obtain ⟨h2,e2⟩:=xaj.mp b
 exact (List.getElem_inj hN).mp (e1.trans e2.symm)
theorem store_ok2 {M:Model} {A:Around} {E:Value->Shared->Prop} {i:Nat} {x:Str} {v:V} {u:Value} {Q:Unit->Shared->Prop} (I:Inv X pins σ H s) (hN:X.N.Nodup) (hi:X.N[i]? = some x) (hx:Loc X.env.scope x) (r:RelV v u)
  (h:∀ s',Inv X pins (σ.set i (some v)) H s'->(∃ a,Heap.SameBut a s.heap s'.heap/\(a=X.env.locals\/X.env.cells.lookup x=some a))->Q () s') (hf:X.fn x=true\/X.env.scope.names.lookup x=some .local:=by first | exact .inl rfl | exact .inr rfl | assumption):wpAny M A (storeName X.env x u) Q E s:=by
 obtain ⟨m,hn,hl⟩:=id I.loc
 have hcls:(X.env.scope.kind == .class || (X.env.scope.kind == .module && X.env.locals != X.env.globals))=false:=by rw [I.ok.kind]; rfl
 have hiσ:i<σ.length:=by rw [I.len]; exact (xaj.mp hi).1
 have cne:=I.cne
 have tracked:∀ {a:Addr} {h':Heap},(∃ o,s.heap.get? a=some o/\H a=none)->Heap.SameBut a s.heap h'->HOk X.prog X.w H h':=fun {a h'} ha hs b ob e=>by
  obtain ⟨_,_,hfree⟩:=ha
  refine (I.hok b ob e).stay (fun c w' hc q=>(hs.2 c ?_).trans q) (fun _ q=>q) fun _ _ q=>q
  rintro rfl
  rcases hc with rfl | hc
  ·rw [hfree] at e; cases e
  ·rw [hfree] at hc; cases hc
 rcases hx with hk | hk
 ·refine wpAny_storeName_local hk hn (fun h' hn' hs=>?_) hcls
  obtain ⟨oL,_,_,hoL,_⟩:=id hn
  refine h _ ⟨I.ok,I.os,I.bare,⟨fun b o e n hb hx=>?_,fun b o e n hb hx=>?_,I.base.free,fun b o e hx=>?_,I.base.tups,I.base.frzs,I.base.tbls⟩,⟨_,hn',fun j y v' e1 e2 e3=>?_⟩,fun y c e=>?_,I.free,I.freeC,fun p hp=>?_,tracked ⟨oL,hoL,I.free⟩ hs,by simpa using I.len⟩ ⟨_,hs,.inl rfl⟩
  ·exact (hs.2 b (xat (xav (xan e) I.ok.above))).trans (I.base.keep b o e n hb hx)
  ·obtain ⟨sl,e1⟩:=I.base.slot b o e n hb hx
   exact ⟨sl,(hs.2 b (xat (xav (xan e) I.ok.above))).trans e1⟩
  ·obtain ⟨o',e1⟩:=I.base.there b o e hx
   exact ⟨o',(hs.2 b (xat (xav (xan e) I.ok.above))).trans e1⟩
  ·by_cases hj:j=i
   ·subst hj
    rw [hi] at e1; cases e1
    rw [xbI hiσ] at e2
    cases e2
    exact ⟨u,r,.inl ⟨hk,by simp⟩⟩
   ·rw [xbf (Ne.symm hj)] at e2
    obtain ⟨u',r',q⟩:=hl j y v' e1 e2 e3
    refine ⟨u',r',?_⟩
    rcases q with ⟨k,e⟩ | ⟨k,c,e,z⟩
    ·refine .inl ⟨k,?_⟩
     have:y≠x:=fun e=>hj (nodup_ix hN e1 (e ▸ hi))
     simp [this,e]
    ·exact .inr ⟨k,c,e,z.sameBut hs (cne y c e)⟩
  ·obtain ⟨w',z⟩:=I.cell y c e
   exact ⟨w',z.sameBut hs (cne y c e)⟩
  ·obtain ⟨e,n,ne,nf,d⟩:=I.pin p hp
   exact ⟨(hs.2 p.1 ne).trans e,n,ne,nf,d⟩
 ·have hfn:X.fn x=true:=by
   rcases hf with z | z
   ·exact z
   ·rw [z] at hk; cases hk
  obtain ⟨c,hc⟩:=I.ok.has x (.inl hk)
  obtain ⟨w',z⟩:=I.cell x c hc
  refine wpAny_storeName_cell I.ok.kind hk hc z (fun h' hc' hs=>?_)
  obtain ⟨oc,hoc,hocd⟩:=id z
  refine h { s with heap:=h' } ⟨I.ok,I.os,I.bare,⟨fun b o e n hb hx=>?_,fun b o e n hb hx=>?_,I.base.free,fun b o e hx=>?_,I.base.tups,I.base.frzs,I.base.tbls⟩,⟨m,hn.sameBut hs (Ne.symm (cne x c hc)),fun j y v' e1 e2 e3=>?_⟩,fun y c' e=>?_,I.free,I.freeC,fun p hp=>?_,tracked ⟨oc,hoc,I.freeC x c hc⟩ hs,by simpa using I.len⟩ ⟨c,hs,.inr hc⟩
  ·exact (hs.2 b (xat (xav (xan e) (I.ok.cab x c hfn hc)))).trans (I.base.keep b o e n hb hx)
  ·obtain ⟨sl,e1⟩:=I.base.slot b o e n hb hx
   exact ⟨sl,(hs.2 b (xat (xav (xan e) (I.ok.cab x c hfn hc)))).trans e1⟩
  ·obtain ⟨o',e1⟩:=I.base.there b o e hx
   exact ⟨o',(hs.2 b (xat (xav (xan e) (I.ok.cab x c hfn hc)))).trans e1⟩
  ·by_cases hj:j=i
   ·subst hj
    rw [hi] at e1; cases e1
    rw [xbI hiσ] at e2
    cases e2
    exact ⟨u,r,.inr ⟨.inl hk,c,hc,hc'⟩⟩
   ·rw [xbf (Ne.symm hj)] at e2
    obtain ⟨u',r',q⟩:=hl j y v' e1 e2 e3
    refine ⟨u',r',?_⟩
    rcases q with q | ⟨k,c',e,z'⟩
    ·exact .inl q
    ·refine .inr ⟨k,c',e,z'.sameBut hs ?_⟩
     rintro rfl
     exact hj (nodup_ix hN e1 (I.ok.inj _ _ _ e hc ▸ hi))
  ·by_cases hcc:c'=c
   ·subst hcc; exact ⟨_,hc'⟩
   ·obtain ⟨w2,z2⟩:=I.cell y c' e
    exact ⟨w2,z2.sameBut hs hcc⟩
  ·obtain ⟨e,n,ne,nf,d⟩:=I.pin p hp
   refine ⟨(hs.2 p.1 ?_).trans e,n,ne,nf,d⟩
   intro q
   rw [q,hoc] at e
   have q':oc=p.2:=Option.some.inj e
   exact d w' (by rw [<- q']; exact hocd)
theorem store_ok {M:Model} {A:Around} {E:Value->Shared->Prop} {i:Nat} {x:Str} {v:V} {u:Value} {Q:Unit->Shared->Prop} (I:Inv X pins σ H s) (hN:X.N.Nodup) (hi:X.N[i]? = some x) (hx:Loc X.env.scope x) (r:RelV v u)
  (h:∀ s',Inv X pins (σ.set i (some v)) H s'->Q () s') (hf:X.fn x=true\/X.env.scope.names.lookup x=some .local:=by first | exact .inl rfl | exact .inr rfl | assumption):wpAny M A (storeName X.env x u) Q E s :=
 store_ok2 I hN hi hx r (fun s' I' _=>h s' I') hf
theorem Inv.call' {s':Shared} {ch:List Addr} (I:Inv X pins σ H s) (ho:s'.os=s.os) (u:Un (frs X.stack) ch H H' s.heap s'.heap) (hok:HOk X.prog X.w H' s'.heap) (hg:AllBare s'.gens)
  (hch:∀ b∈ch,(b∈X.ex\/X.s₀.heap.objs.size<=b)/\b≠X.env.locals/\(∀ x c,X.env.cells.lookup x=some c->c≠b)/\∀ p∈X.pn++pins,p.1≠b):Inv X pins σ H' s':=by
 obtain ⟨h',g',d',t',o'⟩:=s'
 have e:o'=s.os:=ho
 subst e
 exact I.call (g':=g') (t':=t') (d':=d') u hok hg hch
end
abbrev XK:=Value->Option Addr->Hp->Prop
abbrev St:=List (Option V)
abbrev VK:=V->Hp->Prop
abbrev TE:=St->Hp->VK->Prop
abbrev TT:=St->Hp->(Bool->Hp->Prop)->Prop
abbrev TA:=St->Hp->(List V->Hp->Prop)->Prop
structure Ends where
 nx:St->Hp->Prop
 rt:VK
 bk:St->Hp->Prop:=fun _ _=>False
 ct:St->Hp->Prop:=fun _ _=>False
abbrev TS:=Ends->St->Hp->Prop
def EP (X:Cx) (pins:List (Addr × Obj)) (σ:St) (Q:VK) (u:Value) (s':Shared):Prop:=∃ v H',Inv X pins σ H' s'/\RelV v u/\Q v H'
def TP (X:Cx) (pins:List (Addr × Obj)) (σ:St) (Q:Bool->Hp->Prop) (b:Bool) (s':Shared):Prop:=∃ H',Inv X pins σ H' s'/\Q b H'
def AP (X:Cx) (pins:List (Addr × Obj)) (σ:St) (Q:List V->Hp->Prop) (us:List Value) (s':Shared):Prop:=∃ vs H',Inv X pins σ H' s'/\Vals vs us/\Q vs H'
def SP (X:Cx) (pins:List (Addr × Obj)) (D:Ends) (f:Flow) (s':Shared):Prop :=
 match f with
 | .next=>∃ σ' H',Inv X pins σ' H' s'/\D.nx σ' H'
 | .brk=>∃ σ' H',Inv X pins σ' H' s'/\D.bk σ' H'
 | .cont=>∃ σ' H',Inv X pins σ' H' s'/\D.ct σ' H'
 | .ret u=>∃ v σ' H',Inv X pins σ' H' s'/\RelV v u/\D.rt v H'
def PE (X:Cx) (e:Expr) (t:TE):Prop :=
 ∀ (pins:List (Addr × Obj)) (s:Shared) (σ:St) (H:Hp) (Q:VK),Inv X pins σ H s->t σ H Q->wpAny (model X.prog X.w) X.A (eval e X.env) (EP X pins σ Q) X.xe s
def PT (X:Cx) (e:Expr) (t:TT):Prop :=
 ∀ (pins:List (Addr × Obj)) (s:Shared) (σ:St) (H:Hp) (Q:Bool->Hp->Prop),Inv X pins σ H s->t σ H Q->wpAny (model X.prog X.w) X.A (isTrue e X.env (eval e X.env)) (TP X pins σ Q) X.xe s
def PW (X:Cx) (e:Expr) (t:TT):Prop :=
 ∀ (whole:Sem Value) (pins:List (Addr × Obj)) (s:Shared) (σ:St) (H:Hp) (Q:Bool->Hp->Prop),Inv X pins σ H s->t σ H Q->wpAny (model X.prog X.w) X.A (isTrue e X.env whole) (TP X pins σ Q) X.xe s
def PA (X:Cx) (es:List Expr) (t:TA):Prop :=
 ∀ (pos:Pos) (pins:List (Addr × Obj)) (s:Shared) (σ:St) (H:Hp) (Q:List V->Hp->Prop),Inv X pins σ H s->t σ H Q->wpAny (model X.prog X.w) X.A (spliced (backTo pos (starEach es X.env))) (AP X pins σ Q) X.xe s
def PS (X:Cx) (st:Stmt) (t:TS):Prop :=
 ∀ (pins:List (Addr × Obj)) (s:Shared) (σ:St) (H:Hp) (D:Ends),Inv X pins σ H s->t D σ H->wpAny (model X.prog X.w) X.A (exec st X.env) (SP X pins D) X.xe s
def PSs (X:Cx) (st:List Stmt) (t:TS):Prop :=
 ∀ (pins:List (Addr × Obj)) (s:Shared) (σ:St) (H:Hp) (D:Ends),Inv X pins σ H s->t D σ H->wpAny (model X.prog X.w) X.A (execs st X.env) (SP X pins D) X.xe s
theorem thn {α:Type} {t:Sem α} {Q Q':α->Shared->Prop} {M:Model} {A:Around} {E:Value->Shared->Prop} {s:Shared} (h:wpAny M A t Q E s) (hQ:∀ a s,Q a s->Q' a s):wpAny M A t Q' E s:=xa2 h hQ fun _ _ x=>x
section
variable {X:Cx}
def tVar (i:Nat):TE:=fun σ H Q=>∃ v,σ[i]? = some (some v)/\Q v H
def tC (v:V):TE:=fun _ H Q=>Q v H
theorem pe_var {i:Nat} {x:Str} {pos:Pos} (hN:X.N[i]? = some x) (hv:Vis X.env.scope x) (hd:(x == ("__debug__" : Str))=false:=by decide) (hcd:(x == ("__classdict__" : Str))=false:=by decide):PE X (.Name x pos) (tVar i):=by
 intro pins s σ H Q I h
 obtain ⟨v,e,h⟩:=h
 obtain ⟨m,hn,hl⟩:=I.loc
 obtain ⟨u,r,l⟩:=hl i x v hN e hv
 have fin:EP X pins σ Q u s:=⟨v,H,I,r,h⟩
 rcases l with ⟨hk,hm⟩ | ⟨hk,c,hc,hcell⟩
 ·exact wpAny_Name (wpAny_loadName_local I.ok.kind hk hn hm fin) hd
 ·rcases hk with hk | hk
  ·exact wpAny_Name (wpAny_loadName_cell I.ok.kind hk hc hcell fin) hd
  ·exact wpAny_Name (wpAny_loadName_free I.ok.kind hk hc hcell fin hcd) hd
theorem pe_int {i j pos}:PE X (.Constant (.int i) j pos) (tC (.int i)):=fun _ _ _ H _ I h=>wpAny_Constant_int ⟨.int i,H,I.tok _,⟨_,rfl⟩,h⟩
theorem pe_bl {b j pos}:PE X (.Constant (.bool b) j pos) (tC (.bl b)):=fun _ _ _ H _ I h=>Constant_bool ⟨.bl b,H,I,rfl,h⟩
theorem pe_str {x j pos}:PE X (.Constant (.str x) j pos) (tC (.str x)):=fun _ _ _ H _ I h=>Calls.Constant_str ⟨.str x,H,I.tok _,⟨_,rfl⟩,h⟩
def Gl (X:Cx) (x:Str):Prop:=X.env.kindOf x=some .globalImplicit
theorem ld_glob {E:Value->Shared->Prop} {pins:List (Addr × Obj)} {s:Shared} {σ:St} {H:Hp} {x:Str} {u:Value} {pos:Pos} {Q:Value->Shared->Prop} (I:Inv X pins σ H s) (hg:Gl X x) (hm:X.mg x=some u) (h:Q u s)
  (hd:(x == ("__debug__" : Str))=false:=by decide):wpAny (model X.prog X.w) X.A (eval (.Name x pos) X.env) Q E s :=
 Calls.Name_function_global I.ok.kind hg (Calls.loadGlobal_global (by rw [I.ok.glob]; exact I.mod.glob.keeps I.bk) hm h) hd
theorem ld_blt {E:Value->Shared->Prop} {pins:List (Addr × Obj)} {s:Shared} {σ:St} {H:Hp} {x:Str} {u:Value} {pos:Pos} {Q:Value->Shared->Prop} (I:Inv X pins σ H s) (hg:Gl X x) (hm:X.mg x=none) (hv:bootBuiltins x=some u) (h:Q u s)
  (hn:x ≠ "__name__" := by decide) (hd:(x == ("__debug__" : Str))=false:=by decide):wpAny (model X.prog X.w) X.A (eval (.Name x pos) X.env) Q E s:=by
 obtain ⟨mb,h1,h2⟩:=I.mod.blt
 exact Calls.Name_function_global I.ok.kind hg (Calls.loadGlobal_builtin (by rw [I.ok.glob]; exact I.mod.glob.keeps I.bk) hm (by rw [I.ok.blt]; exact h1.keeps I.bk) ((h2 x hn).trans hv) h) hd
theorem pe_bltn {x:Str} {v:V} {u:Value} {pos:Pos} (hg:Gl X x) (hm:X.mg x=none) (hv:bootBuiltins x=some u) (r:RelV v u) (hn:x ≠ "__name__" := by decide) (hd:(x == ("__debug__" : Str))=false:=by decide):PE X (.Name x pos) (tC v) :=
 fun _ _ _ H _ I h=>ld_blt I hg hm hv ⟨v,H,I,r,h⟩ hn hd
variable {a b:Expr} {ta tb:TE} {pos:Pos}
def tB (t:TE):TT:=fun σ H Q=>t σ H fun x H1=>∃ c,x=.bl c/\Q c H1
theorem pt_val {e:Expr} {t:TE} (h:PE X e t) (he:∀ whole,isTrue e X.env whole=(do let v <- whole; standAt e.pos; holding [v] (truthy v)):=by intro _; rfl):PT X e (tB t):=by
 intro pins s σ H Q I hw
 refine isTrue_plain (thn (h pins s σ H _ I hw) fun v s1 hx5=>L2.ex2 hx5 fun x H1 I1 r1 q1=>?_) (he _)
 obtain ⟨d,rfl,q⟩:=q1
 cases r1
 exact wpAny_truthy_bool ⟨H1,I1,q⟩
variable {tA tB':TT} {rest:List Expr}
def tOr (t u:TT):TT:=fun σ H Q=>t σ H fun c H1=>if c=true then Q true H1 else u σ H1 Q
def tNot (t:TT):TT:=fun σ H Q=>t σ H fun c H1=>Q (!c) H1
theorem pw_or1 (ha:PT X a tA):PW X (.BoolOp .Or [a] pos) tA:=by
 intro wh pins s σ H Q I h
 refine isTrue_or (thn (ha pins s σ H Q I h) fun c s1 e=>?_)
 cases c with
 | false=>exact isTrue_or_nil e
 | true=>exact e
theorem pw_or (ha:PT X a tA) (hb:PW X (.BoolOp .Or (b :: rest) pos) tB'):PW X (.BoolOp .Or (a :: b :: rest) pos) (tOr tA tB'):=by
 intro wh pins s σ H Q I h
 refine isTrue_or (thn (ha pins s σ H _ I h) fun c s1 hx9=>?_)
 obtain ⟨H1,I1,q1⟩:=hx9
 cases c with
 | true=>exact ⟨H1,I1,q1⟩
 | false=>exact hb wh pins s1 σ H1 Q I1 q1
theorem pt_not (ha:PT X a tA):PT X (.UnaryOp .Not a pos) (tNot tA):=by
 intro pins s σ H Q I h
 exact isTrue_not (ha pins s σ H (fun c H1=>Q (!c) H1) I h)
def tAndV (ta tb:TE):TE:=fun σ H Q=>ta σ H fun x H1=>∃ c,x=.bl c/\if c=true then tb σ H1 Q else Q (.bl false) H1
theorem pe_one {op} {t:TE} (h:PE X a t):PE X (.BoolOp op [a] pos) t:=fun pins s σ H Q I hw=>BoolOp_one (h pins s σ H Q I hw)
theorem pe_and (ha:PE X a ta) (hb:PE X (.BoolOp .And (b :: rest) pos) tb):PE X (.BoolOp .And (a :: b :: rest) pos) (tAndV ta tb):=by
 intro pins s σ H Q I h
 refine BoolOp_and (thn (ha pins s σ H _ I h) fun v s1 hx5=>L2.ex2 hx5 fun x H1 I1 r1 q1=>?_)
 obtain ⟨c,rfl,q1⟩:=q1
 cases r1
 refine wpAny_truthy_bool ?_
 cases c with
 | true=>exact hb pins s1 σ H1 Q I1 q1
 | false=>exact ⟨.bl false,H1,I1,rfl,q1⟩
end
def SqL (K:PySem.W.Frag) (H:Hp) (a:Addr) (xs:List V):Prop :=
 Rd H a (.lst xs) \/
  ∃ (o:Obj) (its:Array Value) (n:Nat),K.lookup a=some o/\o.cls=.type "list"/\o.dict=none/\o.data=.seq its n/\its.size<=sizeLine/\Vals xs its.toList
def SqT (K:PySem.W.Frag) (H:Hp) (a:Addr) (xs:List V):Prop :=
 Rd H a (.tup xs) \/
  ∃ (o:Obj) (its:Array Value) (n:Nat),K.lookup a=some o/\o.cls=.type "tuple"/\o.data=.seq its n/\its.size<=sizeLine/\Vals xs its.toList
def absV:Value->Option V
 | .none=>some .non
 | .bool b=>some (.bl b)
 | .int i _=>some (.int i)
 | .str x _=>some (.str x)
 | .bytes b _=>some (.byt b)
 | .float b _=>some (.flt b)
 | .ref a=>some (.ref a)
 | .type n=>some (.ty n)
 | _=>none
theorem RelV.abs {x:V} {u:Value} (r:RelV x u):absV u=some x:=by
 cases x with
 | non=>cases r; rfl
 | bl _=>cases r; rfl
 | int _=>obtain ⟨t,rfl⟩:=r; rfl
 | str _=>obtain ⟨t,rfl⟩:=r; rfl
 | byt _=>obtain ⟨t,rfl⟩:=r; rfl
 | flt _=>obtain ⟨t,rfl⟩:=r; rfl
 | ref _=>cases r; rfl
 | ty _=>cases r; rfl
theorem RelV.inj {x y:V} {u:Value} (r:RelV x u) (q:RelV y u):x=y:=Option.some.inj (r.abs.symm.trans q.abs)
theorem Vals.inj:∀ {xs ys:List V} {us:List Value},Vals xs us->Vals ys us->xs=ys
 | _,_,_,.nil,.nil=>rfl
 | _,_,_,.cons r t,.cons r' t'=>by rw [r.inj r',Vals.inj t t']
section
variable {X:Cx} {pins:List (Addr × Obj)} {σ:St} {H:Hp} {s:Shared} {a:Addr} {xs ys:List V}
theorem SqL.of {K:PySem.W.Frag} (h:H a=some (.lst xs)):SqL K H a xs:=.inl (.inl h)
theorem SqT.of {K:PySem.W.Frag} (h:H a=some (.tup xs)):SqT K H a xs:=.inl (.inl h)
theorem Inv.list (I:Inv X pins σ H s) (h:SqL X.K H a xs):∃ its:List Value,Vals xs its/\PlainL s.heap a its.toArray/\xs.length<=sizeLine:=by
 rcases h with h | ⟨o,its,n,hk,hc,hd,hs,hz,r⟩
 ·obtain ⟨z,its,n,r,e⟩:=h.ok I.hok
  exact ⟨its,r,⟨_,n,e,rfl,rfl,rfl⟩,z⟩
 ·refine ⟨its.toList,r,⟨o,n,I.kIn a o hk,hc,hd,by simpa using hs⟩,?_⟩
  have e:=r.length
  simp only [xa0] at e
  lia
theorem Inv.tuple (I:Inv X pins σ H s) (h:SqT X.K H a xs):∃ its:List Value,Vals xs its/\IsTup s.heap a its.toArray/\xs.length<=sizeLine:=by
 rcases h with h | ⟨o,its,n,hk,hc,hs,hz,r⟩
 ·obtain ⟨z,its,r,p⟩:=h.ok I.hok
  exact ⟨its,r,p,z⟩
 ·refine ⟨its.toList,r,⟨o,I.kIn a o hk,hc,n,by simpa using hs⟩,?_⟩
  have e:=r.length
  simp only [xa0] at e
  lia
theorem Inv.list_inj (I:Inv X pins σ H s) (h:SqL X.K H a xs) (h':SqL X.K H a ys):xs=ys:=by
 obtain ⟨its,r,⟨o,n,e,_,_,d⟩,_⟩:=I.list h
 obtain ⟨its',r',⟨o',n',e',_,_,d'⟩,_⟩:=I.list h'
 rw [e] at e'; cases e'
 rw [d] at d'
 injection d' with d1 _
 have:its=its':=by simpa using congrArg Array.toList d1
 subst this
 exact r.inj r'
end
abbrev Cx.wish (X:Cx) (E:Value->Shared->Prop):Cx:={ X with xe:=E }
abbrev Cx.nox (X:Cx):Cx:=X.wish fun _ _=>False
theorem Cx.Ok.wish {X:Cx} (ok:X.Ok) (E:Value->Shared->Prop):(X.wish E).Ok :=
 ⟨ok.mod,ok.kind,ok.glob,ok.blt,ok.above,ok.inj,ok.has,ok.cab,ok.hd,ok.frames,ok.stk,ok.exf,ok.bs,ok.bsz,ok.noex,ok.exfs,ok.funs,ok.frf⟩
theorem Cx.Ok.unwish {X:Cx} {E:Value->Shared->Prop} (ok:(X.wish E).Ok):X.Ok :=
 ⟨ok.mod,ok.kind,ok.glob,ok.blt,ok.above,ok.inj,ok.has,ok.cab,ok.hd,ok.frames,ok.stk,ok.exf,ok.bs,ok.bsz,ok.noex,ok.exfs,ok.funs,ok.frf⟩
section
variable {X:Cx} {pins:List (Addr × Obj)} {σ:St} {H:Hp} {s:Shared} {E:Value->Shared->Prop}
theorem Inv.wish (I:Inv X pins σ H s) (E:Value->Shared->Prop):Inv (X.wish E) pins σ H s:=⟨I.ok.wish E,I.os,I.bare,I.base,I.loc,I.cell,I.free,I.freeC,I.pin,I.hok,I.len⟩
theorem Inv.unwish (I:Inv (X.wish E) pins σ H s):Inv X pins σ H s:=⟨I.ok.unwish,I.os,I.bare,I.base,I.loc,I.cell,I.free,I.freeC,I.pin,I.hok,I.len⟩
theorem SP.unwish {D:Ends} {f:Flow} {s':Shared} (h:SP (X.wish E) pins D f s'):SP X pins D f s':=by
 cases f with
 | next=>obtain ⟨σ',H',I,q⟩:=h; exact ⟨σ',H',I.unwish,q⟩
 | brk=>obtain ⟨σ',H',I,q⟩:=h; exact ⟨σ',H',I.unwish,q⟩
 | cont=>obtain ⟨σ',H',I,q⟩:=h; exact ⟨σ',H',I.unwish,q⟩
 | ret u=>obtain ⟨v,σ',H',I,r,q⟩:=h; exact ⟨v,σ',H',I.unwish,r,q⟩
theorem PE.nox {e:Expr} {t:TE} (h:PE X.nox e t):PE X e t:=fun pins s σ H Q I hw =>
 xa2 (h pins s σ H Q (I.wish _) hw) (fun _ _ hx5=>L2.ex2 hx5 fun v H' I' r q=>⟨v,H',I'.unwish,r,q⟩) fun _ _ z=>False.elim z
theorem PT.nox {e:Expr} {t:TT} (h:PT X.nox e t):PT X e t:=fun pins s σ H Q I hw =>
 xa2 (h pins s σ H Q (I.wish _) hw) (fun _ _ ⟨H',I',q⟩=>⟨H',I'.unwish,q⟩) fun _ _ z=>False.elim z
theorem PSs.nox {st:List Stmt} {t:TS} (h:PSs X.nox st t):PSs X st t:=fun pins s σ H D I hw =>
 xa2 (h pins s σ H D (I.wish _) hw) (fun _ _ q=>q.unwish) fun _ _ z=>False.elim z
end
section
variable {X:Cx} {st:Stmt} {rest:List Stmt} {t u:TS} {e:Expr} {te:TE} {pos:Pos}
def tNext:TS:=fun D σ H=>D.nx σ H
def tSeq (t u:TS):TS:=fun D σ H=>t { D with nx:=u D } σ H
theorem pss_nil:PSs X [] tNext:=fun _ _ σ H _ I h=>wpAny_execs_nil ⟨σ,H,I,h⟩
theorem pss_cons (h1:PS X st t) (h2:PSs X rest u):PSs X (st :: rest) (tSeq t u):=by
 intro pins s σ H D I h
 refine wpAny_execs_cons (thn (h1 pins s σ H { D with nx:=u D } I h) fun f s1 q=>?_)
 cases f with
 | next =>
  obtain ⟨σ',H',I',q⟩:=q
  exact h2 pins s1 σ' H' D I' q
 | ret v=>exact q
 | brk=>exact q
 | cont=>exact q
theorem pss_one (h1:PS X st t):PSs X [st] t:=by
 intro pins s σ H D I h
 refine wpAny_execs_cons (thn (h1 pins s σ H D I h) fun f s1 q=>?_)
 cases f with
 | next=>exact wpAny_execs_nil q
 | ret v=>exact q
 | brk=>exact q
 | cont=>exact q
theorem Inv.quiet {pins:List (Addr × Obj)} {σ:St} {H:Hp} {s:Shared} (I:Inv X pins σ H s):interactive X.env=false:=by simp [interactive,I.ok.kind]
def tDrop (te:TE):TS:=fun D σ H=>te σ H fun _ H1=>D.nx σ H1
theorem ps_expr (he:PE X e te) (hs:swapsWith e none pos.line X.env=pure false:=by rfl):PS X (.Expr e pos) (tDrop te):=by
 intro pins s σ H D I h
 exact wpAny_Expr_any (thn (he pins s σ H _ I h) fun v s1 hx5=>L2.ex2 hx5 fun x H1 I1 r1 q1=>⟨σ,H1,I1,q1⟩) I.quiet hs
def tRet (te:TE):TS:=fun D σ H=>te σ H D.rt
theorem ps_ret (he:PE X e te):PS X (.Return (some e) pos) (tRet te):=by
 intro pins s σ H D I h
 exact wpAny_Return_some (thn (he pins s σ H _ I h) fun v s1 hx5=>L2.ex2 hx5 fun x H1 I1 r1 q1=>⟨x,σ,H1,I1,r1,q1⟩)
def tIfS (c:TT) (t u:TS):TS:=fun D σ H=>c σ H fun b H1=>if b=true then t D σ H1 else u D σ H1
theorem ps_if {c:Expr} {a b:List Stmt} {tc:TT} (hc:PT X c tc) (ha:PSs X a t) (hb:PSs X b u):PS X (.If c a b pos) (tIfS tc t u):=by
 intro pins s σ H D I h
 refine wpAny_If (thn (hc pins s σ H _ I h) fun d s1 hx9=>?_)
 obtain ⟨H1,I1,q1⟩:=hx9
 cases d with
 | true=>exact ha pins s1 σ H1 D I1 q1
 | false=>exact hb pins s1 σ H1 D I1 q1
def tNever:TS:=fun _ _ _=>False
theorem pss_never {sts:List Stmt}:PSs X sts tNever:=fun _ _ _ _ _ _ h=>h.elim
end
abbrev TG:=V->St->Hp->(St->Hp->Prop)->Prop
abbrev TGs:=List V->St->Hp->(St->Hp->Prop)->Prop
def PG (X:Cx) (target:Expr) (t:TG):Prop :=
 ∀ (pins:List (Addr × Obj)) (s:Shared) (σ:St) (H:Hp) (v:V) (u:Value) (Q:St->Hp->Prop),Inv X pins σ H s->RelV v u->t v σ H Q ->
  wpAny (model X.prog X.w) X.A (assign target X.env u) (fun _ s'=>∃ σ' H',Inv X pins σ' H' s'/\Q σ' H') X.xe s
def PGs (X:Cx) (ts:List Expr) (t:TGs):Prop :=
 ∀ (pins:List (Addr × Obj)) (s:Shared) (σ:St) (H:Hp) (vs:List V) (us:List Value) (Q:St->Hp->Prop),Inv X pins σ H s->Vals vs us->t vs σ H Q ->
  wpAny (model X.prog X.w) X.A (assignInOrder ((assignEach ts X.env).map (·.2)) us) (fun _ s'=>∃ σ' H',Inv X pins σ' H' s'/\Q σ' H') X.xe s
section
variable {X:Cx} {pos:Pos}
def gName (i:Nat):TG:=fun v σ H Q=>Q (σ.set i (some v)) H
theorem pg_name {i:Nat} {x:Str} (hN:X.N.Nodup) (hi:X.N[i]? = some x) (hx:Loc X.env.scope x) (hf:X.fn x=true\/X.env.scope.names.lookup x=some .local:=by first | exact .inl rfl | exact .inr rfl | assumption):PG X (.Name x pos) (gName i):=by
 intro pins s σ H v u Q I r h
 exact wpAny_assign_Name (store_ok I hN hi hx r (fun s' I'=>⟨_,H,I',h⟩) hf)
def gNil:TGs:=fun vs σ H Q=>vs=[]/\Q σ H
def gCons (t:TG) (u:TGs):TGs:=fun vs σ H Q=>∃ v r,vs=v :: r/\t v σ H fun σ' H'=>u r σ' H' Q
theorem pgs_nil:PGs X [] gNil:=by
 intro pins s σ H vs us Q I r h
 obtain ⟨e,h⟩:=h
 subst e
 cases r
 exact assignInOrder_nil ⟨σ,H,I,h⟩
theorem pgs_cons {e:Expr} {es:List Expr} {t:TG} {u:TGs} (h1:PG X e t) (h2:PGs X es u)
  (hs:(assignEach (e :: es) X.env).map (·.2)=assign e X.env :: (assignEach es X.env).map (·.2):=by rfl):PGs X (e :: es) (gCons t u):=by
 intro pins s σ H vs us Q I r h
 obtain ⟨v,vr,e1,h⟩:=h
 subst e1
 cases r with
 | cons r rr =>
  rw [hs]
  refine assignInOrder_cons (thn (h1 pins s σ H _ _ _ I r h) fun _ s1 hx9=>?_)
  obtain ⟨σ1,H1,I1,q1⟩:=hx9
  exact h2 pins s1 σ1 H1 _ _ Q I1 rr q1
def gTup (K:PySem.W.Frag) (n:Nat) (t:TGs):TG:=fun v σ H Q=>∃ a xs,v=.ref a/\SqT K H a xs/\xs.length=n/\t xs σ H Q
theorem pg_tup {es:List Expr} {k:Nat} {t:TGs} {n:Nat} (hc:X.calm=true) (h:PGs X es t)
  (hn:(assignEach es X.env).length=n:=by rfl) (hst:(assignEach es X.env).findIdx? (·.1)=none:=by rfl):PG X (.Tuple es k pos) (gTup X.K n t):=by
 intro pins s σ H v u Q I r hw
 obtain ⟨a,xs,e1,hq,hl,hw⟩:=hw
 subst e1
 cases r
 obtain ⟨its,rv,ht,hz⟩:=I.tuple hq
 refine assign_Tuple_tuple (I.ok.hd hc) ht (by simp [hn,<- hl,rv.length]) hst fun h' hx=>?_
 have I1:Inv X pins σ H { s with heap:=h' }:=I.kept (t':=s.toks) fun b o e=>hx b o (xat (xan e)) e
 exact h pins _ σ H xs _ Q I1 (by simpa using rv) hw
def tAsg (te:TE) (g:TG):TS:=fun D σ H=>te σ H fun x H1=>g x σ H1 D.nx
theorem ps_set {i:Nat} {x:Str} {e:Expr} {te:TE} {pos':Pos} (hN:X.N.Nodup) (hi:X.N[i]? = some x) (hx:Loc X.env.scope x) (he:PE X e te) (hs:swapsWith e (some (.Name x pos')) pos.line X.env=pure false:=by rfl) (hf:X.fn x=true\/X.env.scope.names.lookup x=some .local:=by first | exact .inl rfl | exact .inr rfl | assumption) :
  PS X (.Assign [.Name x pos'] e pos) (tAsg te (gName i)):=by
 intro pins s σ H D I h
 refine wpAny_Assign_Name (thn (he pins s σ H _ I h) fun v s1 hx5=>L2.ex2 hx5 fun y H1 I1 r1 q1=>?_) hs
 exact store_ok I1 hN hi hx r1 (fun s2 I2=>⟨_,H1,I2,q1⟩) hf
end
section
variable {X:Cx} {pos:Pos}
def tWhile (c:TT) (tb:TS):TS:=fun D σ H=>∃ W:Nat->St->Hp->Prop,(∃ m,W m σ H)/\∀ m σ H,W m σ H ->
 c σ H fun b H1=>if b=true then ∃ N:St->Hp->Prop,(∀ σ' H',N σ' H'->∃ m',m'<m/\W m' σ' H')/\tb { D with nx:=N,ct:=N,bk:=D.nx } σ H1 else D.nx σ H1
theorem ps_while {c:Expr} {body:List Stmt} {tc:TT} {tb:TS} (hp:PassesOwn (model X.prog X.w) X.A X.env X.xe) (hc:PT X c tc) (hb:PSs X body tb):PS X (.While c body [] pos) (tWhile tc tb):=by
 intro pins s σ H D I h
 obtain ⟨W,⟨m0,w0⟩,turn⟩:=h
 refine wpAny_While (codeAny_whileLoop (fun n s'=>∃ σ' H',Inv X pins σ' H' s'/\W n σ' H') ?_ m0 ⟨σ,H,I,w0⟩)
 rintro n s1 ⟨σ1,H1,I1,w1⟩
 refine wpAny_passesOwn hp (thn (hc pins s1 σ1 H1 _ I1 (turn n σ1 H1 w1)) fun b s2 hx9=>?_)
 obtain ⟨H2,I2,q2⟩:=hx9
 cases b with
 | true =>
  obtain ⟨N,hN,q2⟩:=q2
  rw [if_pos rfl]
  refine wpAny_passesOwn hp (thn (hb pins s2 σ1 H2 _ I2 q2) fun f s3 q3=>?_)
  cases f with
  | next =>
   obtain ⟨σ3,H3,I3,n3⟩:=q3
   obtain ⟨m',hm,w3⟩:=hN σ3 H3 n3
   exact ⟨m',hm,σ3,H3,I3,w3⟩
  | cont =>
   obtain ⟨σ3,H3,I3,n3⟩:=q3
   obtain ⟨m',hm,w3⟩:=hN σ3 H3 n3
   exact ⟨m',hm,σ3,H3,I3,w3⟩
  | brk=>exact q3
  | ret v=>exact q3
 | false =>
  rw [if_neg xam]
  exact wpAny_execs_nil ⟨σ1,H2,I2,q2⟩
end
structure It where
 go:Nat->Hp->Prop
 yld:Nat->Hp->V->Hp->Prop
 stop:Nat->Hp->Prop
def FpOk (X:Cx) (pins:List (Addr × Obj)) (H:Hp) (b:Addr):Prop :=
 H b=none/\b≠X.env.locals/\b∉X.fs/\(b∈X.ex\/X.s₀.heap.objs.size<=b)/\(∀ x c,X.env.cells.lookup x=some c->c≠b)/\∀ p∈X.pn++pins,p.1≠b
theorem Inv.fpOk {X:Cx} {pins:List (Addr × Obj)} {σ:St} {H H':Hp} {s:Shared} {b:Addr} (I:Inv X pins σ H s) (hb:s.heap.objs.size<=b) (hn:H' b=none):FpOk X pins H' b:=by
 refine ⟨hn,xbW (xav I.lt hb),I.nofs hb,.inr (xaq I.sz hb),fun x c e z=>?_,fun p hp z=>?_⟩
 ·obtain ⟨v,q⟩:=I.cell x c e
  exact absurd (xav q.lt (by rw [z]; exact hb)) (xa9 _)
 ·exact absurd (xav (xan (I.pin p hp).1) (by rw [z]; exact hb)) (xa9 _)
structure Turn (P:Program) (w:World) (K:PySem.W.Frag) (tg:Expr) (J:It) (fp:List Addr) (it:Addr) (tn:Nat->Heap->Prop):Prop where
 mem:it∈fp
 obj:∀ i h,tn i h->∀ b∈fp,∃ o,h.get? b=some o/\∀ v,o.data≠.cell v
 keep:∀ i h h',tn i h->(∀ b∈fp,∀ o,h.get? b=some o->h'.get? b=some o)->tn i h'
 item:∀ (X:Cx),X.prog=P->X.w=w->X.K=K->X.calm=true->∀ (i:Nat) (pins:List (Addr × Obj)) (s:Shared) (σ:St) (H:Hp) (E:Value->Shared->Prop),Inv X pins σ H s->(∀ b∈fp,FpOk X pins H b)->tn i s.heap->J.go i H ->
  wpAny (model P w) X.A (pyNext (.ref it)) (fun r s1=>∃ u,r=some u /\
   wpAny (model P w) X.A (letOwnedTupleGo tg (.ref it) u) (fun _ s2=>∃ x H',Inv X pins σ H' s2/\RelV x u/\J.yld i H x H'/\tn (i+1) s2.heap/\∀ b∈fp,H' b=none) E s1) E s
 done:∀ (X:Cx),X.prog=P->X.w=w->X.K=K->X.calm=true->∀ (i:Nat) (pins:List (Addr × Obj)) (s:Shared) (σ:St) (H:Hp) (E:Value->Shared->Prop),Inv X pins σ H s->(∀ b∈fp,FpOk X pins H b)->tn i s.heap->J.stop i H ->
  wpAny (model P w) X.A (pyNext (.ref it)) (fun r s1=>r=none/\Inv X pins σ H s1) E s
 self:∀ (A:Around) (i:Nat) (s:Shared) (Q:Value->Shared->Prop) (E:Value->Shared->Prop),tn i s.heap->Q (.ref it) s->wpAny (model P w) A (pyIter (.ref it)) Q E s
abbrev TI:=St->Hp->(It->Hp->Prop)->Prop
def PIE (X:Cx) (pins:List (Addr × Obj)) (σ:St) (tg:Expr) (R:It->Hp->Prop) (itv:Value) (s2:Shared):Prop :=
 ∃ (it:Addr) (fp:List Addr) (tn:Nat->Heap->Prop) (J:It) (H':Hp),itv=.ref it/\Inv X pins σ H' s2/\Turn X.prog X.w X.K tg J fp it tn/\tn 0 s2.heap/\(∀ b∈fp,FpOk X pins H' b)/\R J H'
def PI (X:Cx) (tg iter:Expr) (wi:TI):Prop :=
 ∀ (pins:List (Addr × Obj)) (s:Shared) (σ:St) (H:Hp) (R:It->Hp->Prop),Inv X pins σ H s->wi σ H R ->
  wpAny (model X.prog X.w) X.A (eval iter X.env) (fun v s1=>wpAny (model X.prog X.w) X.A (pyIter v) (PIE X pins σ tg R) X.xe s1) X.xe s
theorem go_of {M:Model} {A:Around} {E:Value->Shared->Prop} {s:Shared} {tg:Expr} {it:Addr} {u:Value} {o:Obj} {n:String} {vs:Array Value} {Q:Unit->Shared->Prop} (ho:s.heap.get? it=some o) (hc:o.cls=.type n) (hd:o.data=.fields vs)
  (hn:["enumerate", "zip", "dict_itemiterator", "dict_reverseitemiterator", "odict_iterator", "itertools.zip_longest", "itertools.pairwise"].contains n=false) (hQ:Q () s):wpAny M A (letOwnedTupleGo tg (.ref it) u) Q E s:=by
 unfold letOwnedTupleGo
 cases tg <;> first
  | exact xad hQ
  | (cases u <;> first
     | exact xad hQ
     | (refine xaa (wpAny_load ho ?_)
        rw [hc,hd]
        show wpAny M A (if (["enumerate", "zip", "dict_itemiterator", "dict_reverseitemiterator", "odict_iterator", "itertools.zip_longest", "itertools.pairwise"].contains n && vs[0]? == some (rawInt _))=true then _ else _) Q E s
        rw [if_neg (by intro h; rw [hn,Bool.false_and] at h; cases h)]
        exact xad hQ))
def Itl (K:PySem.W.Frag) (a:Addr):It :=
 ⟨fun i H=>∃ xs x,SqL K H a xs/\xs[i]? = some x,fun i H x H'=>H'=H/\∀ xs,SqL K H a xs->xs[i]? = some x,fun i H=>∃ xs,SqL K H a xs/\xs.length<=i⟩
def Itr (lo:Int) (n:Nat):It:=⟨fun i _=>i<n,fun i H x H'=>H'=H/\x=.int (lo+i),fun i _=>n<=i⟩
theorem turn_list {P:Program} {w:World} {K:PySem.W.Frag} {tg:Expr} (a it:Addr):Turn P w K tg (Itl K a) [it] it (fun i h=>h.IsListIter it a i) where
 mem:=by simp
 obj:=fun i h st b hb=>by
  have e:b=it:=by simpa using hb
  subst e
  obtain ⟨o,e,c,d⟩:=st
  exact ⟨o,e,fun v z=>by rw [d] at z; cases z⟩
 keep:=fun i h h' st k=>st.at fun o e=>k it (by simp) o e
 item:=by
  intro X hP hw hK hc i pins s σ H E I hf st hg
  subst hP hw hK
  obtain ⟨xs,x,hq,hx⟩:=hg
  obtain ⟨its,rv,p,hz⟩:=I.list hq
  obtain ⟨u,hu,ru⟩:=rv.get hx
  obtain ⟨f0,f1,f2,f3,f4,f5⟩:=hf it (by simp)
  refine wpAny_pyNext_list_item st p.isList (x:=u) (by simpa using hu) fun h' st' sb=>?_
  have I1:Inv X pins σ H { s with heap:=h' }:=I.turned (t':=s.toks) (fun b o hb e=>(sb.2 b hb).trans e) f0 f1 f3 f4 f5
  obtain ⟨o,e,c,d⟩:=id st'
  exact ⟨u,rfl,go_of (s:={ s with heap:=h' }) e c d (by decide) ⟨x,H,I1,ru,⟨rfl,fun ys hy=>by rw [I.list_inj hy hq]; exact hx⟩,st',fun b hb=>(hf b hb).1⟩⟩
 done:=by
  intro X hP hw hK hc i pins s σ H E I hf st hg
  subst hP hw hK
  obtain ⟨xs,hq,hx⟩:=hg
  obtain ⟨its,rv,p,hz⟩:=I.list hq
  obtain ⟨f0,f1,f2,f3,f4,f5⟩:=hf it (by simp)
  have hl:=rv.length
  exact wpAny_pyNext_list_end (I.ok.hd hc) st p.isList (by simp; lia) fun h' eb=>⟨rfl,I.turned (t':=s.toks) (fun b o hb e=>eb b o hb e) f0 f1 f3 f4 f5⟩
 self:=fun _ _ _ _ _ st h=>wpAny_pyIter_listiter st h
theorem turn_range {P:Program} {w:World} {K:PySem.W.Frag} {tg:Expr} (it:Addr) (lo:Int) (n:Nat):Turn P w K tg (Itr lo n) [it] it (fun i h=>IsRangeIter h it (lo+(i:Nat) * 1) ((n:Int) - (i:Nat)) 1) where
 mem:=by simp
 obj:=fun i h st b hb=>by
  have e:b=it:=by simpa using hb
  subst e
  exact ⟨_,st,fun v z=>by
   have z':Data.fields _=Data.cell v:=z
   cases z'⟩
 keep:=fun i h h' st k=>k it (by simp) _ st
 item:=by
  intro X hP hw hK hc i pins s σ H E I hf st hg
  subst hP hw hK
  obtain ⟨f0,f1,f2,f3,f4,f5⟩:=hf it (by simp)
  have W:=Walks.range (prog:=X.prog) (w:=X.w) (I.ok.hd hc) it lo 1 n
  refine W.item i s _ _ hg st fun v h' tk hv st' kk=>?_
  obtain ⟨t,rfl⟩:=hv
  have I1:Inv X pins σ H { s with heap:=h',toks:=tk }:=I.turned (fun b o hb e=>kk b o (by simpa using hb) e) f0 f1 f3 f4 f5
  refine ⟨_,rfl,go_of (s:={ s with heap:=h',toks:=tk }) (n := "range_iterator") st' rfl rfl (by decide) ⟨.int (lo+i),H,I1,⟨t,?_⟩,⟨rfl,rfl⟩,st',fun b hb=>(hf b hb).1⟩⟩
  rw [Int.mul_one]
 done:=by
  intro X hP hw hK hc i pins s σ H E I hf st hg
  subst hP hw hK
  obtain ⟨f0,f1,f2,f3,f4,f5⟩:=hf it (by simp)
  exact wpAny_pyNext_range_end (I.ok.hd hc) st (by have:n<=i:=hg; lia) fun h' eb=>⟨rfl,I.turned (t':=s.toks) (fun b o hb e=>eb b o hb e) f0 f1 f3 f4 f5⟩
 self:=fun _ _ _ _ _ st h=>wpAny_pyIter_rangeiter st h
section
variable {X:Cx} {tg:Expr}
def iList (K:PySem.W.Frag) (tl:TE):TI:=fun σ H R=>tl σ H fun x H1=>∃ a,x=.ref a/\(∃ xs,SqL K H1 a xs)/\R (Itl K a) H1
theorem pi_list {l:Expr} {tl:TE} (hl:PE X l tl):PI X tg l (iList X.K tl):=by
 intro pins s σ H R I h
 refine thn (hl pins s σ H _ I h) fun v s1 hx5=>L2.ex2 hx5 fun x H1 I1 r1 q1=>?_
 obtain ⟨a,e,⟨xs,hq⟩,q⟩:=q1
 subst e
 cases r1
 obtain ⟨its,rv,p,hz⟩:=I1.list hq
 refine wpAny_pyIter_list p.isList ?_
 refine ⟨s1.heap.objs.size,[s1.heap.objs.size],_,_,H1,rfl,I1.kept (t':=s1.toks) fun b o e=>xae _ e,turn_list a _,⟨_,xao _ rfl,rfl,rfl⟩,fun b hb=>?_,q⟩
 have e:b=s1.heap.objs.size:=by simpa using hb
 subst e
 exact I1.fpOk (xah _) (I1.hok.fresh (xah _))
theorem range_it {pins:List (Addr × Obj)} {σ:St} {H:Hp} {s:Shared} {R:It->Hp->Prop} {E:Value->Shared->Prop} {lo hi:Int} {t u v:Tok} {tk:Nat} (I:Inv X pins σ H s) (h1:-(2 ^ 62)<=lo) (h2:lo<2 ^ 62) (h3:-(2 ^ 62)<=hi) (h4:hi<2 ^ 62)
  (q:R (Itr lo (hi - lo).toNat) H):wpAny (model X.prog X.w) X.A (pyIter (.ref s.heap.objs.size)) (PIE X pins σ tg R) E { s with heap:=s.heap.push { cls:=.type "range",data:=.fields #[.int lo t,.int hi u,.int 1 v] },toks:=tk }:=by
 refine wpAny_pyIter_range (IsRange.new ..) (small_one h1 h2 h3 h4) ?_
 have I1:Inv X pins σ H { s with heap:=s.heap.push { cls:=.type "range",data:=.fields #[.int lo t,.int hi u,.int 1 v] },toks:=tk }:=I.kept fun b o e=>xae _ e
 refine ⟨(s.heap.push { cls:=.type "range",data:=.fields #[.int lo t,.int hi u,.int 1 v] }).objs.size,[(s.heap.push { cls:=.type "range",data:=.fields #[.int lo t,.int hi u,.int 1 v] }).objs.size],_,_,H,rfl,
  I1.kept (t':=tk) fun b o e=>xae _ e,turn_range _ lo (hi - lo).toNat,?_,fun b hb=>?_,q⟩
 ·have e1:lo+((0:Nat):Int) * 1=lo:=by simp
  have e2:(((hi - lo).toNat:Nat):Int) - ((0:Nat):Int)=Builtin.Range.rangeSize lo hi 1:=by rw [rangeSize_one]; split <;> lia
  show IsRangeIter _ _ (lo+((0:Nat):Int) * 1) ((((hi - lo).toNat:Nat):Int) - ((0:Nat):Int)) 1
  rw [e1,e2]
  exact xao _ rfl
 ·have e:b=(s.heap.push { cls:=.type "range",data:=.fields #[.int lo t,.int hi u,.int 1 v] }).objs.size:=by simpa using hb
  subst e
  exact I1.fpOk (xah _) (I1.hok.fresh (xah _))
def iRng1 (ta:TA):TI:=fun σ H R=>ta σ H fun vs H1=>∃ j:Int,vs=[.int j]/\-(2 ^ 62)<=j/\j<2 ^ 62/\R (Itr 0 j.toNat) H1
theorem pi_range1 {a:Expr} {ta:TA} {p pos:Pos} (hg:Gl X "range") (hm:X.mg "range" = none) (ha:PA X [a] ta) (hs:starEach [a] X.env=[(false,eval a X.env)]:=by rfl):PI X tg (.Call (.Name "range" p) [a] [] pos) (iRng1 ta):=by
 intro pins s σ H R I h
 refine Call_ (ld_blt I hg hm boot_range (PyProof.Rows.callWith_type1 (thn (ha pos pins s σ H _ I h) fun us s1 hx5=>L2.ex2 hx5 fun vs H1 I1 r1 q1=>?_) hs rfl))
 obtain ⟨j,e,q1,q2,q⟩:=q1
 subst e
 cases r1 with
 | cons r rr =>
  cases rr
  obtain ⟨t,rfl⟩:=r
  exact call_range_1 (range_it I1 (by decide) (by decide) q1 q2 (by simpa using q))
def tFor (wi:TI) (g:TG) (tb:TS):TS:=fun D σ H=>wi σ H fun J H1=>∃ W:Nat->Nat->St->Hp->Prop,(∃ m,W 0 m σ H1)/\∀ i m σ H,W i m σ H ->
 (J.stop i H/\D.nx σ H)\/(J.go i H/\∃ N:St->Hp->Prop,(∀ σ' H',N σ' H'->∃ m',m'<m/\W (i+1) m' σ' H')/\∀ x H',J.yld i H x H'->g x σ H' fun σ2 H2=>tb { D with nx:=N,ct:=N,bk:=D.nx } σ2 H2)
def pinsAt (fp:List Addr) (h:Heap):List (Addr × Obj):=fp.filterMap fun b=>(h.get? b).map fun o=>(b,o)
theorem mem_pinsAt {fp:List Addr} {h:Heap} {b:Addr} {o:Obj} (hb:b∈fp) (e:h.get? b=some o):(b,o)∈pinsAt fp h:=xch.mpr ⟨b,hb,by rw [e]; rfl⟩
theorem of_pinsAt {fp:List Addr} {h:Heap} {p:Addr × Obj} (hp:p∈pinsAt fp h):p.1∈fp/\h.get? p.1=some p.2:=by
 obtain ⟨b,hb,e⟩:=xch.mp hp
 cases q:h.get? b with
 | none=>rw [q] at e; cases e
 | some o =>
  rw [q] at e
  have e':(b,o)=p:=Option.some.inj e
  subst e'
  exact ⟨hb,q⟩
theorem Inv.pinned {pins:List (Addr × Obj)} {σ:St} {H:Hp} {s:Shared} {fp:List Addr} (I:Inv X pins σ H s) (hf:∀ b∈fp,FpOk X pins H b) (ho:∀ b∈fp,∃ o,s.heap.get? b=some o/\∀ v,o.data≠.cell v):Inv X (pins++pinsAt fp s.heap) σ H s :=
 I.pins_of fun p hp=>(xal.mp hp).elim (fun z=>I.pin p (xai _ z)) fun z=>by
  obtain ⟨hb,e⟩:=of_pinsAt z
  obtain ⟨f0,f1,f2,_⟩:=hf p.1 hb
  obtain ⟨o,e',d⟩:=ho p.1 hb
  rw [e] at e'; cases e'
  exact ⟨e,f0,f1,f2,d⟩
theorem Inv.unpinned {pins pl:List (Addr × Obj)} {σ:St} {H:Hp} {s:Shared} (I:Inv X (pins++pl) σ H s):Inv X pins σ H s:=I.pins_of fun p hp=>I.pin p (xai _ (xay _ hp))
theorem ps_for {iter:Expr} {body:List Stmt} {wi:TI} {g:TG} {tb:TS} {pos:Pos} (hp:PassesOwn (model X.prog X.w) X.A X.env X.xe) (hc:X.calm=true) (hi:PI X tg iter wi) (hg:PG X tg g) (hb:PSs X body tb)
  (hs:∀ x,foldedSetIterable iter X.env x=pure x:=by intro _; rfl):PS X (.For tg iter body [] pos) (tFor wi g tb):=by
 intro pins s σ H D I h
 refine wpAny_For (thn (hi pins s σ H _ I h) fun v s1 h1=>thn h1 fun itv s2 h2=>?_) hs
 obtain ⟨it,fp,tn,J,H2,e,I2,T,st2,f2,W,⟨m0,w0⟩,turn⟩:=h2
 subst e
 -- what stays true of the iterator's objects through the loop
 have stat:∀ {H':Hp},(∀ b∈fp,H' b=none)->∀ b∈fp,FpOk X pins H' b:=fun hn b hb=>⟨hn b hb,(f2 b hb).2⟩
 refine codeAny_forLoop_any (fun n s'=>∃ i σ' H',Inv X pins σ' H' s'/\tn i s'.heap/\(∀ b∈fp,H' b=none)/\W i n σ' H') ?_ m0 ⟨0,σ,H2,I2,st2,fun b hb=>(f2 b hb).1,w0⟩
 rintro n s3 ⟨i,σ3,H3,I3,st3,fr3,w3⟩
 rcases turn i n σ3 H3 w3 with ⟨stop,qn⟩ | ⟨go,N,hN,step⟩
 ·refine wpAny_passesOwn hp (thn (T.done X rfl rfl rfl hc i pins s3 σ3 H3 X.xe I3 (stat fr3) st3 stop) fun r s4 hx9=>?_)
  obtain ⟨hr,I4⟩:=hx9
  subst hr
  exact wpAny_execs_nil ⟨σ3,H3,I4,qn⟩
 ·refine wpAny_passesOwn hp (thn (T.item X rfl rfl rfl hc i pins s3 σ3 H3 X.xe I3 (stat fr3) st3 go) fun r s4 hx9=>?_)
  obtain ⟨u,hr,h4⟩:=hx9
  subst hr
  refine wpAny_passesOwn hp (thn h4 fun _ s5 hx9=>?_)
  obtain ⟨x,H5,I5,r5,y5,st5,fr5⟩:=hx9
  have I5':=I5.pinned (stat fr5) (T.obj _ _ st5)
  refine wpAny_passesOwn hp (thn (hg _ s5 σ3 H5 x u _ I5' r5 (step x H5 y5)) fun _ s6 hx9=>?_)
  obtain ⟨σ6,H6,I6,q6⟩:=hx9
  refine wpAny_passesOwn hp (thn (hb _ s6 σ6 H6 _ I6 q6) fun f s7 q7=>?_)
  have again:∀ {σ7:St} {H7:Hp},Inv X (pins++pinsAt fp s5.heap) σ7 H7 s7->N σ7 H7->∃ m,m<n/\∃ i σ' H',Inv X pins σ' H' s7/\tn i s7.heap/\(∀ b∈fp,H' b=none)/\W i m σ' H':=fun {σ7 H7} I7 n7=>by
   obtain ⟨m',hm,w7⟩:=hN σ7 H7 n7
   refine ⟨m',hm,i+1,σ7,H7,I7.unpinned,T.keep _ _ _ st5 fun b hb o e=>(I7.pin (b,o) (xai _ (xai _ (mem_pinsAt hb e)))).1,fun b hb=>?_,w7⟩
   obtain ⟨o,e,d⟩:=T.obj _ _ st5 b hb
   exact (I7.pin (b,o) (xai _ (xai _ (mem_pinsAt hb e)))).2.1
  cases f with
  | next=>obtain ⟨σ7,H7,I7,n7⟩:=q7; exact again I7 n7
  | cont=>obtain ⟨σ7,H7,I7,n7⟩:=q7; exact again I7 n7
  | brk=>obtain ⟨σ7,H7,I7,q7⟩:=q7; exact ⟨σ7,H7,I7.unpinned,q7⟩
  | ret v=>obtain ⟨x7,σ7,H7,I7,r7,q7⟩:=q7; exact ⟨x7,σ7,H7,I7.unpinned,r7,q7⟩
end
abbrev R2:=V->V->Hp->VK->Prop
def OpR (X:Cx) (f:Value->Value->Sem Value) (r:R2):Prop :=
 ∀ (pins:List (Addr × Obj)) (s:Shared) (σ:St) (H:Hp) (x y:V) (v u:Value) (Q:VK),Inv X pins σ H s->RelV x v->RelV y u->r x y H Q ->
  wpAny (model X.prog X.w) X.A (f v u) (EP X pins σ Q) X.xe s
def UnR (X:Cx) (f:Value->Sem Value) (r:V->Hp->VK->Prop):Prop :=
 ∀ (pins:List (Addr × Obj)) (s:Shared) (σ:St) (H:Hp) (x:V) (v:Value) (Q:VK),Inv X pins σ H s->RelV x v->r x H Q ->
  wpAny (model X.prog X.w) X.A (f v) (EP X pins σ Q) X.xe s
def CallR (X:Cx) (f:Value) (r:List V->Hp->VK->Prop):Prop :=
 ∀ (pins:List (Addr × Obj)) (s:Shared) (σ:St) (H:Hp) (xs:List V) (us:List Value) (Q:VK),Inv X pins σ H s->Vals xs us->r xs H Q ->
  wpAny (model X.prog X.w) X.A (call f us) (EP X pins σ Q) X.xe s
def tOp (r:R2) (ta tb:TE):TE:=fun σ H Q=>ta σ H fun x H1=>tb σ H1 fun y H2=>r x y H2 Q
def tUn (r:V->Hp->VK->Prop) (ta:TE):TE:=fun σ H Q=>ta σ H fun x H1=>r x H1 Q
def rI (C:Int->Int->Prop) (g:Int->Int->V):R2:=fun x y H Q=>∃ i j,x=.int i/\y=.int j/\C i j/\Q (g i j) H
def rI0 (g:Int->Int->V):R2:=fun x y H Q=>∃ i j,x=.int i/\y=.int j/\Q (g i j) H
def rU (g:Int->V):V->Hp->VK->Prop:=fun x H Q=>∃ i,x=.int i/\Q (g i) H
section
variable {X:Cx} {a b:Expr} {ta tb:TE} {pos:Pos}
theorem binT (ha:PE X a ta) (hb:PE X b tb) {pins:List (Addr × Obj)} {s:Shared} {σ:St} {H:Hp} {R:V->V->Hp->Prop} (I:Inv X pins σ H s)
  (h:ta σ H fun x H1=>tb σ H1 fun y H2=>R x y H2) {Q:Value->Shared->Prop} {f:Value->Value->Sem Value}
  (hf:∀ v u s2 x y H2,Inv X pins σ H2 s2->RelV x v->RelV y u->R x y H2->wpAny (model X.prog X.w) X.A (f v u) Q X.xe s2) :
  wpAny (model X.prog X.w) X.A (eval a X.env) (fun v s₁=>wpAny (model X.prog X.w) X.A (eval b X.env) (fun u s₂=>wpAny (model X.prog X.w) X.A (f v u) Q X.xe s₂) X.xe s₁) X.xe s:=by
 refine thn (ha pins s σ H _ I h) fun v s1 hx5=>L2.ex2 hx5 fun x H1 I1 r1 q1=>?_
 refine thn (hb pins s1 σ H1 _ I1 q1) fun u s2 hx5=>L2.ex2 hx5 fun y H2 I2 r2 q2=>?_
 exact hf v u s2 x y H2 I2 r1 r2 q2
theorem pe_op {op:Operator} {r:R2} (ho:OpR X (binaryOp op) r) (ha:PE X a ta) (hb:PE X b tb):PE X (.BinOp a op b pos) (tOp r ta tb):=by
 intro pins s σ H Q I h
 exact wpAny_BinOp (binT ha hb I h fun v u s2 x y H2 I2 rx ry q=>ho pins s2 σ H2 x y v u Q I2 rx ry q)
theorem pe_un {op:UnaryOp} {r:V->Hp->VK->Prop} (ho:UnR X (unaryOp op) r) (ha:PE X a ta):PE X (.UnaryOp op a pos) (tUn r ta):=by
 intro pins s σ H Q I h
 exact UnaryOp_ (thn (ha pins s σ H _ I h) fun v s1 hx5=>L2.ex2 hx5 fun x H1 I1 r1 q1=>ho pins s1 σ H1 x v Q I1 r1 q1)
theorem opI {f:Value->Value->Sem Value} {C:Int->Int->Prop} {g:Int->Int->Int}
  (rule:∀ (i j:Int) (t u:Tok) (s:Shared) (Q:Value->Shared->Prop) (E:Value->Shared->Prop),C i j->Q (.int (g i j) s.toks) { s with toks:=s.toks+1 }->wpAny (model X.prog X.w) X.A (f (.int i t) (.int j u)) Q E s) :
  OpR X f (rI C fun i j=>.int (g i j)):=by
 intro pins s σ H x y v u Q I rx ry h
 obtain ⟨i,j,rfl,rfl,hc,q⟩:=h
 obtain ⟨t,rfl⟩:=rx
 obtain ⟨t',rfl⟩:=ry
 exact rule i j t t' s _ _ hc ⟨.int (g i j),H,I.tok _,⟨_,rfl⟩,q⟩
theorem opI0 {f:Value->Value->Sem Value} {g:Int->Int->Int}
  (rule:∀ (i j:Int) (t u:Tok) (s:Shared) (Q:Value->Shared->Prop) (E:Value->Shared->Prop),Q (.int (g i j) s.toks) { s with toks:=s.toks+1 }->wpAny (model X.prog X.w) X.A (f (.int i t) (.int j u)) Q E s) :
  OpR X f (rI0 fun i j=>.int (g i j)):=by
 intro pins s σ H x y v u Q I rx ry h
 obtain ⟨i,j,rfl,rfl,q⟩:=h
 obtain ⟨t,rfl⟩:=rx
 obtain ⟨t',rfl⟩:=ry
 exact rule i j t t' s _ _ ⟨.int (g i j),H,I.tok _,⟨_,rfl⟩,q⟩
theorem opB0 {f:Value->Value->Sem Value} {g:Int->Int->Bool}
  (rule:∀ (i j:Int) (t u:Tok) (s:Shared) (Q:Value->Shared->Prop) (E:Value->Shared->Prop),Q (.bool (g i j)) s->wpAny (model X.prog X.w) X.A (f (.int i t) (.int j u)) Q E s) :
  OpR X f (rI0 fun i j=>.bl (g i j)):=by
 intro pins s σ H x y v u Q I rx ry h
 obtain ⟨i,j,rfl,rfl,q⟩:=h
 obtain ⟨t,rfl⟩:=rx
 obtain ⟨t',rfl⟩:=ry
 exact rule i j t t' s _ _ ⟨.bl (g i j),H,I,rfl,q⟩
def CDiv (i j:Int):Prop:=0<j/\j<1073741824
def CMul (i j:Int):Prop:=(-(2 ^ 64)<i/\i<2 ^ 64)\/(-(2 ^ 64)<j/\j<2 ^ 64)
theorem CMul.ok {i j:Int} (h:CMul i j):IntMulOk i j:=by
 rcases h with ⟨h1,h2⟩ | ⟨h1,h2⟩
 ·exact .of_left (intBits_le_64 h1 h2)
 ·exact .of_right (intBits_le_64 h1 h2)
theorem op_add:OpR X (binaryOp .Add) (rI0 fun i j=>.int (i+j)):=opI0 fun _ _ _ _ _ _ _ q=>add_int q
theorem op_sub:OpR X (binaryOp .Sub) (rI0 fun i j=>.int (i - j)):=opI0 fun _ _ _ _ _ _ _ q=>sub_int q
theorem op_mul:OpR X (binaryOp .Mult) (rI CMul fun i j=>.int (i * j)):=opI fun _ _ _ _ _ _ _ hc q=>mul_int q hc.ok
theorem op_fdiv:OpR X (binaryOp .FloorDiv) (rI CDiv fun i j=>.int (i / j)):=opI fun i j _ _ _ _ _ hc q=>by
 have h1:(0:Int)<j:=hc.1
 have h2:j<1073741824:=hc.2
 exact floordiv_int (by lia) (by rw [Int.fdiv_eq_ediv_of_nonneg i (by exact xbM ‹_›)]; exact q) (.inl (PyProof.noPylong_small (by lia)))
theorem op_mod:OpR X (binaryOp .Mod) (rI (fun _ j=>0<j) fun i j=>.int (i % j)):=opI fun i j _ _ _ _ _ hc q=>by
 have h1:(0:Int)<j:=hc
 exact mod_int' (by lia) (by rw [Int.fmod_eq_emod_of_nonneg i (by exact xbM ‹_›)]; exact q)
theorem unI {f:Value->Sem Value} {g:Int->Int}
  (rule:∀ (i:Int) (t:Tok) (s:Shared) (Q:Value->Shared->Prop) (E:Value->Shared->Prop),Q (.int (g i) s.toks) { s with toks:=s.toks+1 }->wpAny (model X.prog X.w) X.A (f (.int i t)) Q E s) :
  UnR X f (rU fun i=>.int (g i)):=by
 intro pins s σ H x v Q I rx h
 obtain ⟨i,rfl,q⟩:=h
 obtain ⟨t,rfl⟩:=rx
 exact rule i t s _ _ ⟨.int (g i),H,I.tok _,⟨_,rfl⟩,q⟩
theorem un_neg:UnR X (unaryOp .USub) (rU fun i=>.int (-i)):=unI fun _ _ _ _ _ q=>neg_int q
end
def scal:V->V->Bool
 | .non,.non=>true | .non,.int _=>true | .int _,.non=>true | .non,.bl _=>true | .bl _,.non=>true | .non,.str _=>true | .str _,.non=>true
 | .int _,.int _=>true | .bl _,.bl _=>true | .str _,.str _=>true | .byt _,.byt _=>true
 | .int _,.str _=>true | .str _,.int _=>true | .bl _,.str _=>true | .str _,.bl _=>true
 | _,_=>false
def rEq:R2:=fun x y H Q=>scal x y=true/\Q (.bl (decide (x=y))) H
def rNe:R2:=fun x y H Q=>scal x y=true/\Q (.bl (!decide (x=y))) H
theorem dec_int {i j:Int}:decide (V.int i=V.int j)=(i == j):=by
 rw [xa4]
 simp
theorem dec_bl {i j:Bool}:decide (V.bl i=V.bl j)=(i == j):=by
 rw [xa4]
 simp
theorem dec_str {i j:Str}:decide (V.str i=V.str j)=(i == j):=by
 rw [xa4]
 simp
theorem dec_byt {i j:Array UInt8}:decide (V.byt i=V.byt j)=(i.toList == j.toList):=by
 rw [xa4]
 cases i
 cases j
 simp
section
variable {X:Cx} {a b c:Expr} {ta tb:TE} {pos:Pos}
theorem fin_bl {pins:List (Addr × Obj)} {σ:St} {H:Hp} {s:Shared} {Q:VK} {k k':Bool} (I:Inv X pins σ H s) (q:Q (.bl k) H) (e:k=k'):EP X pins σ Q (.bool k') s:=by
 subst e
 exact ⟨.bl k,H,I,rfl,q⟩
theorem op_eq:OpR X (compareOp .Eq) rEq:=by
 intro pins s σ H x y v u Q I rx ry h
 obtain ⟨hs,q⟩:=h
 cases x with
 | non =>
  cases rx
  cases y with
  | non=>cases ry; exact PySem.EqNone.eq_none_none (fin_bl I q (by simp))
  | bl j=>cases ry; exact PySem.EqNone.eq_none_bool (fin_bl I q (by simp))
  | int j=>obtain ⟨t',rfl⟩:=ry; exact PySem.EqNone.eq_none_int (fin_bl I q (by simp))
  | str j=>obtain ⟨t',rfl⟩:=ry; exact PySem.EqNone.eq_none_str (fin_bl I q (by simp))
  | _=>exact absurd (show false=true from hs) xam
 | bl i =>
  cases rx
  cases y with
  | non=>cases ry; exact PySem.EqNone.eq_bool_none (fin_bl I q (by simp))
  | bl j=>cases ry; exact eq_bool (fin_bl I q dec_bl)
  | str j=>obtain ⟨t',rfl⟩:=ry; exact PySem.EqMixed.eq_bool_str (fin_bl I q (by simp))
  | _=>exact absurd (show false=true from hs) xam
 | int i =>
  obtain ⟨t,rfl⟩:=rx
  cases y with
  | non=>cases ry; exact PySem.EqNone.eq_int_none (fin_bl I q (by simp))
  | int j=>obtain ⟨t',rfl⟩:=ry; exact eq_int (fin_bl I q dec_int)
  | str j=>obtain ⟨t',rfl⟩:=ry; exact PySem.EqMixed.eq_int_str (fin_bl I q (by simp))
  | _=>exact absurd (show false=true from hs) xam
 | str i =>
  obtain ⟨t,rfl⟩:=rx
  cases y with
  | non=>cases ry; exact PySem.EqNone.eq_str_none (fin_bl I q (by simp))
  | bl j=>cases ry; exact PySem.EqMixed.eq_str_bool (fin_bl I q (by simp))
  | int j=>obtain ⟨t',rfl⟩:=ry; exact PySem.EqMixed.eq_str_int (fin_bl I q (by simp))
  | str j=>obtain ⟨t',rfl⟩:=ry; exact eq_str (fin_bl I q dec_str)
  | _=>exact absurd (show false=true from hs) xam
 | byt i =>
  obtain ⟨t,rfl⟩:=rx
  cases y with
  | byt j=>obtain ⟨t',rfl⟩:=ry; exact PySem.W.eq_bytes (fin_bl I q dec_byt)
  | _=>exact absurd (show false=true from hs) xam
 | _=>cases y <;> exact absurd (show false=true from hs) xam
theorem op_ne:OpR X (compareOp .NotEq) rNe:=by
 intro pins s σ H x y v u Q I rx ry h
 obtain ⟨hs,q⟩:=h
 cases x with
 | non =>
  cases rx
  cases y with
  | non=>cases ry; exact PySem.EqNone.ne_none_none (fin_bl I q (by simp))
  | bl j=>cases ry; exact PySem.EqNone.ne_none_bool (fin_bl I q (by simp))
  | int j=>obtain ⟨t',rfl⟩:=ry; exact PySem.EqNone.ne_none_int (fin_bl I q (by simp))
  | str j=>obtain ⟨t',rfl⟩:=ry; exact PySem.EqNone.ne_none_str (fin_bl I q (by simp))
  | _=>exact absurd (show false=true from hs) xam
 | bl i =>
  cases rx
  cases y with
  | non=>cases ry; exact PySem.EqNone.ne_bool_none (fin_bl I q (by simp))
  | bl j=>cases ry; exact ne_bool (fin_bl I q (congrArg not dec_bl))
  | str j=>obtain ⟨t',rfl⟩:=ry; exact PySem.EqMixed.ne_bool_str (fin_bl I q (by simp))
  | _=>exact absurd (show false=true from hs) xam
 | int i =>
  obtain ⟨t,rfl⟩:=rx
  cases y with
  | non=>cases ry; exact PySem.EqNone.ne_int_none (fin_bl I q (by simp))
  | int j=>obtain ⟨t',rfl⟩:=ry; exact ne_int (fin_bl I q (congrArg not dec_int))
  | str j=>obtain ⟨t',rfl⟩:=ry; exact PySem.EqMixed.ne_int_str (fin_bl I q (by simp))
  | _=>exact absurd (show false=true from hs) xam
 | str i =>
  obtain ⟨t,rfl⟩:=rx
  cases y with
  | non=>cases ry; exact PySem.EqNone.ne_str_none (fin_bl I q (by simp))
  | bl j=>cases ry; exact PySem.EqMixed.ne_str_bool (fin_bl I q (by simp))
  | int j=>obtain ⟨t',rfl⟩:=ry; exact PySem.EqMixed.ne_str_int (fin_bl I q (by simp))
  | str j=>obtain ⟨t',rfl⟩:=ry; exact ne_str (fin_bl I q (congrArg not dec_str))
  | _=>exact absurd (show false=true from hs) xam
 | byt i =>
  obtain ⟨t,rfl⟩:=rx
  cases y with
  | byt j=>obtain ⟨t',rfl⟩:=ry; exact PySem.W.ne_bytes (fin_bl I q (congrArg not dec_byt))
  | _=>exact absurd (show false=true from hs) xam
 | _=>cases y <;> exact absurd (show false=true from hs) xam
theorem op_lt:OpR X (compareOp .Lt) (rI0 fun i j=>.bl (decide (i<j))):=opB0 fun _ _ _ _ _ _ _ q=>lt_int q
theorem op_lt_str:OpR X (compareOp .Lt) (fun x y H Q=>∃ i j,x=.str i/\y=.str j/\Q (.bl (decide (i.cps.toList<j.cps.toList))) H):=by
 intro pins s σ H x y v u Q I rx ry h
 obtain ⟨i,j,rfl,rfl,q⟩:=h
 obtain ⟨t,rfl⟩:=rx
 obtain ⟨t',rfl⟩:=ry
 exact lt_str (fin_bl I q rfl)
theorem op_in_str:OpR X (compareOp .In) (fun x y H Q=>∃ i j,x=.str i/\y=.str j/\Q (.bl (!(Builtin.Str.occurrences j i 0 j.length 1).isEmpty)) H):=by
 intro pins s σ H x y v u Q I rx ry h
 obtain ⟨i,j,rfl,rfl,q⟩:=h
 obtain ⟨t,rfl⟩:=rx
 obtain ⟨t',rfl⟩:=ry
 exact in_str (fin_bl I q rfl)
theorem op_notin_str:OpR X (compareOp .NotIn) (fun x y H Q=>∃ i j,x=.str i/\y=.str j/\Q (.bl (!(!(Builtin.Str.occurrences j i 0 j.length 1).isEmpty))) H):=by
 intro pins s σ H x y v u Q I rx ry h
 obtain ⟨i,j,rfl,rfl,q⟩:=h
 obtain ⟨t,rfl⟩:=rx
 obtain ⟨t',rfl⟩:=ry
 exact notIn_str (fin_bl I q rfl)
theorem OpR.or {f:Value->Value->Sem Value} {r r':R2} (h:OpR X f r) (h':OpR X f r'):OpR X f (fun x y H Q=>r x y H Q\/r' x y H Q):=by
 intro pins s σ H x y v u Q I rx ry q
 rcases q with q | q
 ·exact h pins s σ H x y v u Q I rx ry q
 ·exact h' pins s σ H x y v u Q I rx ry q
theorem nomark (b:Expr) {op:CmpOp} (h:op≠.In:=by decide) (h2:op≠.NotIn:=by decide):behindInMarks op b=false:=by
 have e1:(op == CmpOp.In)=false:=by cases op <;> first | rfl | exact absurd rfl h
 have e2:(op == CmpOp.NotIn)=false:=by cases op <;> first | rfl | exact absurd rfl h2
 cases b <;> simp [behindInMarks,e1,e2]
theorem pe_cmpR {op:CmpOp} {r:R2} (ho:OpR X (compareOp op) r) (ha:PE X a ta) (hb:PE X b tb) (hm:behindInMarks op b=false):PE X (.Compare a [op] [b] pos) (tOp r ta tb):=by
 intro pins s σ H Q I h
 exact wpAny_Compare1 (binT ha hb I h fun v u s2 x y H2 I2 rx ry q=>ho pins s2 σ H2 x y v u Q I2 rx ry q) hm
def tTest (t:TE):TT:=fun σ H Q=>t σ H fun x H'=>∃ k,x=.bl k/\Q k H'
theorem pt_cmpR {op:CmpOp} {r:R2} (ho:OpR X (compareOp op) r) (ha:PE X a ta) (hb:PE X b tb) (hm:behindInMarks op b=false):PT X (.Compare a [op] [b] pos) (tTest (tOp r ta tb)):=by
 intro pins s σ H Q I h
 refine wpAny_isTrue_Compare1 (thn (ha pins s σ H _ I h) fun v s1 hx5=>L2.ex2 hx5 fun x H1 I1 r1 q1=>thn (hb pins s1 σ H1 _ I1 q1) fun u s2 hx5=>L2.ex2 hx5 fun y H2 I2 r2 q2 =>
  thn (ho pins s2 σ H2 x y v u _ I2 r1 r2 q2) fun c s3 ⟨z,H3,I3,r3,k,e,q3⟩=>?_) hm
 subst e
 cases r3
 exact wpAny_truthy_bool ⟨H3,I3,q3⟩
theorem line63:(sizeLine:Nat)<2 ^ 63:=by rw [sizeLine_eq]; decide
theorem op_add_str:OpR X (binaryOp .Add) (fun x y H Q=>∃ i j,x=.str i/\y=.str j/\i.length+j.length<=sizeLine/\Q (.str (i++j)) H):=by
 intro pins s σ H x y v u Q I rx ry h
 obtain ⟨i,j,rfl,rfl,hz,q⟩:=h
 obtain ⟨t,rfl⟩:=rx
 obtain ⟨t',rfl⟩:=ry
 exact add_str (fun t' tk=>⟨.str (i++j),H,I.tok _,⟨_,rfl⟩,q⟩) hz
theorem vals1 {x:V} {us:List Value} (r:Vals [x] us):∃ u,us=[u]/\RelV x u:=by
 cases r with
 | cons r1 r2=>cases r2; exact ⟨_,rfl,r1⟩
theorem call_int1:CallR X (.type "int") (fun xs H Q=>(∃ i,xs=[.int i]/\Q (.int i) H)\/∃ k,xs=[.bl k]/\Q (.int (if k then 1 else 0)) H):=by
 intro pins s σ H xs us Q I r h
 rcases h with ⟨i,rfl,q⟩ | ⟨k,rfl,q⟩
 ·obtain ⟨u,rfl,t,rfl⟩:=vals1 r
  exact call_int_int ⟨.int i,H,I,⟨_,rfl⟩,q⟩
 ·obtain ⟨u,rfl,r1⟩:=vals1 r
  cases r1
  exact call_int_bool ⟨.int (if k then 1 else 0),H,I.tok _,⟨_,rfl⟩,q⟩
def LenV (K:PySem.W.Frag) (x:V) (H:Hp) (n:Nat):Prop :=
 match x with
 | .str y=>y.length<=sizeLine/\n=y.length
 | .byt y=>y.size<=sizeLine/\n=y.size
 | .ref p=>(∃ xs,SqL K H p xs/\n=xs.length)\/∃ xs,SqT K H p xs/\n=xs.length
 | _=>False
theorem call_len:CallR X (.builtin "len") (fun xs H Q=>∃ x n,xs=[x]/\LenV X.K x H n/\Q (.int n) H):=by
 intro pins s σ H xs us Q I r h
 obtain ⟨x,n,rfl,e,q⟩:=h
 obtain ⟨u,rfl,rx⟩:=vals1 r
 have hl:=line63
 have hs:sizeLine=16777216:=sizeLine_eq
 cases x with
 | str y =>
  obtain ⟨t,rfl⟩:=rx
  obtain ⟨hy,e'⟩:y.length<=sizeLine/\n=y.length:=e
  subst e'
  exact len_str (by lia) ⟨.int _,H,I.tok _,⟨_,rfl⟩,q⟩
 | byt y =>
  obtain ⟨t,rfl⟩:=rx
  obtain ⟨hy,e'⟩:y.size<=sizeLine/\n=y.size:=e
  subst e'
  exact PySem.W.len_bytes (by walk_at "s4") ⟨.int _,H,I.tok _,⟨_,rfl⟩,q⟩
 | ref p =>
  cases rx
  have e':(∃ xs,SqL X.K H p xs/\n=xs.length)\/∃ xs,SqT X.K H p xs/\n=xs.length:=e
  rcases e' with ⟨xs,hx,e'⟩ | ⟨xs,hx,e'⟩
  ·subst e'
   obtain ⟨its,r',pl,hz⟩:=I.list hx
   have hlen:=r'.length
   exact Calls.call_len_list pl.isList (by simp only [xaw]; lia) ⟨.int xs.length,H,I.tok _,⟨_,by simp only [xaw]; rw [hlen]⟩,q⟩
  ·subst e'
   obtain ⟨its,r',pl,hz⟩:=I.tuple hx
   have hlen:=r'.length
   exact len_tuple pl (by simp only [xaw]; lia) ⟨.int xs.length,H,I.tok _,⟨_,by simp only [xaw]; rw [hlen]⟩,q⟩
 | _=>exact (show False from e).elim
end
structure ObjM (h:Heap) (x dx C:Addr) (mA:Str->Option Value):Prop where
 obj:h.get? x=some (PySem.W.instObj C dx)
 ns:h.Ns1 dx mA
 ne:dx≠x
theorem lookIn_ns {h:Heap} {dx:Addr} {mA:Str->Option Value} (n:h.Ns1 dx mA):∃ od,h.get? dx=some od/\∀ name,PySem.W.lookIn name od=some (mA name):=by
 obtain ⟨o,es,ep,ho,hd,hk,_,hm⟩:=n
 refine ⟨o,ho,fun name=>?_⟩
 have e:=hm name
 unfold nsFind findBy at e
 rw [<- Array.find?_toList] at e
 unfold PySem.W.lookIn
 rw [hd]
 dsimp only
 split
 ·rename_i y q
  rw [q] at e
  exact congrArg some e
 ·rename_i q
  rw [q] at e
  have a:es.toList.any (·.refKey)=false:=by
   rw [List.any_eq_false]
   intro y hy
   obtain ⟨z,t,hkey⟩:=hk y (Array.mem_toList_iff.mp hy)
   simp [DictEntry.refKey,hkey]
  have a':¬ es.toList.any (·.refKey)=true:=by rw [a]; exact xam
  rw [if_neg a']
  exact congrArg some e
theorem ObjM.look {h:Heap} {x dx C:Addr} {mA:Str->Option Value} (I:ObjM h x dx C mA):∃ od,PySem.W.InstAt h x (PySem.W.instObj C dx) C (some od)/\∀ name,PySem.W.lookIn name od=some (mA name) :=
 let ⟨od,ho,hl⟩:=lookIn_ns I.ns
 ⟨od,⟨I.obj,rfl,rfl,ho⟩,hl⟩
theorem RelO.some_of {v:V} {o:Option Value} (r:RelO (some v) o):∃ u,o=some u/\RelV v u:=by
 cases o with
 | none=>exact (show False from r).elim
 | some u=>exact ⟨u,rfl,r⟩
section
variable {P:Program} {w:World} {H:Hp} {h:Heap} {a C dx:Addr} {fs:List (Str × V)}
theorem ins_get (hok:HOk P w H h) (e:H a=some (.ins C dx fs)):∃ mA,ObjM h a dx C mA/\(∀ f,RelO (fs.lookup f) (mA f))/\PySem.Within mA (fs.map (·.1))/\fs.length<=1000/\H dx=some (.own a):=by
 obtain ⟨d,z,ne,ob,mA,n,r,q⟩:=(show ObjOk P w H h a (.ins C dx fs) from hok a _ e)
 exact ⟨mA,⟨ob,n,ne⟩,r,q,z,d⟩
end
structure Cls (K:PySem.W.Frag) (C:Addr):Prop where
 pg:PySem.W.plainGet K C Str.empty=true
 hd:PySem.W.hasDictIn K C=true
 po:PySem.W.plainOver K C=true
 sa:PySem.W.findIn K (.ref C) "__setattr__" = some (some (.builtin "object.__setattr__"))
theorem Cls.get {K:PySem.W.Frag} {C:Addr} (c:Cls K C) (f:Str):PySem.W.plainGet K C f=true:=c.pg
structure Con (K:PySem.W.Frag) (C:Addr) (f:Str) (v:V) (u:Value):Prop where
 at_:PySem.W.findIn K (.ref C) f=some (some u)
 rel:RelV v u
 get:PySem.W.specialIn K u "__get__" = some none
 cp:PySem.W.copiedNames.contains f=false
structure Meth (K:PySem.W.Frag) (C:Addr) (m:Str) (f:Addr):Prop where
 at_:PySem.W.findIn K (.ref C) m=some (some (.ref f))
 fn:PySem.W.isFn K (.ref f)=true
 kp:PySem.W.keepIn K (.ref f)=true
section
variable {X:Cx} {pins:List (Addr × Obj)} {σ:St} {H:Hp} {s:Shared} {a C:Addr}
theorem Inv.made (I:Inv X pins σ H s):Inv X pins σ (upd (upd H s.heap.objs.size (.own (s.heap.objs.size+1))) (s.heap.objs.size+1) (.ins C s.heap.objs.size []))
  { s with heap:=(s.heap.push PySem.W.emptyDict).push (PySem.W.instObj C s.heap.objs.size) }:=by
 have e1:(s.heap.push PySem.W.emptyDict).get? s.heap.objs.size=some PySem.W.emptyDict:=xao s.heap rfl
 have e2:((s.heap.push PySem.W.emptyDict).push (PySem.W.instObj C s.heap.objs.size)).get? (s.heap.objs.size+1)=some (PySem.W.instObj C s.heap.objs.size):=by
  have:=xao (s.heap.push PySem.W.emptyDict) (o:=PySem.W.instObj C s.heap.objs.size) rfl
  rwa [xbt] at this
 have e3:(s.heap.push PySem.W.emptyDict).Ns s.heap.objs.size (fun _=>none):=⟨PySem.W.emptyDict,#[],_,e1,rfl,(fun e he=>absurd he (by simp)),fun _=>rfl⟩
 have I1:=I.laid (a:=s.heap.objs.size) (o:=.own (s.heap.objs.size+1)) (h':=s.heap.push PySem.W.emptyDict) (t':=s.toks) (fun b u q=>xae _ q) (xah _) ⟨_,e1⟩
 refine I1.laid (a:=s.heap.objs.size+1) (o:=.ins C s.heap.objs.size []) (t':=s.toks) (fun b u q=>xae _ q) (xbG (xbt _ _)) ?_
 have ne:s.heap.objs.size≠s.heap.objs.size+1:=xat (xb4 _)
 refine ⟨by rw [upd_ne ne,upd_same],xaz _,ne,e2,fun _=>none,(Heap.Ns1.of_empty e3).at fun o q=>xae _ q,fun _=>True.intro,fun y hy=>absurd rfl hy⟩
end
section
variable {X:Cx} {pins:List (Addr × Obj)} {σ:St} {H:Hp} {s:Shared} {A:Around} {E:Value->Shared->Prop} {Q:Value->Shared->Prop} {c:Value} {b:Bool}
inductive TyOf (K:PySem.W.Frag) (H:Hp):V->Value->Prop where
 | non:TyOf K H .non (.type "NoneType")
 | bl (x:Bool):TyOf K H (.bl x) (.type "bool")
 | int (i:Int):TyOf K H (.int i) (.type "int")
 | str (x:Str):TyOf K H (.str x) (.type "str")
 | flt (x:UInt64):TyOf K H (.flt x) (.type "float")
 | lst {a:Addr} {xs:List V} (e:H a=some (.lst xs)):TyOf K H (.ref a) (.type "list")
 | frz {a:Addr} {o:Obj} {xs:List V} (e:H a=some (.frz o (.lst xs))):TyOf K H (.ref a) (.type "list")
 | tup {a:Addr} {xs:List V} (e:H a=some (.tup xs)):TyOf K H (.ref a) (.type "tuple")
 | dK {a:Addr} {kvs:List (Key × V)} (e:H a=some (.dK kvs)):TyOf K H (.ref a) (.type "dict")
 | dT {a:Addr} {kvs:List (List Key × V)} (e:H a=some (.dT kvs)):TyOf K H (.ref a) (.type "dict")
 | ins {a C dx:Addr} {fs:List (Str × V)} (e:H a=some (.ins C dx fs)) (cl:Cls K C) (ha:PySem.W.findIn K (.ref C) "__class__" = some (some (.builtin "object.__class__")))
   (hn:PySem.W.specialIn K (.builtin "object.__class__") "__get__" = some (some (.builtin "getset_descriptor.__get__"))) (htk:PySem.W.takesIn K (.builtin "object.__class__")=some true)
   (hm:PySem.W.mroIn K C (.type "object")=some true):TyOf K H (.ref a) (.ref C)
theorem isinst_ok {x:V} {u t:Value} (I:Inv X pins σ H s) (rx:RelV x u) (ty:TyOf X.K H x t) (e:PySem.W.kitOne X.K t c=some b) (h:∀ tk,Q (.bool b) { s with toks:=tk }) :
  wpAny (model X.prog X.w) A (call (.builtin "isinstance") [u,c]) Q E s:=by
 cases ty with
 | non=>cases (show u=Value.none from rx); exact PySem.W.kia_one PySem.W.kitx_none I.kIn True.intro e (fun z=>nomatch z) h
 | bl y=>cases (show u=Value.bool y from rx); exact PySem.W.kia_one PySem.W.kitx_bool I.kIn True.intro e (fun z=>nomatch z) h
 | int i=>obtain ⟨t,q⟩:=(show ∃ t,u=Value.int i t from rx); cases q; exact PySem.W.kia_one PySem.W.kitx_int I.kIn True.intro e (fun z=>nomatch z) h
 | str y=>obtain ⟨t,q⟩:=(show ∃ t,u=Value.str y t from rx); cases q; exact PySem.W.kia_one PySem.W.kitx_str I.kIn True.intro e (fun z=>nomatch z) h
 | flt y=>obtain ⟨t,q⟩:=(show ∃ t,u=Value.float y t from rx); cases q; exact PySem.W.kia_one PySem.W.kitx_float I.kIn True.intro e (fun z=>nomatch z) h
 | @lst a xs ea =>
  cases (show u=Value.ref a from rx)
  obtain ⟨_,_,n,_,h1⟩:=(show ObjOk X.prog X.w H s.heap a (.lst xs) from I.hok a _ ea)
  exact PySem.W.kia_one PySem.W.kitx_list I.kIn ⟨_,h1,rfl⟩ e (fun z=>nomatch z) h
 | @frz a ob xs ea =>
  cases (show u=Value.ref a from rx)
  obtain ⟨_,_,_,n,_,h1⟩:=(show ObjOk X.prog X.w H s.heap a (.frz ob (.lst xs)) from I.hok a _ ea)
  exact PySem.W.kia_one PySem.W.kitx_list I.kIn ⟨_,h1,rfl⟩ e (fun z=>nomatch z) h
 | @tup a xs ea =>
  cases (show u=Value.ref a from rx)
  obtain ⟨_,_,_,p⟩:=(show ObjOk X.prog X.w H s.heap a (.tup xs) from I.hok a _ ea)
  obtain ⟨o,h1,h2,_⟩:=p
  exact PySem.W.kia_one PySem.W.kitx_tuple I.kIn ⟨o,h1,h2⟩ e (fun z=>nomatch z) h
 | @dK a kvs ea =>
  cases (show u=Value.ref a from rx)
  obtain ⟨_,_,vs,_,p⟩:=(show ObjOk X.prog X.w H s.heap a (.dK kvs) from I.hok a _ ea)
  obtain ⟨o,es,ep,h1,h2,_⟩:=p
  exact PySem.W.kia_one PySem.W.kitx_dict I.kIn ⟨o,h1,h2.1⟩ e (fun z=>nomatch z) h
 | @dT a kvs ea =>
  cases (show u=Value.ref a from rx)
  obtain ⟨_,_,xs,_,o,es,ep,h1,h2,_⟩:=(show ObjOk X.prog X.w H s.heap a (.dT kvs) from I.hok a _ ea)
  exact PySem.W.kia_one PySem.W.kitx_dict I.kIn ⟨o,h1,h2.1⟩ e (fun z=>nomatch z) h
 | @ins a C dx fs ea cl ha hn htk hm =>
  cases (show u=Value.ref a from rx)
  obtain ⟨mA,O,_⟩:=ins_get I.hok ea
  obtain ⟨od,J,_⟩:=O.look
  exact PySem.W.kia_one (PySem.W.kitx_own (cl.get _) cl.hd ha hn htk hm) I.kIn J e (fun z=>nomatch z) h
end
structure Room (k:Nat) (A:Around):Prop where
 hd:A.handled=none
 dp:A.depth+3 * k+5<recursionLimit
 un:A.units+16 * k+200<cLine
theorem Room.mono {j k:Nat} {A:Around} (r:Room k A) (h:j<=k):Room j A:=⟨r.hd,by have:=r.dp; lia,by have:=r.un; lia⟩
theorem Room.deeper {k:Nat} {A:Around} (r:Room (k+1) A) (env:Env):Room k (A.deeper env) :=
 ⟨r.hd,by have:=r.dp; show A.depth+1+3 * k+5<_; lia,by have:=r.un; show A.units+3+16 * k+200<_; lia⟩
theorem Room.in1 {k:Nat} {A:Around} (r:Room (k+1) A):Room k A.in1 :=
 ⟨r.hd,by have:=r.dp; show A.depth+3 * k+5<_; lia,by have:=r.un; show A.units+1+16 * k+200<_; lia⟩
theorem Room.depth {k:Nat} {A:Around} (r:Room k A):A.depth<recursionLimit:=by have:=r.dp; lia
theorem Room.units {k:Nat} {A:Around} (r:Room k A):A.units+64<cLine:=by have:=r.un; lia
def tNil:TA:=fun _ H Q=>Q [] H
def tCons (ta:TE) (tr:TA):TA:=fun σ H Q=>ta σ H fun x H1=>tr σ H1 fun xs H2=>Q (x :: xs) H2
section
variable {X:Cx} {e:Expr} {es:List Expr} {te:TE} {t:TA} {pos:Pos}
theorem pa_nil:PA X [] tNil:=fun _ _ _ _ H Q I h=>Calls.spliced_nil ⟨[],H,I,.nil,h⟩
theorem pa_cons (ha:PE X e te) (hr:PA X es t) (hs:starEach (e :: es) X.env=(false,eval e X.env) :: starEach es X.env:=by rfl):PA X (e :: es) (tCons te t):=by
 intro pos pins s σ H Q I h
 rw [hs]
 show wpAny _ _ (spliced ((false,eval e X.env) :: backTo pos (starEach es X.env))) _ _ s
 refine Calls.spliced_cons (thn (ha pins s σ H _ I h) fun u s1 hx5=>L2.ex2 hx5 fun x H1 I1 r1 q1=>?_)
 exact thn (hr pos pins s1 σ H1 _ I1 q1) fun us s2 hx5=>L2.ex2 hx5 fun xs H2 I2 r2 q2=>⟨x :: xs,H2,I2,.cons r1 r2,q2⟩
def tTup (t:TA):TE:=fun σ H Q=>t σ H fun xs H1=>xs.length<=sizeLine/\∀ p,H1 p=none->Q (.ref p) (upd H1 p (.tup xs))
def tLst (t:TA):TE:=fun σ H Q=>t σ H fun xs H1=>xs.length<=sizeLine/\∀ p,H1 p=none->Q (.ref p) (upd H1 p (.lst xs))
theorem pe_tup {x1} (h:PA X es t):PE X (.Tuple es x1 pos) (tTup t):=by
 intro pins s σ H Q I hq
 refine wpAny_Tuple_spliced (thn (h pos pins s σ H _ I hq) fun us s1 ⟨xs,H1,I1,r,z,q⟩=>⟨by rw [<- r.length]; exact z,?_⟩)
 have hf:H1 s1.heap.objs.size=none:=I1.hok.fresh (xah _)
 refine ⟨.ref s1.heap.objs.size,upd H1 s1.heap.objs.size (.tup xs),I1.laid (t':=s1.toks) (fun b u e=>xae _ e) (xah _) ?_,rfl,q _ hf⟩
 exact ⟨z,us,r,⟨_,xao _ rfl,rfl,_,rfl⟩⟩
theorem pe_lst (h:PA X es t):PE X (.List es pos) (tLst t):=by
 intro pins s σ H Q I hq
 refine wpAny_List_spliced (thn (h pos pins s σ H _ I hq) fun us s1 ⟨xs,H1,I1,r,z,q⟩=>⟨by rw [<- r.length]; exact z,?_⟩)
 have hf:H1 s1.heap.objs.size=none:=I1.hok.fresh (xah _)
 refine ⟨.ref s1.heap.objs.size,upd H1 s1.heap.objs.size (.lst xs),I1.laid (t':=s1.toks) (fun b u e=>xae _ e) (xah _) ?_,rfl,q _ hf⟩
 exact ⟨z,us,0,r,xao _ rfl⟩
end
abbrev Sp:=List V->Hp->VK->XK->Prop
abbrev CXT:=List Env->Hp->Shared->XK->Value->Shared->Prop
structure Env0 (P:Program) (w:World) (K:PySem.W.Frag) (mg:Str->Option Value) (base:Heap) (A:Around) (outer:List Env) (s:Shared) (H:Hp):Prop where
 frames:A.frames=some outer
 mod:Mod K mg base
 bs:∀ b o,base.get? b=some o->s.heap.get? b=some o/\H b=none
 bsz:base.objs.size<=s.heap.objs.size
 funs:s.heap.FunFrames base outer
 frf:∀ b∈frs outer,H b=none
 hok:HOk P w H s.heap
 bare:AllBare s.gens
def CE (outer:List Env) (P:Program) (w:World) (H:Hp) (s:Shared) (Q:VK) (u:Value) (s':Shared):Prop :=
 ∃ v H',s'.os=s.os/\AllBare s'.gens/\Un (frs outer) [] H H' s.heap s'.heap/\HOk P w H' s'.heap/\RelV v u/\Q v H'
def CR (CX:CXT) (outer:List Env) (P:Program) (w:World) (H:Hp) (s:Shared) (Q:VK) (E:XK) (r:Result) (s':Shared):Prop :=
 match r with
 | .ok (.ret u)=>CE outer P w H s Q u s'
 | .ok _=>False
 | .error e=>CX outer H s E e s'
structure FnOk (P:Program) (w:World) (K:PySem.W.Frag) (mg:Str->Option Value) (base:Heap) (CX:CXT) (k:Nat) (f:Addr) (fd:FuncData) (ps:List Str) (sp:Sp):Prop where
 len:∀ vs H Q E,sp vs H Q E->vs.length=ps.length
 run:∀ (A:Around) (outer:List Env) (s:Shared) (H:Hp) (args:Args) (us:List Value) (vs:List V) (Q:VK) (E:XK),Room k A->Env0 P w K mg base A outer s H->BindsTo s fd args (ps.zip us)->Vals vs us->sp vs H Q E ->
  codeAny (model P w) A (.call (.ref f) args) (CR CX outer P w H s Q E) s
theorem FnOk.mono {P:Program} {w:World} {K:PySem.W.Frag} {mg:Str->Option Value} {base:Heap} {CX:CXT} {j k:Nat} {f:Addr} {fd:FuncData} {ps:List Str} {sp:Sp} (F:FnOk P w K mg base CX j f fd ps sp) (h:j<=k) :
  FnOk P w K mg base CX k f fd ps sp:=⟨F.len,fun A outer s H args us vs Q E hr=>F.run A outer s H args us vs Q E (hr.mono h)⟩
theorem FnOk.imp {P:Program} {w:World} {K:PySem.W.Frag} {mg:Str->Option Value} {base:Heap} {CX:CXT} {k:Nat} {f:Addr} {fd:FuncData} {ps:List Str} {sp sp':Sp} (F:FnOk P w K mg base CX k f fd ps sp)
  (h:∀ vs H Q E,sp' vs H Q E->sp vs H Q E):FnOk P w K mg base CX k f fd ps sp' :=
 ⟨fun vs H Q E q=>F.len vs H Q E (h _ _ _ _ q),fun A outer s H args us vs Q E hr he hb hv hs=>F.run A outer s H args us vs Q E hr he hb hv (h _ _ _ _ hs)⟩
theorem Env0.in1 {P:Program} {w:World} {K:PySem.W.Frag} {mg:Str->Option Value} {base:Heap} {A:Around} {outer:List Env} {s:Shared} {H:Hp} (e:Env0 P w K mg base A outer s H) :
  Env0 P w K mg base A.in1 outer s H:=⟨e.frames,e.mod,e.bs,e.bsz,e.funs,e.frf,e.hok,e.bare⟩
section
variable {X:Cx} {pins:List (Addr × Obj)} {σ:St} {H:Hp} {s s':Shared}
theorem Inv.env0 (I:Inv X pins σ H s):Env0 X.prog X.w X.K X.mg X.base X.A X.stack s H :=
 ⟨I.ok.frames,I.ok.mod,I.bs,xaq I.ok.bsz I.sz,I.stack,I.stkFree,I.hok,I.bare⟩
theorem Inv.after {Q:VK} {u:Value} (I:Inv X pins σ H s) (h:CE X.stack X.prog X.w H s Q u s'):EP X pins σ Q u s':=by
 obtain ⟨v,H',os,bare,un,hok,r,q⟩:=h
 obtain ⟨hh,g,d,t,os'⟩:=s'
 obtain rfl:os'=s.os:=os
 exact ⟨v,H',I.call (h':=hh) (g':=g) (d':=d) (t':=t) (ch:=[]) un hok bare (fun b z=>absurd z (by simp)),r,q⟩
end
def tCall (sp:Sp) (dvs:List V) (E:XK) (t:TA):TE:=fun σ H Q=>t σ H fun vs H1=>sp (vs++dvs) H1 Q E
def Binds (K:PySem.W.Frag) (fd:FuncData) (ps:List Str) (ds:List Value):Prop :=
 ∀ (s:Shared) (us:List Value),K.In s.heap->(us++ds).length=ps.length->BindsTo s fd ⟨us,[]⟩ (ps.zip (us++ds))
theorem Binds.all {K:PySem.W.Frag} {fd:FuncData} {ps:List Str} (h:∀ us:List Value,us.length=ps.length->bindArgs fd ⟨us,[]⟩=pure (ps.zip us)):Binds K fd ps []:=fun s us _ hl=>by
 rw [xaO] at hl ⊢
 exact .of_eq (h us hl)
def Passes (CX:CXT) (X:Cx) (E:XK):Prop:=∀ (pins:List (Addr × Obj)) (σ:St) (H:Hp) (s:Shared) (e:Value) (s':Shared),Inv X pins σ H s->CX X.stack H s E e s'->X.xe e s'
section
variable {X:Cx} {CX:CXT} {k:Nat} {f C:Addr} {fd:FuncData} {ps:List Str} {sp:Sp} {dvs:List V} {ds:List Value} {E:XK} {x:Str} {p pos:Pos} {e:Expr} {es:List Expr} {t:TA}
theorem run_fn {pins:List (Addr × Obj)} {σ:St} {H:Hp} {s:Shared} {Q:VK} {us:List Value} {vs:List V} (F:FnOk X.prog X.w X.K X.mg X.base CX k f fd ps sp) (hr:Room k X.A) (hb:Binds X.K fd ps ds) (hd:Vals dvs ds) (hx:Passes CX X E)
  (I:Inv X pins σ H s) (r:Vals vs us) (h:sp (vs++dvs) H Q E):wpAny (model X.prog X.w) X.A (call (.ref f) us) (EP X pins σ Q) X.xe s:=by
 have r2:Vals (vs++dvs) (us++ds):=r.append hd
 have hl:(us++ds).length=ps.length:=by rw [<- r2.length]; exact F.len _ _ _ _ h
 refine wpAny_call (codeAny_mono (F.run X.A X.stack s H ⟨us,[]⟩ (us++ds) (vs++dvs) Q E hr I.env0 (hb s us I.kIn hl) r2 h) fun r s' hq=>?_)
 cases r with
 | error e=>exact hx pins σ H s e s' I hq
 | ok fl =>
  cases fl with
  | ret u=>exact I.after hq
  | next=>exact False.elim hq
  | brk=>exact False.elim hq
  | cont=>exact False.elim hq
theorem pe_call (F:FnOk X.prog X.w X.K X.mg X.base CX k f fd ps sp) (hr:Room k X.A) (hg:Gl X x) (hm:X.mg x=some (.ref f)) (hk:PySem.W.keepIn X.K (.ref f)=true) (hb:Binds X.K fd ps ds) (hd:Vals dvs ds) (hx:Passes CX X E)
  (ha:PA X (e :: es) t) (hdb:(x == ("__debug__" : Str))=false:=by decide) (he:starEach (e :: es) X.env=(false,eval e X.env) :: starEach es X.env:=by rfl) (hpl:(backTo pos (starEach es X.env)).any (·.1)=false:=by rfl) :
  PE X (.Call (.Name x p) (e :: es) [] pos) (tCall sp dvs E t):=by
 intro pins s σ H Q I h
 refine wpAny_Call_Name_kw (ld_glob I hg hm ?_ hdb)
 refine PySem.W.callWith_K (h₀:=X.base) I.ok.mod.kin hk (thn (ha pos pins s σ H _ I h) fun us s1 hx5=>L2.ex2 hx5 fun vs H1 I1 r q=>⟨I1.kIn,?_⟩) he hpl
 exact run_fn F hr hb hd hx I1 r q
structure Mk (K:PySem.W.Frag) (C f:Addr):Prop where
 makes:PySem.W.makesIn K C=true
 init:PySem.W.findIn K (.ref C) "__init__" = some (some (.ref f))
 fn:PySem.W.isFn K (.ref f)=true
 kp:PySem.W.keepIn K (.ref C)=true
end
section
variable {fd:FuncData} {ps ks:List Str}
structure KBinds (K:PySem.W.Frag) (fd:FuncData) (ps ks:List Str) (g:List Value->List Value->List Value) (gV:List V->List V->List V):Prop where
 to:∀ (s:Shared) (us ws:List Value),K.In s.heap->(g us ws).length=ps.length->BindsTo s fd ⟨us,ks.zip ws⟩ (ps.zip (g us ws))
 rel:∀ {vs:List V} {us:List Value} {zs:List V} {ws:List Value},Vals vs us->Vals zs ws->Vals (gV vs zs) (g us ws)
end
structure FnScope (N P:List Str) (sc:Scope):Prop where
 kind:sc.kind=.function
 co:sc.isCoroutine=false
 gen:sc.isGenerator=false
 nd:N.Nodup
 pre:N.take P.length=P
 par:∀ x∈P,sc.names.lookup x=some .local\/sc.names.lookup x=some .cell
 nofree:∀ y∈sc.names,y.2≠.free
theorem bindL_out {kindOf:Str->Option NameKind} {x:Str}:∀ {binds:List (Str × Value)} {m:Str->Option Value},(∀ v,(x,v)∉binds)->bindL kindOf binds m x=m x
 | [],_,_=>rfl
 | (n,v) :: r,m,h=>by
  unfold bindL
  rw [bindL_out fun w hw=>h w (xab _ hw)]
  split
  ·have:x≠n:=by rintro rfl; exact h v xac
   simp [this]
  ·rfl
theorem bindC_out {kindOf:Str->Option NameKind} {x:Str}:∀ {binds:List (Str × Value)} {m:Str->Option Value},(∀ v,(x,v)∉binds)->bindC kindOf binds m x=m x
 | [],_,_=>rfl
 | (n,v) :: r,m,h=>by
  unfold bindC
  rw [bindC_out fun w hw=>h w (xab _ hw)]
  split
  ·rfl
  ·have:x≠n:=by rintro rfl; exact h v xac
   simp [this]
theorem bindL_get {kindOf:Str->Option NameKind} {x:Str} {v:Value}:∀ {P:List Str} {vs:List Value} {i:Nat} {m:Str->Option Value},P.Nodup->P[i]? = some x->vs[i]? = some v->kindOf x=some .local ->
  bindL kindOf (P.zip vs) m x=some v
 | [],_,_,_,_,h,_,_=>by simp at h
 | _ :: _,[],_,_,_,_,h,_=>by simp at h
 | p :: P,w :: vs,0,m,nd,h1,h2,hk=>by
  simp at h1 h2; subst h1; subst h2
  show bindL kindOf ((p,w) :: P.zip vs) m p=_
  unfold bindL
  rw [bindL_out fun v hv=>(xaD.mp nd).1 (List.of_mem_zip hv).1,if_pos hk]
  simp
 | p :: P,w :: vs,i+1,m,nd,h1,h2,hk=>by
  show bindL kindOf ((p,w) :: P.zip vs) m x=_
  unfold bindL
  exact bindL_get (i:=i) (xaD.mp nd).2 (by simpa using h1) (by simpa using h2) hk
theorem bindC_get {kindOf:Str->Option NameKind} {x:Str} {v:Value}:∀ {P:List Str} {vs:List Value} {i:Nat} {m:Str->Option Value},P.Nodup->P[i]? = some x->vs[i]? = some v->kindOf x≠some .local ->
  bindC kindOf (P.zip vs) m x=some v
 | [],_,_,_,_,h,_,_=>by simp at h
 | _ :: _,[],_,_,_,_,h,_=>by simp at h
 | p :: P,w :: vs,0,m,nd,h1,h2,hk=>by
  simp at h1 h2; subst h1; subst h2
  show bindC kindOf ((p,w) :: P.zip vs) m p=_
  unfold bindC
  rw [bindC_out fun v hv=>(xaD.mp nd).1 (List.of_mem_zip hv).1,if_neg hk]
  simp
 | p :: P,w :: vs,i+1,m,nd,h1,h2,hk=>by
  show bindC kindOf ((p,w) :: P.zip vs) m x=_
  unfold bindC
  exact bindC_get (i:=i) (xaD.mp nd).2 (by simpa using h1) (by simpa using h2) hk
def start (N:List Str) (vs:List V):St:=vs.map some++List.replicate (N.length - vs.length) none
def cxOf (CX:CXT) (P:Program) (w:World) (K:PySem.W.Frag) (mg:Str->Option Value) (base:Heap) (N:List Str) (qual:Str) (scope:Scope) (f:Addr) (cd:Value) (A:Around) (outer:List Env) (s:Shared) (H:Hp) (E:XK):Cx where
 prog:=P
 w:=w
 K:=K
 mg:=mg
 base:=base
 A:=A.deeper (envOfC qual scope s.heap.objs.size f cd)
 N:=N
 s₀:=s
 H₀:=H
 env:=envOfC qual scope s.heap.objs.size f cd
 outer:=outer
 stack:=envOfC qual scope s.heap.objs.size f cd :: outer
 ex:=[]
 calm:=true
 fn:=fun _=>true
 pn:=[]
 xe:=fun e s'=>wpAny (model P w) (A.deeper (envOfC qual scope s.heap.objs.size f cd)) (leaving (envOfC qual scope s.heap.objs.size f cd) e) (fun _ s''=>CX outer H s E e s'') (fun e' s''=>CX outer H s E e' s'') s'
theorem cell_has {sc:Scope} {n:Nat} {x:Str} (h:sc.names.lookup x=some .cell):∃ c,(cellsFrom n sc.names []).lookup x=some c:=by
 have q:=PySem.W.cellsFrom_some sc.names n [] (.inl h)
 exact Option.isSome_iff_exists.mp q
theorem inv_start {CX:CXT} {P:Program} {w:World} {K:PySem.W.Frag} {mg:Str->Option Value} {base:Heap} {N ps:List Str} {qual:Str} {scope:Scope} {f:Addr} {cd:Value} {A:Around} {outer:List Env} {s s1:Shared} {H:Hp} {E:XK} {us:List Value} {vs:List V}
  (S:FnScope N ps scope) (hd:A.handled=none) (e0:Env0 P w K mg base A outer s H) (hl:vs.length=ps.length) (r:Vals vs us)
  (x:InCallC s s.heap.objs.size (bindL (envOfC qual scope s.heap.objs.size f cd).kindOf (ps.zip us) fun _=>none) (cellsFrom (s.heap.objs.size+1) scope.names []) (bindC (envOfC qual scope s.heap.objs.size f cd).kindOf (ps.zip us) fun _=>none) s1) :
  Inv (cxOf CX P w K mg base N qual scope f cd A outer s H E) [] (start N vs) H s1:=by
 have hpl:ps.length<=N.length:=by have:=congrArg List.length S.pre; rw [xaT] at this; lia
 obtain ⟨h1,tk,rfl,hk⟩:=x.done
 have noA:∀ b:Addr,b∉(cxOf CX P w K mg base N qual scope f cd A outer s H E).ex:=fun b z=>absurd (show b∈([]:List Addr) from z) (by simp)
 refine ⟨⟨e0.mod,S.kind,rfl,rfl,xah _,fun y z c h1 h2=>?_,fun y hy=>?_,fun y c _ h=>?_,fun _=>hd,Around.frames_deeper e0.frames,.inr ⟨rfl,rfl⟩,fun b z=>absurd z (noA b),e0.bs,e0.bsz,fun b _ _=>noA b,fun b z=>absurd z (noA b),e0.funs,e0.frf⟩,
  rfl,e0.bare,Un.kept hk,⟨_,x.toInCall.ns,fun i y v h1 h2 h3=>?_⟩,fun y c h=>⟨_,x.cell y c h⟩,e0.hok.fresh (xah _),fun y c h=>?_,fun p hp=>absurd (show p∈([]:List (Addr × Obj)) from hp) (by simp),e0.hok.kept hk,?_⟩
 ·exact name_of_addr x.apart (PySem.mem_of_lookup h1) (PySem.mem_of_lookup h2)
 ·have hy:scope.names.lookup y=some .cell\/scope.names.lookup y=some .free:=hy
  rcases hy with hy | hy
  ·exact cell_has hy
  ·exact absurd rfl (S.nofree _ (PySem.mem_of_lookup hy))
 ·exact xaP (x.above y c (PySem.mem_of_lookup h))
 ·have hi:i<vs.length:=by
   unfold start at h2
   by_cases hi:i<vs.length
   ·exact hi
   ·rw [xaY (by simpa using hi)] at h2
    rw [List.getElem?_replicate] at h2
    split at h2 <;> cases h2
  have ha:vs[i]? = some v:=by
   unfold start at h2
   rw [xbj (by simpa using hi),xaH] at h2
   cases e:vs[i]? with
   | none=>rw [e] at h2; cases h2
   | some a=>rw [e] at h2; cases h2; rfl
  obtain ⟨u,hu,rv⟩:=r.get ha
  have hp:ps[i]? = some y:=by
   rw [<- S.pre,List.getElem?_take_of_lt (by lia)]; exact h1
  have ndP:ps.Nodup:=by rw [<- S.pre]; exact S.nd.sublist (List.take_sublist _ _)
  refine ⟨u,rv,?_⟩
  rcases S.par y (xaB hp) with k | k
  ·exact .inl ⟨k,bindL_get ndP hp hu k⟩
  ·obtain ⟨c,e⟩:=cell_has (n:=s.heap.objs.size+1) k
   refine .inr ⟨.inl k,c,e,?_⟩
   have q:=x.cell y c e
   rw [bindC_get ndP hp hu (by show scope.names.lookup y≠_; rw [k]; decide)] at q
   exact q
 ·exact e0.hok.fresh (xaP (x.above y c (PySem.mem_of_lookup h)))
 ·unfold start
  show _=N.length
  rw [xaL,xaf,List.length_replicate]
  lia
theorem fn_of {CX:CXT} {P:Program} {w:World} {K:PySem.W.Frag} {mg:Str->Option Value} {base:Heap} {k:Nat} {f:Addr} {name qual:Str} {params:Arguments} {body:List Stmt} {scope:Scope} {dV kV doc pm cdv ct oc:Value} {an od:Option Addr}
  {osl:Array (Option Value)} {N ps:List Str} {sp:Sp} (lk:K.lookup f=some ⟨oc,od,.func (PySem.W.fnOf name qual params body scope dV kV doc pm an cdv ct),osl⟩) (hcd:PySem.W.codeIn K cdv qual=true) (S:FnScope N ps scope)
  (len:∀ vs H Q E,sp vs H Q E->vs.length=ps.length)
  (hbody:∀ (A:Around) (outer:List Env) (s:Shared) (H:Hp) (vs:List V) (Q:VK) (E:XK),Room k (A.deeper (envOfC qual scope s.heap.objs.size f cdv))->sp vs H Q E ->
   ∃ t,PSs (cxOf CX P w K mg base N qual scope f cdv A outer s H E) body t/\t { nx:=fun _ H'=>Q .non H',rt:=Q } (start N vs) H) :
  FnOk P w K mg base CX (k+1) f (PySem.W.fnOf name qual params body scope dV kV doc pm an cdv ct) ps sp:=by
 refine ⟨len,fun A outer s H args us vs Q E hr e0 hb r hsp=>?_⟩
 have hl:=len _ _ _ _ hsp
 have KX:K.In s.heap:=e0.mod.kin.keeps fun b o e=>(e0.bs b o e).1
 have lim:s.heap.NoLimit:=e0.mod.nolimit.keeps fun b o e=>(e0.bs b o e).1
 have hkind:∀ y∈ps.zip us,scope.names.lookup y.1=some .local\/(scope.names.lookup y.1=some .cell/\((cellsFrom (s.heap.objs.size+1) scope.names []).lookup y.1).isSome=true):=fun ⟨n,v⟩ hy=>by
  rcases S.par n (List.of_mem_zip hy).1 with q | q
  ·exact .inl q
  ·exact .inr ⟨q,PySem.W.cellsFrom_some _ _ _ (.inl q)⟩
 refine codeAny_call_function hr.depth (KX _ _ lk) rfl S.co S.gen rfl (PySem.W.codeRec_of KX hcd) (hb _ _ _ _ ?_)
 refine wpAny_newFunctionEnv_cells S.kind hkind fun env he s1 x=>?_
 subst he
 refine ⟨lim.keeps x.toInCall.keep,codeAny_func ?_⟩
 obtain ⟨t,ht,hq⟩:=hbody A outer s H vs Q E (hr.deeper _) hsp
 have I:Inv (cxOf CX P w K mg base N qual scope f cdv A outer s H E) [] (start N vs) H s1:=inv_start S hr.hd e0 hl r x
 refine xa2 (ht [] s1 (start N vs) H _ I hq) (fun fl s' hs=>?_) fun e s' hs=>hs
 have fin:∀ {σ':St} {H':Hp} {v:V} {u:Value},Inv (cxOf CX P w K mg base N qual scope f cdv A outer s H E) [] σ' H' s'->RelV v u->Q v H'->CE outer P w H s Q u s' :=
  fun {σ' H' v u} J rv q=>⟨v,H',J.os,J.bare,J.base,J.hok,rv,q⟩
 cases fl with
 | ret u =>
  obtain ⟨v,σ',H',J,rv,q⟩:=hs
  exact fin J rv q
 | next =>
  obtain ⟨σ',H',J,q⟩:=hs
  exact fin (v:=V.non) (u:=Value.none) J rfl q
 | brk =>
  obtain ⟨_,_,_,q⟩:=hs
  exact False.elim q
 | cont =>
  obtain ⟨_,_,_,q⟩:=hs
  exact False.elim q
section
variable {X:Cx} {x:Str} {p pos:Pos} {e:Expr} {es:List Expr} {t:TA} {id T:String} {r:List V->Hp->VK->Prop}
def tCB (r:List V->Hp->VK->Prop) (t:TA):TE:=fun σ H Q=>t σ H fun vs H1=>r vs H1 Q
theorem pe_callB (hc:CallR X (.builtin id) r) (hg:Gl X x) (hm:X.mg x=none) (hv:bootBuiltins x=some (.builtin id)) (ha:PA X (e :: es) t) (hn:x ≠ "__name__" := by decide) (hdb:(x == ("__debug__" : Str))=false:=by decide)
  (he:starEach (e :: es) X.env=(false,eval e X.env) :: starEach es X.env:=by rfl) (hpl:(backTo pos (starEach es X.env)).any (·.1)=false:=by rfl):PE X (.Call (.Name x p) (e :: es) [] pos) (tCB r t):=by
 intro pins s σ H Q I h
 refine wpAny_Call_Name_kw (ld_blt I hg hm hv ?_ hn hdb)
 exact PyProof.Rows.callWith_builtin1 (thn (ha pos pins s σ H _ I h) fun us s1 hx5=>L2.ex2 hx5 fun vs H1 I1 r1 q1=>hc pins s1 σ H1 vs us Q I1 r1 q1) he hpl
theorem pe_callTy (hc:CallR X (.type T) r) (hg:Gl X x) (hm:X.mg x=none) (hv:bootBuiltins x=some (.type T)) (ha:PA X (e :: es) t) (hn:x ≠ "__name__" := by decide) (hdb:(x == ("__debug__" : Str))=false:=by decide)
  (he:starEach (e :: es) X.env=(false,eval e X.env) :: starEach es X.env:=by rfl) (hpl:(backTo pos (starEach es X.env)).any (·.1)=false:=by rfl):PE X (.Call (.Name x p) (e :: es) [] pos) (tCB r t):=by
 intro pins s σ H Q I h
 refine wpAny_Call_Name_kw (ld_blt I hg hm hv ?_ hn hdb)
 exact PyProof.Rows.callWith_type1 (thn (ha pos pins s σ H _ I h) fun us s1 hx5=>L2.ex2 hx5 fun vs H1 I1 r1 q1=>hc pins s1 σ H1 vs us Q I1 r1 q1) he hpl
end
end L2
namespace HT
open PySem PyProof.Rows
section
open PySem.SeqAt
open PySem.AutoSeq1 (wpAny_loadPart')
open PySem.MeetsSeq PySem.MeetsSeq2 PySem.MeetsSeq3
end
section
variable {prog:Program} {w:World} {A:Around} {E:Value->Shared->Prop} {s:Shared}
theorem cat_tup {t b:Addr} {vs ws:List Value} {Q:Value->Shared->Prop} (ht:IsTup s.heap t vs.toArray) (hb:IsTup s.heap b ws.toArray) (hv:vs≠[])
  (h1:ws=[]->Q (.ref t) s) (h2:ws≠[]->Q (.ref s.heap.objs.size) { s with heap:=s.heap.push { cls:=.type "tuple",data:=.seq (vs++ws).toArray } })
  (hsz:vs.length+ws.length<=sizeLine):wpAny (model prog w) A (binaryOp .Add (.ref t) (.ref b)) Q E s:=by
 obtain ⟨⟨cls,dd,data,sl⟩,ho,hc,n,hd⟩:=id ht
 obtain ⟨⟨cls2,dd2,data2,sl2⟩,ho2,hc2,n2,hd2⟩:=id hb
 simp only at hc hd hc2 hd2
 subst hc hd hc2 hd2
 have e:vs.toArray++ws.toArray=(vs++ws).toArray:=by simp
 by_cases hw:ws=[]
 ·exact concat_meets ⟨_,ho,rfl⟩ ⟨_,ho2,rfl⟩ noFill_tuple_add seq_tuple_add PySem.F.slot_tuple_add PySem.F.entry_tuple_add (PySem.F.args_tuple_add_2 _ _)
   (tuple_addW1 t b vs.toArray ws.toArray n n2 dd dd2 sl sl2 (by simpa using hv) (by simp [hw])) ⟨ho,ho2,h1 hw⟩
 ·refine concat_meets ⟨_,ho,rfl⟩ ⟨_,ho2,rfl⟩ noFill_tuple_add seq_tuple_add PySem.F.slot_tuple_add PySem.F.entry_tuple_add (PySem.F.args_tuple_add_2 _ _)
   (tuple_addW2 t b vs.toArray ws.toArray n n2 dd dd2 sl sl2 (by simpa using hv) (by simpa using hw) (by rw [xaw,xaw]; exact hsz)) ⟨ho,ho2,?_⟩
  rw [e]
  exact h2 hw
def sIx (n d:Nat):Option Int->Nat
 | none=>d
 | some v=>if v<0 then (v+(n:Int)).toNat else min v.toNat n
theorem sIx_le (n d:Nat) (hd:d<=n) (o:Option Int):sIx n d o<=n:=by
 cases o with
 | none=>exact hd
 | some v =>
  show (if v<0 then (v+(n:Int)).toNat else min v.toNat n)<=n
  by_cases hv:v<0
  ·rw [if_pos hv]; lia
  ·rw [if_neg hv]; exact Nat.min_le_right _ _
theorem clip_eq (v:Int) (n d:Nat):(if v<0 then max (v+(n:Int)) 0 else min v (n:Int))=((sIx n d (some v):Nat):Int):=by
 show (if v<0 then max (v+(n:Int)) 0 else min v (n:Int))=(((if v<0 then (v+(n:Int)).toNat else min v.toNat n):Nat):Int)
 by_cases hv:v<0
 ·simp only [if_pos hv]; lia
 ·simp only [if_neg hv]; lia
theorem adjust_gen (lo hi:Option Int) (n:Nat):Builtin.Slice.sliceAdjust lo hi 1 (n:Int)=(((sIx n 0 lo:Nat):Int),((sIx n n hi:Nat):Int)):=by
 have h1:¬ ((1:Int)<0):=by decide
 unfold Builtin.Slice.sliceAdjust
 simp only [h1,if_false]
 refine Prod.ext ?_ ?_
 ·cases lo with
  | none=>rfl
  | some v=>exact clip_eq v n 0
 ·cases hi with
  | none=>rfl
  | some v=>exact clip_eq v n n
theorem places_gen (i j:Nat):Builtin.Slice.slicePlaces (i:Int) (j:Int) 1=j - i:=by
 unfold Builtin.Slice.slicePlaces
 have h1:(1:Int)>0:=by exact xbm _
 simp only [h1,if_true,Int.ediv_one]
 split <;> lia
theorem slicePart_ {v:Value} {o:Option Int} {Q:Option Int->Shared->Prop} (p:IsPart v o) (h:Q o s):wpAny (model prog w) A (Builtin.Slice.slicePartIndex v) Q E s:=by
 cases p with
 | none=>exact slicePart_none h
 | int i t=>exact slicePart_int h
theorem sliceApplied_gen {sl:Addr} {vl vu:Value} {lo hi:Option Int} {n:Nat} {Q:Int × Int × Nat->Shared->Prop} (hs:s.heap.IsSliceOf sl vl vu .none) (pl:IsPart vl lo) (pu:IsPart vu hi)
  (h:Q (((sIx n 0 lo:Nat):Int),1,sIx n n hi - sIx n 0 lo) s):wpAny (model prog w) A (Builtin.Slice.sliceApplied (.ref sl) (pure (n:Int))) Q E s:=by
 obtain ⟨os,hos,hcs,hds⟩:=id hs
 unfold Builtin.Slice.sliceApplied Builtin.Slice.sliceFields
 refine xaa (xaa (wpAny_field hos hds (x:=vl) rfl (xaa (wpAny_field hos hds (x:=vu) rfl (xaa (wpAny_field hos hds (x:=.none) rfl (xad ?_)))))))
 refine xaa (slicePart_none ?_)
 show wpAny _ _ (if ((1:Int) == 0)=true then _ else _) _ _ s
 rw [if_neg (by decide)]
 refine xaa (slicePart_ pl (xaa (slicePart_ pu (xaa (xad ?_)))))
 show wpAny _ _ (match Builtin.Slice.sliceAdjust lo hi 1 (n:Int) with | (lo,hi)=>pure (lo,(1:Int),Builtin.Slice.slicePlaces lo hi 1)) _ _ s
 rw [adjust_gen lo hi n]
 show wpAny _ _ (pure (((sIx n 0 lo:Nat):Int),(1:Int),Builtin.Slice.slicePlaces ((sIx n 0 lo:Nat):Int) ((sIx n n hi:Nat):Int) 1)) _ _ s
 rw [places_gen]
 exact xad h
theorem pick_gen (xs:Array Value) (i k:Nat):((List.range k).filterMap fun (m:Nat)=>xs[((i:Int)+(m:Int) * 1).toNat]?).toArray=((xs.toList.drop i).take k).toArray:=by
 have e:(fun (m:Nat)=>xs[((i:Int)+(m:Int) * 1).toNat]?)=fun m=>xs[i+m]? := by
  funext m
  have:((i:Int)+(m:Int) * 1).toNat=i+m:=by exact (Nat.add_assoc ..).symm
  rw [this]
 rw [e]
 have:=pick_run xs i k
 rw [xci] at this
 have e2:((fun x=>xs[x]?) ∘ fun x=>i+x)=fun m=>xs[i+m]? := rfl
 rw [e2] at this
 rw [this]
theorem getItem_tuple_cut {t sl:Addr} {items:Array Value} {vl vu:Value} {lo hi:Option Int} {Q:Value->Shared->Prop} (ht:IsTup s.heap t items) (hs:s.heap.IsSliceOf sl vl vu .none) (pl:IsPart vl lo) (pu:IsPart vu hi)
  (hw:¬ (sIx items.size 0 lo=0/\sIx items.size items.size hi=items.size))
  (h:Q (.ref s.heap.objs.size) { s with heap:=s.heap.push { cls:=.type "tuple",data:=.seq ((items.toList.drop (sIx items.size 0 lo)).take (sIx items.size items.size hi - sIx items.size 0 lo)).toArray } })
  (hsz:items.size<=sizeLine):wpAny (model prog w) A (getItem (.ref t) (.ref sl)) Q E s:=by
 have htake:sizeOk (.seq ((items.toList.drop (sIx items.size 0 lo)).take (sIx items.size items.size hi - sIx items.size 0 lo)).toArray):=by
  show ((items.toList.drop (sIx items.size 0 lo)).take (sIx items.size items.size hi - sIx items.size 0 lo)).toArray.size<=sizeLine
  rw [xaw,xaT,xbk,xa0]
  lia
 have hj:sIx items.size items.size hi<=items.size:=sIx_le _ _ (xah _) hi
 obtain ⟨os,hos,hcs,hds⟩:=id hs
 have hTs:s.TypeIs (.ref sl) "slice" := ⟨os,hos,hcs⟩
 unfold getItem
 try with_reducible refine wpAny_holding ?_
 first | refine xaa (xad ?_) | skip
 refine xaa (wpAny_sequenceKey ht.typeIs (by decide) ?_)
 refine xaa (wpAny_callSpecial?_slot (name:=Str.ofString "__getitem__") ht.typeIs PyProof.Rows.slot_tuple_getitem
  (wpAny_call_entry PyProof.Rows.slot_tuple_getitem ht.typeIs entry_tuple_getitem ?_ (args_tuple_getitem _ _)))
 show wpAny _ _ (Builtin.Tuple.tupleItemsOf (.ref t) >>= _) _ _ s
 refine xaa (tupleItemsOf_ ht ?_)
 refine xaa (wpAny_typeOf hTs ?_)
 rw [if_pos (by decide)]
 refine xaa (sliceApplied_gen hs pl pu ?_)
 have hno:¬ ((((sIx items.size 0 lo:Nat):Int) == 0 && (1:Int) == 1 && (sIx items.size items.size hi - sIx items.size 0 lo) == items.size)=true):=by
  intro q
  rw [xaA,xaA] at q
  have q1:((sIx items.size 0 lo:Nat):Int)=0:=eq_of_beq q.1.1
  have q2:sIx items.size items.size hi - sIx items.size 0 lo=items.size:=eq_of_beq q.2
  exact hw ⟨by lia,by lia⟩
 show wpAny _ _ (if (((sIx items.size 0 lo:Nat):Int) == 0 && (1:Int) == 1 && (sIx items.size items.size hi - sIx items.size 0 lo) == items.size)=true then _ else _) _ _ s
 rw [if_neg hno,pick_gen]
 first
  | exact xaa (m:=Builtin.Tuple.tupleExact _) (wpAny_newObj_type (xad ⟨_,rfl,xad h⟩) htake)
  | exact xaa (m:=Builtin.Tuple.tupleExact _) (wpAny_newObj_type (xaa (xad (xad ⟨_,rfl,xad h⟩))) htake)
  | exact xaa (xaa (m:=Builtin.Tuple.tupleExact _) (wpAny_newObj_type (xad (xad ⟨_,rfl,xad h⟩)) htake))
  | exact xaa (xaa (m:=Builtin.Tuple.tupleExact _) (wpAny_newObj_type (xad ⟨_,rfl,xad h⟩) htake))
end
end HT
namespace L2
open PySem PySem.Spec PyProof.Rows
abbrev TO:=St->Hp->(Option Int->Hp->Prop)->Prop
def PO (X:Cx) (e:Option Expr) (t:TO):Prop :=
 ∀ (pins:List (Addr × Obj)) (s:Shared) (σ:St) (H:Hp) (Q:Option Int->Hp->Prop),Inv X pins σ H s->t σ H Q ->
  wpAny (model X.prog X.w) X.A (evalPart e X.env) (fun u s'=>∃ o H',Inv X pins σ H' s'/\IsPart u o/\Q o H') X.xe s
def tNoPart:TO:=fun _ H Q=>Q none H
def tPart (t:TE):TO:=fun σ H Q=>t σ H fun x H1=>∃ i,x=.int i/\Q (some i) H1
section
variable {X:Cx} {e:Expr} {te:TE} {lo hi:Option Expr} {tl th:TO} {pos p2:Pos}
theorem po_none:PO X none tNoPart:=by
 intro pins s σ H Q I h
 rw [evalPart_none]
 exact xad ⟨none,H,I,.none,h⟩
theorem po_some (h:PE X e te):PO X (some e) (tPart te):=by
 intro pins s σ H Q I hw
 rw [evalPart_some]
 refine thn (h pins s σ H _ I hw) fun u s1 hx5=>L2.ex2 hx5 fun x H1 I1 r1 q1=>?_
 obtain ⟨i,rfl,q⟩:=q1
 obtain ⟨t,rfl⟩:=r1
 exact ⟨some i,H1,I1,.int i t,q⟩
def SlR (X:Cx) (r:V->Option Int->Option Int->Hp->VK->Prop):Prop :=
 ∀ (pins:List (Addr × Obj)) (s:Shared) (σ:St) (H:Hp) (x:V) (v vl vu:Value) (lo hi:Option Int) (sl:Addr) (Q:VK),Inv X pins σ H s->RelV x v->s.heap.IsSliceOf sl vl vu .none->IsPart vl lo->IsPart vu hi->r x lo hi H Q ->
  ∃ T id,typeLookup (.type T) "__getitem__" = pure (some (.builtin id))/\s.TypeIs v T/\wpAny (model X.prog X.w) X.A (getItem v (.ref sl)) (EP X pins σ Q) X.xe s
theorem SlR.or {r r':V->Option Int->Option Int->Hp->VK->Prop} (h:SlR X r) (h':SlR X r'):SlR X (fun x lo hi H Q=>r x lo hi H Q\/r' x lo hi H Q):=by
 intro pins s σ H x v vl vu lo hi sl Q I rx hs pl pu q
 rcases q with q | q
 ·exact h pins s σ H x v vl vu lo hi sl Q I rx hs pl pu q
 ·exact h' pins s σ H x v vl vu lo hi sl Q I rx hs pl pu q
def tSl (r:V->Option Int->Option Int->Hp->VK->Prop) (te:TE) (tl th:TO):TE:=fun σ H Q=>te σ H fun x H1=>tl σ H1 fun l H2=>th σ H2 fun u H3=>r x l u H3 Q
theorem pe_slice {r:V->Option Int->Option Int->Hp->VK->Prop} (hr:SlR X r) (he:PE X e te) (hl:PO X lo tl) (hu:PO X hi th):PE X (.Subscript e (.Slice lo hi none p2) pos) (tSl r te tl th):=by
 intro pins s σ H Q I h
 refine Subscript_ (thn (he pins s σ H _ I h) fun v s1 hx5=>L2.ex2 hx5 fun x H1 I1 r1 q1=>?_)
 refine wpAny_Slice (thn (hl pins s1 σ H1 _ I1 q1) fun vl s2 hx5=>L2.ex2 hx5 fun l H2 I2 pl q2=>thn (hu pins s2 σ H2 _ I2 q2) fun vu s3 hx5=>L2.ex2 hx5 fun u H3 I3 pu q3=>?_)
 rw [evalPart_none]
 refine xad ?_
 have I4:Inv X pins σ H3 { s3 with heap:=s3.heap.push { cls:=.type "slice",data:=.fields #[vl,vu,.none] } }:=I3.kept (t':=s3.toks) fun b ob q=>xae _ q
 obtain ⟨T,id,hT,ht,hg⟩:=hr pins { s3 with heap:=s3.heap.push { cls:=.type "slice",data:=.fields #[vl,vu,.none] } } σ H3 x v vl vu l u s3.heap.objs.size Q I4 r1 (Heap.IsSliceOf.new ..) pl pu q3
 show wpAny (model X.prog X.w) X.A (subscriptTail e (.Slice lo hi none p2) v (.ref s3.heap.objs.size)) (EP X pins σ Q) X.xe { s3 with heap:=s3.heap.push { cls:=.type "slice",data:=.fields #[vl,vu,.none] } }
 exact tail_any (ops:=[.ref s3.heap.objs.size,v]) ht hT hg (by with_unfolding_all rfl)
def cutV (xs:List V) (lo hi:Option Int):List V:=(xs.drop (HT.sIx xs.length 0 lo)).take (HT.sIx xs.length xs.length hi - HT.sIx xs.length 0 lo)
theorem cutV_length (xs:List V) (lo hi:Option Int):(cutV xs lo hi).length<=xs.length:=by
 unfold cutV
 rw [xaT,xbk]
 lia
def rSlT (K:PySem.W.Frag):V->Option Int->Option Int->Hp->VK->Prop:=fun x lo hi H Q=>∃ a xs,x=.ref a/\SqT K H a xs /\
 ¬ (HT.sIx xs.length 0 lo=0/\HT.sIx xs.length xs.length hi=xs.length)/\∀ p,H p=none->Q (.ref p) (upd H p (.tup (cutV xs lo hi)))
theorem sl_tup:SlR X (rSlT X.K):=by
 intro pins s σ H x v vl vu lo hi sl Q I rx hs pl pu h
 obtain ⟨a,xs,rfl,hx,hw,q⟩:=h
 cases rx
 obtain ⟨its,r,ht,hz⟩:=I.tuple hx
 have hlen:its.toArray.size=xs.length:=by rw [xaw]; exact r.length.symm
 refine ⟨"tuple",_,PyProof.Rows.slot_tuple_getitem.lookup,ht.typeIs,?_⟩
 refine HT.getItem_tuple_cut ht hs pl pu (by rw [hlen]; exact hw) ?_ (by rw [hlen]; exact hz)
 rw [hlen]
 refine ⟨.ref s.heap.objs.size,_,I.laid (t':=s.toks) (o:=.tup (cutV xs lo hi)) (fun b ob q=>xae _ q) (xah _) ?_,rfl,q _ (I.hok.fresh (xah _))⟩
 exact ⟨xaq (cutV_length xs lo hi) hz,_,(r.drop (HT.sIx xs.length 0 lo)).take (HT.sIx xs.length xs.length hi - HT.sIx xs.length 0 lo),IsTup.new _ _⟩
def rCatT (K:PySem.W.Frag):R2:=fun x y H Q=>∃ a b xs ys,x=.ref a/\y=.ref b/\SqT K H a xs/\SqT K H b ys/\xs≠[]/\xs.length+ys.length<=sizeLine /\
 (ys=[]->Q (.ref a) H)/\(ys≠[]->∀ p,H p=none->Q (.ref p) (upd H p (.tup (xs++ys))))
theorem Vals.nil_iff {xs:List V} {us:List Value} (r:Vals xs us):us=[]↔xs=[]:=by
 cases r with
 | nil=>simp
 | cons _ _=>simp
theorem op_catT:OpR X (binaryOp .Add) (rCatT X.K):=by
 intro pins s σ H x y v u Q I rx ry h
 obtain ⟨a,b,xs,ys,rfl,rfl,ha,hb,hx,hz,q1,q2⟩:=h
 cases rx
 cases ry
 obtain ⟨its,r1,p1,_⟩:=I.tuple ha
 obtain ⟨its2,r2,p2,_⟩:=I.tuple hb
 refine HT.cat_tup p1 p2 (fun z=>hx (r1.nil_iff.mp z)) (fun z=>⟨.ref a,H,I,rfl,q1 (r2.nil_iff.mp z)⟩) (fun z=>?_) (by rw [<- r1.length,<- r2.length]; exact hz)
 refine ⟨.ref s.heap.objs.size,_,I.laid (t':=s.toks) (o:=.tup (xs++ys)) (fun b ob q=>xae _ q) (xah _) ?_,rfl,q2 (fun w=>z (r2.nil_iff.mpr w)) _ (I.hok.fresh (xah _))⟩
 exact ⟨by rw [xaL]; exact hz,_,r1.append r2,IsTup.new _ _⟩
end
def ixN (n:Nat) (i:Int):Option Nat:=if 0<=i then (if i<n then some i.toNat else none) else if -(n:Int)<=i then some (i+n).toNat else none
def atI {α:Type} (xs:List α) (i:Int):Option α:=(ixN xs.length i).bind fun j=>xs[j]?
theorem ixN_seq {n:Nat} {i:Int} {j:Nat} (h:ixN n i=some j):seqIndex? i n=some j/\j<n/\-(n:Int)<=i/\i<n:=by
 unfold ixN at h
 by_cases h0:0<=i
 ·rw [if_pos h0] at h
  by_cases h1:i<n
  ·rw [if_pos h1] at h
   have e:i.toNat=j:=Option.some.inj h
   exact ⟨by rw [seqIndex_of h0 h1,e],by lia,by lia,h1⟩
  ·rw [if_neg h1] at h; cases h
 ·rw [if_neg h0] at h
  by_cases h1:-(n:Int)<=i
  ·rw [if_pos h1] at h
   have e:(i+n).toNat=j:=Option.some.inj h
   exact ⟨by rw [seqIndex_neg (by exact Int.not_le.mp ‹_›) h1,e],by lia,h1,by lia⟩
  ·rw [if_neg h1] at h; cases h
theorem atI_get {α:Type} {xs:List α} {i:Int} {v:α} (h:atI xs i=some v):∃ j,seqIndex? i xs.length=some j/\xs[j]? = some v/\j<xs.length/\-(xs.length:Int)<=i/\i<xs.length:=by
 unfold atI at h
 cases e:ixN xs.length i with
 | none=>rw [e] at h; cases h
 | some j =>
  rw [e] at h
  obtain ⟨h1,h2,h3,h4⟩:=ixN_seq e
  exact ⟨j,h1,h,h2,h3,h4⟩
theorem atI_nat {α:Type} {xs:List α} {j:Nat} {v:α} (h:xs[j]? = some v):atI xs (j:Int)=some v:=by
 have hj:j<xs.length:=(xaj.mp h).1
 have e:ixN xs.length (j:Int)=some j:=by
  unfold ixN
  rw [if_pos (by walk_at "s1"),if_pos (by lia)]; simp
 unfold atI; rw [e]; exact h
theorem atI_last {α:Type} (xs:List α) (v:α):atI (xs++[v]) (-1)=some v:=by
 have hl:(xs++[v]).length=xs.length+1:=by simp
 have e:ixN (xs++[v]).length (-1)=some xs.length:=by
  unfold ixN
  rw [hl,if_neg (by decide),if_pos (by lia)]
  congr 1
  lia
 unfold atI
 rw [e]
 show (xs++[v])[xs.length]? = some v
 simp
def PlainIx (b:Expr):Prop:=∀ o i,subscripted b false o i=operate [o,i] (getItem o i)
def IxR (X:Cx) (r:R2):Prop :=
 ∀ (value slice:Expr) (pins:List (Addr × Obj)) (s:Shared) (σ:St) (H:Hp) (x y:V) (v u:Value) (Q:VK),Inv X pins σ H s->RelV x v->RelV y u->r x y H Q ->
  subscripted slice false v u=operate [v,u] (getItem v u)->wpAny (model X.prog X.w) X.A (subscriptTail value slice v u) (EP X pins σ Q) X.xe s
def MtR (X:Cx) (id:String) (r:V->List V->Hp->VK->Prop):Prop :=
 ∀ (pins:List (Addr × Obj)) (s:Shared) (σ:St) (H:Hp) (x:V) (xs:List V) (v:Value) (us:List Value) (Q:VK),Inv X pins σ H s->RelV x v->Vals xs us->r x xs H Q ->
  wpAny (model X.prog X.w) X.A (call (.builtin id) (v :: us)) (EP X pins σ Q) X.xe s
section
variable {X:Cx} {a b:Expr} {ta tb:TE} {pos:Pos}
theorem IxR.or {r r':R2} (h:IxR X r) (h':IxR X r'):IxR X (fun x y H Q=>r x y H Q\/r' x y H Q):=by
 intro value slice pins s σ H x y v u Q I rx ry q hs
 rcases q with q | q
 ·exact h value slice pins s σ H x y v u Q I rx ry q hs
 ·exact h' value slice pins s σ H x y v u Q I rx ry q hs
theorem MtR.or {id:String} {r r':V->List V->Hp->VK->Prop} (h:MtR X id r) (h':MtR X id r'):MtR X id (fun x xs H Q=>r x xs H Q\/r' x xs H Q):=by
 intro pins s σ H x xs v us Q I rx rs q
 rcases q with q | q
 ·exact h pins s σ H x xs v us Q I rx rs q
 ·exact h' pins s σ H x xs v us Q I rx rs q
theorem pe_ix {r:R2} (hr:IxR X r) (ha:PE X a ta) (hb:PE X b tb) (hs:PlainIx b):PE X (.Subscript a b pos) (tOp r ta tb):=by
 intro pins s σ H Q I h
 exact Subscript_ (binT ha hb I h fun v u s2 x y H2 I2 rx ry q=>hr a b pins s2 σ H2 x y v u Q I2 rx ry q (hs _ _))
def rIxL (K:PySem.W.Frag):R2:=fun x y H Q=>∃ p xs i v,x=.ref p/\y=.int i/\SqL K H p xs/\atI xs i=some v/\Q v H
def rIxT (K:PySem.W.Frag):R2:=fun x y H Q=>∃ p xs i v,x=.ref p/\y=.int i/\SqT K H p xs/\atI xs i=some v/\Q v H
def rIxS:R2:=fun x y H Q=>∃ z i c,x=.str z/\y=.int i/\z.length<=sizeLine/\atI z.cps.toList i=some c/\Q (.str ⟨#[c]⟩) H
theorem ix_list:IxR X (rIxL X.K):=by
 intro value slice pins s σ H x y v u Q I rx ry h hs
 obtain ⟨p,xs,i,z,rfl,rfl,hq,he,q⟩:=h
 cases rx
 obtain ⟨t,rfl⟩:=ry
 obtain ⟨its,r,pl,hz⟩:=I.list hq
 obtain ⟨j,h1,h2,h3,h4,h5⟩:=atI_get he
 obtain ⟨w,ew,rw'⟩:=r.get h2
 have hl:=r.length
 have hn:=line63
 have fin:EP X pins σ Q w s:=⟨z,H,I,rw',q⟩
 by_cases h0:0<=i
 ·have hj:i.toNat=j:=by
   rw [seqIndex_of h0 h5] at h1
   exact Option.some.inj h1
  exact item_listR pl.isList h0 (by lia) (by rw [hj]; simpa using ew) fin hs
 ·have hj:(i+(its.toArray.size:Int)).toNat=j:=by
   rw [seqIndex_neg (by exact Int.not_le.mp ‹_›) h4] at h1
   rw [xaw,<- hl]
   exact Option.some.inj h1
  exact subscriptTail_builtinR (x:=w) pl.isList.typeIs slot_list_getitem.lookup
   (wpAny_getItem_list_neg (Q:=fun r s'=>r=w/\EP X pins σ Q r s') pl.isList (by exact Int.not_le.mp ‹_›) (by rw [xaw] <;> lia) (by lia) (by rw [hj]; simpa using ew) ⟨rfl,fin⟩) hs
theorem ix_tup:IxR X (rIxT X.K):=by
 intro value slice pins s σ H x y v u Q I rx ry h hs
 obtain ⟨p,xs,i,z,rfl,rfl,hq,he,q⟩:=h
 cases rx
 obtain ⟨t,rfl⟩:=ry
 obtain ⟨its,r,pl,hz⟩:=I.tuple hq
 obtain ⟨j,h1,h2,h3,h4,h5⟩:=atI_get he
 obtain ⟨w,ew,rw'⟩:=r.get h2
 have hl:=r.length
 have hn:=line63
 have fin:EP X pins σ Q w s:=⟨z,H,I,rw',q⟩
 exact subscriptTail_builtinR (x:=w) pl.typeIs slot_tuple_getitem.lookup
  (getItem_tuple (j:=j) (Q:=fun r s'=>r=w/\EP X pins σ Q r s') pl (by lia) (by lia) (by rw [xaw,<- hl]; exact h1) (by simpa using ew) ⟨rfl,fin⟩) hs
theorem ix_str:IxR X rIxS:=by
 intro value slice pins s σ H x y v u Q I rx ry h hs
 obtain ⟨z,i,c,rfl,rfl,hz,he,q⟩:=h
 obtain ⟨t,rfl⟩:=rx
 obtain ⟨t',rfl⟩:=ry
 obtain ⟨j,h1,h2,h3,h4,h5⟩:=atI_get he
 have hl:z.cps.toList.length=z.length:=by simp [Str.length]
 rw [hl] at h1 h4 h5
 have hn:=line63
 exact tail_any (typeIs_str s z t) slot_str_getitem.lookup (getItem_str (c:=c) (by
  have e1:decide (i < -(2 ^ 63:Int))=false:=decide_eq_false (by lia)
  have e2:decide (i >= 2 ^ 63)=false:=decide_eq_false (by lia)
  rw [e1,e2,Bool.or_false]) (by rw [h1]; simpa using h2) ⟨.str ⟨#[c]⟩,H,I.tok _,⟨_,rfl⟩,q⟩) hs
def rIx (K:PySem.W.Frag):R2:=fun x y H Q=>rIxL K x y H Q\/rIxT K x y H Q\/rIxS x y H Q
theorem ix_seq:IxR X (rIx X.K):=ix_list.or (ix_tup.or ix_str)
theorem Inv.lst {pins:List (Addr × Obj)} {σ:St} {H:Hp} {s:Shared} {p:Addr} {xs:List V} (I:Inv X pins σ H s) (h:H p=some (.lst xs)) :
  ∃ (its:List Value) (n:Nat),Vals xs its/\s.heap.get? p=some { cls:=.type "list",data:=.seq its.toArray n }/\xs.length<=sizeLine:=by
 obtain ⟨z,its,n,r,e⟩:=I.hok p _ h
 exact ⟨its,n,r,e,z⟩
theorem slice_bounds (lo hi:Option Int) (n:Nat):(sliceBounds lo hi none n).1=((HT.sIx n 0 lo:Nat):Int)/\(sliceBounds lo hi none n).2.1=((HT.sIx n n hi:Nat):Int)/\(sliceBounds lo hi none n).2.2=1:=by
 refine ⟨?_,?_,rfl⟩
 ·cases lo with
  | none=>simp [sliceBounds,HT.sIx]
  | some i =>
   simp only [sliceBounds,HT.sIx,Option.getD_none,show (1:Int)>0 by decide,if_true]
   by_cases h:i<0
   ·simp only [h,if_true] <;> lia
   ·simp only [h,if_false] <;> lia
 ·cases hi with
  | none=>simp [sliceBounds,HT.sIx]
  | some i =>
   simp only [sliceBounds,HT.sIx,Option.getD_none,show (1:Int)>0 by decide,if_true]
   by_cases h:i<0
   ·simp only [h,if_true] <;> lia
   ·simp only [h,if_false] <;> lia
theorem slicePick_cut (its:List Value) (lo hi:Option Int):slicePick its.toArray lo hi none=((its.drop (HT.sIx its.length 0 lo)).take (HT.sIx its.length its.length hi - HT.sIx its.length 0 lo)).toArray:=by
 obtain ⟨h1,h2,h3⟩:=slice_bounds lo hi its.toArray.size
 unfold slicePick
 rw [h1,h2,h3]
 simp only [sliceRange_one,pick_run,xaw] <;> rfl
def rSlL (K:PySem.W.Frag):V->Option Int->Option Int->Hp->VK->Prop:=fun x lo hi H Q=>∃ a xs,x=.ref a/\SqL K H a xs/\∀ p,H p=none->Q (.ref p) (upd H p (.lst (cutV xs lo hi)))
theorem sl_list:SlR X (rSlL X.K):=by
 intro pins s σ H x v vl vu lo hi sl Q I rx hs pl pu h
 obtain ⟨a,xs,rfl,hx,q⟩:=h
 cases rx
 obtain ⟨its,r,ht,hz⟩:=I.list hx
 have hlen:=r.length
 refine ⟨"list",_,slot_list_getitem.lookup,ht.isList.typeIs,?_⟩
 refine wpAny_getItem_list_slice ht.isList hs pl pu .none (by simp) ?_ (by rw [xaw] <;> lia)
 rw [slicePick_cut,<- hlen]
 refine ⟨.ref s.heap.objs.size,_,I.laid (t':=s.toks) (o:=.lst (cutV xs lo hi)) (fun b ob q=>xae _ q) (xah _) ?_,rfl,q _ (I.hok.fresh (xah _))⟩
 exact ⟨xaq (cutV_length xs lo hi) hz,_,0,(r.drop (HT.sIx xs.length 0 lo)).take (HT.sIx xs.length xs.length hi - HT.sIx xs.length 0 lo),xao _ rfl⟩
def flatV:V->Bool
 | .non=>true
 | .bl _=>true
 | .int _=>true
 | .str _=>true
 | _=>false
def eqV:V->V->Bool
 | .non,.non=>true
 | .bl a,.bl b=>a == b
 | .bl a,.int b=>(if a then 1 else 0) == b
 | .int a,.bl b=>a == (if b then 1 else 0)
 | .int a,.int b=>a == b
 | .str a,.str b=>a == b
 | _,_=>false
theorem eqAt_V {A:Around} {s:Shared} {y x:V} {u v:Value} (ry:RelV y u) (rx:RelV x v) (fy:flatV y=true) (fx:flatV x=true):SeqAt.EqAt A s u v (eqV y x):=by
 cases y with
 | non =>
  cases ry
  cases x with
  | non=>cases rx; exact SeqAt.EqAt.same _
  | bl b=>cases rx; exact SeqAt.EqAt.none_bool b
  | int b=>obtain ⟨t,rfl⟩:=rx; exact SeqAt.EqAt.none_int b t
  | str b=>obtain ⟨t,rfl⟩:=rx; exact SeqAt.EqAt.none_str b t
  | _=>exact absurd (show false=true from fx) xam
 | bl a =>
  cases ry
  cases x with
  | non=>cases rx; exact SeqAt.EqAt.bool_none a
  | bl b=>cases rx; exact SeqAt.EqAt.bool_bool a b
  | int b=>obtain ⟨t,rfl⟩:=rx; exact SeqAt.EqAt.bool_int a b t
  | str b=>obtain ⟨t,rfl⟩:=rx; exact SeqAt.EqAt.bool_str a b t
  | _=>exact absurd (show false=true from fx) xam
 | int a =>
  obtain ⟨t',rfl⟩:=ry
  cases x with
  | non=>cases rx; exact SeqAt.EqAt.int_none a t'
  | bl b=>cases rx; exact SeqAt.EqAt.int_bool a t' b
  | int b=>obtain ⟨t,rfl⟩:=rx; exact SeqAt.EqAt.int_int a t' b t
  | str b=>obtain ⟨t,rfl⟩:=rx; exact SeqAt.EqAt.int_str a t' b t
  | _=>exact absurd (show false=true from fx) xam
 | str a =>
  obtain ⟨t',rfl⟩:=ry
  cases x with
  | non=>cases rx; exact SeqAt.EqAt.str_none a t'
  | bl b=>cases rx; exact SeqAt.EqAt.str_bool a t' b
  | int b=>obtain ⟨t,rfl⟩:=rx; exact SeqAt.EqAt.str_int a t' b t
  | str b=>obtain ⟨t,rfl⟩:=rx; exact SeqAt.EqAt.str_str a t' b t
  | _=>exact absurd (show false=true from fx) xam
 | _=>exact absurd (show false=true from fy) xam
def eqU (x:V) (u:Value):Bool:=match u with
 | .none=>eqV .non x
 | .bool b=>eqV (.bl b) x
 | .int i _=>eqV (.int i) x
 | .str z _=>eqV (.str z) x
 | _=>false
theorem eqU_of {x y:V} {u:Value} (r:RelV y u) (f:flatV y=true):eqU x u=eqV y x:=by
 cases y with
 | non=>cases r; rfl
 | bl b=>cases r; rfl
 | int i=>obtain ⟨t,rfl⟩:=r; rfl
 | str z=>obtain ⟨t,rfl⟩:=r; rfl
 | _=>exact absurd (show false=true from f) xam
theorem any_eqU {x:V}:∀ {xs:List V} {us:List Value},Vals xs us->xs.all flatV=true->us.any (eqU x)=xs.any fun y=>eqV y x
 | _,_,.nil,_=>rfl
 | y :: xs,u :: us,.cons r t,f=>by
  rw [xbo,xaA] at f
  rw [xbp,xbp,eqU_of r f.1,any_eqU t f.2]
theorem mem_eqAt {A:Around} {s:Shared} {x:V} {v:Value} (rx:RelV x v) (fx:flatV x=true):∀ {xs:List V} {us:List Value},Vals xs us->xs.all flatV=true->∀ u∈us,SeqAt.EqAt A s u v (eqU x u)
 | _,_,.nil,_=>fun u hu=>by cases hu
 | y :: xs,u :: us,.cons r t,f=>fun u' hu=>by
  rw [xbo,xaA] at f
  rcases xag.mp hu with rfl | hu
  ·rw [eqU_of r f.1]; exact eqAt_V r rx f.1 fx
  ·exact mem_eqAt rx fx t f.2 u' hu
def inV (x:V) (xs:List V):Bool:=xs.any fun y=>eqV y x
def rIn (K:PySem.W.Frag) (neg:Bool):R2:=fun x y H Q=>∃ p xs,y=.ref p/\(SqL K H p xs\/SqT K H p xs)/\flatV x=true/\xs.all flatV=true/\Q (.bl (if neg then !inV x xs else inV x xs)) H
theorem op_in_seq:OpR X (compareOp .In) (rIn X.K false):=by
 intro pins s σ H x y v u Q I rx ry h
 obtain ⟨p,xs,rfl,hq,fx,fs,q⟩:=h
 cases ry
 rcases hq with hq | hq
 ·obtain ⟨its,r,pl,hz⟩:=I.list hq
  refine SeqAt.in_listAt (eqU x) pl.isList (fun w hw=>mem_eqAt rx fx r fs w (by simpa using hw)) ⟨.bl _,H,I,rfl,?_⟩
  rw [show its.toArray.any (eqU x)=its.any (eqU x) by simp,any_eqU r fs]
  exact q
 ·obtain ⟨its,r,pl,hz⟩:=I.tuple hq
  refine SeqAt.in_tupleAt (eqU x) pl (fun w hw=>mem_eqAt rx fx r fs w (by simpa using hw)) ⟨.bl _,H,I,rfl,?_⟩
  rw [show its.toArray.any (eqU x)=its.any (eqU x) by simp,any_eqU r fs]
  exact q
theorem op_notIn_seq:OpR X (compareOp .NotIn) (rIn X.K true):=by
 intro pins s σ H x y v u Q I rx ry h
 obtain ⟨p,xs,rfl,hq,fx,fs,q⟩:=h
 cases ry
 rcases hq with hq | hq
 ·obtain ⟨its,r,pl,hz⟩:=I.list hq
  refine SeqAt.notIn_listAt (eqU x) pl.isList (fun w hw=>mem_eqAt rx fx r fs w (by simpa using hw)) ⟨.bl _,H,I,rfl,?_⟩
  rw [show its.toArray.any (eqU x)=its.any (eqU x) by simp,any_eqU r fs]
  exact q
 ·obtain ⟨its,r,pl,hz⟩:=I.tuple hq
  refine SeqAt.notIn_tupleAt (eqU x) pl (fun w hw=>mem_eqAt rx fx r fs w (by simpa using hw)) ⟨.bl _,H,I,rfl,?_⟩
  rw [show its.toArray.any (eqU x)=its.any (eqU x) by simp,any_eqU r fs]
  exact q
theorem CallR.or {f:Value} {r r':List V->Hp->VK->Prop} (h:CallR X f r) (h':CallR X f r'):CallR X f (fun xs H Q=>r xs H Q\/r' xs H Q):=by
 intro pins s σ H xs us Q I rs q
 rcases q with q | q
 ·exact h pins s σ H xs us Q I rs q
 ·exact h' pins s σ H xs us Q I rs q
theorem call_list_of:CallR X (.type "list") (fun xs H Q=>∃ p ys,xs=[.ref p]/\(SqL X.K H p ys\/SqT X.K H p ys)/\∀ l,H l=none->Q (.ref l) (upd H l (.lst ys))):=by
 intro pins s σ H xs us Q I r h
 obtain ⟨p,ys,rfl,hq,q⟩:=h
 obtain ⟨u,rfl,rx⟩:=vals1 r
 cases rx
 have fin:∀ (its:List Value),Vals ys its->ys.length<=sizeLine->∀ (h':Heap) (c':Nat),(∀ b o',s.heap.get? b=some o'->h'.get? b=some o') ->
   h'.get? s.heap.objs.size=some { cls:=.type "list",dict:=none,data:=.seq its.toArray c',slots:=#[] }->EP X pins σ Q (.ref s.heap.objs.size) { s with heap:=h' }:=fun its r' hz h' c' kp e =>
  ⟨.ref s.heap.objs.size,_,I.laid (t':=s.toks) kp (xah _) (show ObjOk X.prog X.w _ h' _ (.lst ys) from ⟨hz,its,c',r',e⟩),rfl,q _ (I.hok.fresh (xah _))⟩
 rcases hq with hq | hq
 ·obtain ⟨its,r',pl,hz⟩:=I.list hq
  have hlen:=r'.length
  obtain ⟨o,ho,hc,n,hd⟩:=pl.isList
  exact call_list_seq p (.inl rfl) ho hc hd (fun h' c' kp e=>fin its r' hz h' c' kp e) (by simp only [xaw] <;> lia)
 ·obtain ⟨its,r',pl,hz⟩:=I.tuple hq
  have hlen:=r'.length
  obtain ⟨o,ho,hc,n,hd⟩:=pl
  exact call_list_seq p (.inr rfl) ho hc hd (fun h' c' kp e=>fin its r' hz h' c' kp e) (by simp only [xaw] <;> lia)
def tyV (K:PySem.W.Frag) (T:String) (x:V) (H:Hp):Prop:=match x with
 | .str _=>T = "str"
 | .int _=>T = "int"
 | .ref p=>(T = "list"/\∃ xs,SqL K H p xs)\/(T = "tuple"/\∃ o,K.lookup p=some o/\o.cls=.type "tuple"/\o.dict=none) \/
   (T = "dict"/\((∃ kvs,H p=some (.dK kvs))\/∃ kvs,H p=some (.dT kvs)))\/(T = "set"/\∃ S n,H p=some (.set S n))
 | _=>False
theorem tyV_is {pins:List (Addr × Obj)} {σ:St} {H:Hp} {s:Shared} {T:String} {x:V} {v:Value} (I:Inv X pins σ H s) (r:RelV x v) (ty:tyV X.K T x H) :
  s.TypeIs v T/\∀ a,v=.ref a->∃ ob,s.heap.get? a=some ob/\ob.dict=none:=by
 cases x with
 | str z =>
  obtain ⟨t,rfl⟩:=r
  cases (show T = "str" from ty)
  exact ⟨typeIs_str s z t,fun _ e=>nomatch e⟩
 | int i =>
  obtain ⟨t,rfl⟩:=r
  cases (show T = "int" from ty)
  exact ⟨typeIs_int s i t,fun _ e=>nomatch e⟩
 | ref p =>
  cases r
  rcases ty with ⟨rfl,xs,hq⟩ | ⟨rfl,o,hk,hc,hd⟩ | ⟨rfl,hk⟩ | ⟨rfl,S,n,hk⟩
  ·obtain ⟨its,_,pl,_⟩:=I.list hq
   refine ⟨pl.isList.typeIs,fun a e=>?_⟩
   cases e
   obtain ⟨o,n,e,c,hd,_⟩:=pl
   exact ⟨o,e,hd⟩
  ·refine ⟨⟨o,I.kIn p o hk,hc⟩,fun a e=>?_⟩
   cases e
   exact ⟨o,I.kIn _ o hk,hd⟩
  ·have z:∃ o,s.heap.get? p=some o/\o.ExactDict:=by
    rcases hk with ⟨kvs,hk⟩ | ⟨kvs,hk⟩
    ·obtain ⟨_,_,_,_,o,_,_,e,ex,_⟩:=I.hok p _ hk
     exact ⟨o,e,ex⟩
    ·obtain ⟨_,_,_,_,o,_,_,e,ex,_⟩:=I.hok p _ hk
     exact ⟨o,e,ex⟩
   obtain ⟨o,e,ex⟩:=z
   refine ⟨⟨o,e,ex.1⟩,fun a e2=>?_⟩
   cases e2
   exact ⟨o,e,ex.2.1⟩
  ·obtain ⟨o,_,_,_,e,ex,_⟩:=I.hok p _ hk
   refine ⟨⟨o,e,ex.1⟩,fun a e2=>?_⟩
   cases e2
   exact ⟨o,e,ex.2.1⟩
 | _=>exact False.elim ty
def tBM (K:PySem.W.Frag) (T:String) (r:V->List V->Hp->VK->Prop) (to:TE) (t:TA):TE:=fun σ H Q=>to σ H fun x H1=>tyV K T x H1/\t σ H1 fun xs H2=>r x xs H2 Q
variable {o e:Expr} {es:List Expr} {to:TE} {t:TA} {name:Str} {apos cpos:Pos} {T id:String} {r:V->List V->Hp->VK->Prop}
theorem pe_bm (pa:PlainAttrs T) (slot:Slot T name id) (hty:typeOf (.builtin id)=pure (.type "method_descriptor")) (hm:MtR X id r) (ho:PE X o to) (ha:PA X (e :: es) t)
  (hbase:attributeBase o name X.env (eval o X.env)=eval o X.env:=by rfl)
  (hfew:((backTo cpos (starEach (e :: es) X.env)).all (fun x=>!x.1) && (backToKw cpos (keywordEach [] X.env)).all (fun x=>x.1.isSome)
   && decide ((e :: es).length+([]:List Keyword).length+(if ([]:List Keyword).isEmpty then 0 else 1)<30))=true:=by rfl)
  (hline:(apos.endLine == cpos.line)=true:=by rfl) (hs:starEach (e :: es) X.env=(false,eval e X.env) :: starEach es X.env:=by rfl) (hplain:(backTo cpos (starEach es X.env)).any (·.1)=false:=by rfl) :
  PE X (.Call (.Attribute o name apos) (e :: es) [] cpos) (tBM X.K T r to t):=by
 intro pins s σ H Q I h
 refine wpAny_Call_method_late hbase hfew hline rfl (thn (ho pins s σ H _ I h) fun v s1 hx9=>?_)
 obtain ⟨x,H1,I1,r1,ty,q1⟩:=hx9
 obtain ⟨h1,h2⟩:=tyV_is I1 r1 ty
 refine ⟨T,id,pa,slot,hty,h1,h2,?_⟩
 have hA:=ha cpos pins s1 σ H1 _ I1 q1
 rw [hs] at hA ⊢
 refine Calls.callWith_builtin (by show (false || (backTo cpos (starEach es X.env)).any (·.1))=false; rw [hplain] <;> rfl) (Calls.evalArgs_plain ?_)
 exact thn hA fun us s2 hx5=>L2.ex2 hx5 fun vs H2 I2 r2 q2=>hm pins s2 σ H2 x vs v us Q I2 r1 r2 q2
end
def MtM (X:Cx) (id:String) (r:V->List V->Hp->VK->Prop):Prop :=
 ∀ (pins:List (Addr × Obj)) (s:Shared) (σ:St) (H:Hp) (x:V) (xs:List V) (v:Value) (us:List Value) (Q:VK),Inv X pins σ H s->RelV x v->Vals xs us->r x xs H Q ->
  wpAny (model X.prog X.w) X.A (call (.builtin id) (v :: us)) (EP X pins σ Q) X.xe s
theorem Vals.one {x:V} {us:List Value} (h:Vals [x] us):∃ u,us=[u]/\RelV x u:=by
 cases h
 rename_i r h
 cases h
 exact ⟨_,rfl,‹_›⟩
theorem Vals.two {x y:V} {us:List Value} (h:Vals [x,y] us):∃ u v,us=[u,v]/\RelV x u/\RelV y v:=by
 cases h
 rename_i r h
 cases h
 rename_i q h
 cases h
 exact ⟨_,_,rfl,‹_›,‹_›⟩
theorem Vals.zero:∀ {us:List Value},Vals [] us->us=[]
 | _,.nil=>rfl
theorem Vals.dropLast {xs:List V} {us:List Value} (h:Vals xs us):Vals xs.dropLast us.dropLast:=by
 induction h with
 | nil=>exact .nil
 | cons r t ih =>
  cases t with
  | nil=>exact .nil
  | cons q t'=>exact .cons r ih
theorem Vals.eraseIdx:∀ {xs:List V} {us:List Value} (i:Nat),Vals xs us->Vals (xs.eraseIdx i) (us.eraseIdx i)
 | _,_,_,.nil=>.nil
 | _,_,0,.cons _ t=>t
 | _,_,i+1,.cons r t=>.cons r (Vals.eraseIdx i t)
theorem Vals.reverse {xs:List V} {us:List Value} (h:Vals xs us):Vals xs.reverse us.reverse:=by
 induction h with
 | nil=>exact .nil
 | cons r t ih=>rw [List.reverse_cons,List.reverse_cons]; exact Vals.append ih (.cons r .nil)
theorem Vals.rep {xs:List V} {us:List Value} (h:Vals xs us):∀ k:Nat,Vals (List.replicate k xs).flatten (List.replicate k us).flatten
 | 0=>.nil
 | k+1=>by
  rw [xaX,xaX,xba,xba]
  exact Vals.append h (Vals.rep h k)
section
variable {X:Cx} {pins:List (Addr × Obj)} {σ:St} {H:Hp} {s:Shared} {l:Addr} {xs ys:List V}
theorem Inv.lset {its its':List Value} {n:Nat} {f:Array Value->Array Value} {t':Nat} (I:Inv X pins σ H s) (hH:H l=some (.lst xs))
  (e:s.heap.get? l=some { cls:=.type "list",data:=.seq its.toArray n }) (hf:f its.toArray=its'.toArray) (hv:Vals ys its') (hz:ys.length<=sizeLine) :
  Inv X pins σ (upd H l (.lst ys)) { s with heap:=s.heap.update l (Obj.mapSeq f),toks:=t' }:=by
 have q:=PySem.IsL.update e f
 rw [hf] at q
 refine I.write (x:=l) (e:=l) (by rw [hH]; exact trivial) (.inl rfl) (fun b' u hb hu=>(xbr s.heap (Obj.mapSeq f) (Ne.symm hb)).trans hu) ⟨_,q⟩ ?_
 exact ⟨hz,its',_,hv,q⟩
theorem Inv.lnew {its:List Value} {t':Nat} (I:Inv X pins σ H s) (hv:Vals ys its) (hz:ys.length<=sizeLine) :
  Inv X pins σ (upd H s.heap.objs.size (.lst ys)) { s with heap:=s.heap.push { cls:=.type "list",data:=.seq its.toArray },toks:=t' } :=
 I.laid (fun _ _ q=>xae _ q) (xah _) ⟨hz,its,0,hv,xao _ rfl⟩
theorem Inv.fresh (I:Inv X pins σ H s):H s.heap.objs.size=none:=I.hok.fresh (xah _)
theorem Inv.lstM (I:Inv X pins σ H s) (hH:H l=some (.lst xs)):xs.length<=sizeLine/\∃ (its:List Value) (n:Nat),Vals xs its/\xs.length=its.length/\s.heap.get? l=some { cls:=.type "list",data:=.seq its.toArray n }:=by
 obtain ⟨z,its,n,r,e⟩:=I.hok l _ hH
 exact ⟨z,its,n,r,r.length,e⟩
end
section
variable {X:Cx}
def rAppend:V->List V->Hp->VK->Prop:=fun x vs H Q=>∃ l xs y,x=.ref l/\vs=[y]/\H l=some (.lst xs)/\xs.length<sizeLine/\Q .non (upd H l (.lst (xs++[y])))
theorem mt_append:MtM X "list.append" rAppend:=by
 intro pins s σ H x vs v us Q I rx rv h
 obtain ⟨l,xs,y,rfl,rfl,hH,hz,q⟩:=h
 cases rx
 obtain ⟨u,rfl,ru⟩:=rv.one
 obtain ⟨z,its,n,r,hl,e⟩:=I.lstM hH
 refine call_meets F.slot_list_append ⟨_,e,rfl⟩ F.entry_list_append (F.args_list_append_2 _ _) (PySem.list_append l its.toArray n u (by rw [xaw]; lia)) ⟨e,?_⟩
 refine ⟨.non,_,I.lset (its':=its++[u]) hH e (by simp) (r.append (.cons ru .nil)) ?_,rfl,q⟩
 rw [xaL,List.length_singleton]
 assumption
end
section
set_option maxRecDepth 100000 in
end
section
variable {κ:Type} [DecidableEq κ]
def valV (kvs:List (κ × V)) (k:κ):Option V:=(kvs.find? fun kv=>decide (kv.1=k)).map (·.2)
def putK (kvs:List (κ × V)) (k:κ) (v:V):List (κ × V) :=
 if (kvs.any fun kv=>decide (kv.1=k))=true then kvs.map (fun kv=>if kv.1=k then (kv.1,v) else kv) else kvs++[(k,v)]
def dropK (kvs:List (κ × V)) (k:κ):List (κ × V):=kvs.filter fun kv=>decide (kv.1≠k)
theorem valV_pos {p:κ × V} {r:List (κ × V)} {k:κ} (e:p.1=k):valV (p :: r) k=some p.2:=by simp [valV,xbJ,e]
theorem valV_neg {p:κ × V} {r:List (κ × V)} {k:κ} (e:¬ p.1=k):valV (p :: r) k=valV r k:=by simp [valV,xbJ,e]
theorem valV_any (k:κ):∀ kvs:List (κ × V),(kvs.any fun kv=>decide (kv.1=k))=(valV kvs k).isSome
 | []=>rfl
 | p :: r=>by
  rw [xbp]
  by_cases e:p.1=k
  ·simp only [valV_pos e,decide_eq_true e,Bool.true_or,Option.isSome_some]
  ·rw [valV_neg e,decide_eq_false e,Bool.false_or]; exact valV_any k r
theorem length_putK (kvs:List (κ × V)) (k:κ) (v:V):(putK kvs k v).length<=kvs.length+1:=by
 unfold putK
 split
 ·rw [xaf]; exact xbQ _ _
 ·rw [xaL,xaU,List.length_nil]; exact xah _
theorem RelO.isSome_eq {o:Option V} {u:Option Value} (r:RelO o u):o.isSome=u.isSome:=by
 cases o with
 | none=>cases u with
  | none=>rfl
  | some _=>exact (show False from r).elim
 | some _=>cases u with
  | none=>exact (show False from r).elim
  | some _=>rfl
theorem RelO.getD {o:Option V} {u:Option Value} {d:V} {d':Value} (r:RelO o u) (rd:RelV d d'):RelV (o.getD d) (u.getD d'):=by
 cases o with
 | none=>cases u with
  | none=>exact rd
  | some _=>exact (show False from r).elim
 | some _=>cases u with
  | none=>exact (show False from r).elim
  | some _=>exact r
theorem KV.val {kvs:List (κ × V)} {vs:List (κ × Value)} (r:KV kvs vs) (k:κ):RelO (valV kvs k) (valueAt vs k):=by
 unfold KV at r
 induction r with
 | nil=>exact True.intro
 | @cons p q ps qs h t ih =>
  obtain ⟨h1,h2⟩:=h
  by_cases e:p.1=k
  ·have e':q.1=k:=h1.symm.trans e
   have b:valueAt (q :: qs) k=some q.2:=by simp [valueAt,xbJ,e']
   rw [valV_pos e,b]; exact h2
  ·have e':¬ q.1=k:=fun z=>e (h1.trans z)
   have b:valueAt (q :: qs) k=valueAt qs k:=by simp [valueAt,xbJ,e']
   rw [valV_neg e,b]; exact ih
theorem KV.any {kvs:List (κ × V)} {vs:List (κ × Value)} (r:KV kvs vs) (k:κ):(kvs.any fun kv=>decide (kv.1=k))=vs.any fun kv=>decide (kv.1=k):=by
 unfold KV at r
 induction r with
 | nil=>rfl
 | cons h t ih=>rw [xbp,xbp,ih,h.1]
theorem KV.repl {kvs:List (κ × V)} {vs:List (κ × Value)} (r:KV kvs vs) (k:κ) {y:V} {u:Value} (ry:RelV y u) :
  KV (kvs.map fun kv=>if kv.1=k then (kv.1,y) else kv) (vs.map fun kv=>if kv.1=k then (kv.1,u) else kv):=by
 unfold KV at r ⊢
 induction r with
 | nil=>exact .nil
 | @cons p q ps qs h t ih =>
  rw [xap,xap]
  refine .cons ?_ ih
  obtain ⟨h1,h2⟩:=h
  by_cases e:p.1=k
  ·rw [if_pos e,if_pos (h1.symm.trans e)]; exact ⟨h1,ry⟩
  ·rw [if_neg e,if_neg (fun z=>e (h1.trans z))]; exact ⟨h1,h2⟩
theorem KV.put {kvs:List (κ × V)} {vs:List (κ × Value)} (r:KV kvs vs) (k:κ) {y:V} {u:Value} (ry:RelV y u):KV (putK kvs k y) (stored vs k u):=by
 unfold putK stored
 rw [r.any k]
 by_cases e:(vs.any fun kv=>decide (kv.1=k))=true
 ·rw [if_pos e,if_pos e]; exact r.repl k ry
 ·rw [if_neg e,if_neg e]; exact Paired.snoc r ⟨rfl,ry⟩
theorem KV.drop {kvs:List (κ × V)} {vs:List (κ × Value)} (r:KV kvs vs) (k:κ):KV (dropK kvs k) (without vs k):=by
 unfold KV at r ⊢
 unfold dropK without
 induction r with
 | nil=>exact .nil
 | @cons p q ps qs h t ih =>
  obtain ⟨h1,h2⟩:=h
  rw [List.filter_cons,List.filter_cons]
  by_cases e:p.1=k
  ·have a:¬ decide (p.1≠k)=true:=by simp [e]
   have b:¬ decide (q.1≠k)=true:=by simp [h1.symm.trans e]
   rw [if_neg a,if_neg b]; exact ih
  ·have e':¬ q.1=k:=fun z=>e (h1.trans z)
   have a:decide (p.1≠k)=true:=by simp [e]
   have b:decide (q.1≠k)=true:=by simp [e']
   rw [if_pos a,if_pos b]; exact .cons ⟨h1,h2⟩ ih
theorem KV.keys {kvs:List (κ × V)} {vs:List (κ × Value)} (r:KV kvs vs):kvs.map (·.1)=vs.map (·.1):=by
 unfold KV at r
 induction r with
 | nil=>rfl
 | cons h t ih=>rw [xap,xap,ih,h.1]
theorem KV.length {kvs:List (κ × V)} {vs:List (κ × Value)} (r:KV kvs vs):kvs.length=vs.length:=Paired.length r
end
theorem kV_is {P:Program} {w:World} {k:Key} {u:Value} (r:RelV (kV k) u):(mixKind P w).is k u=true:=by
 cases k with
 | inl i=>obtain ⟨t,e⟩:=(show ∃ t,u=Value.int i t from r); subst e; exact mixKind_int P w i t
 | inr x=>obtain ⟨t,e⟩:=(show ∃ t,u=Value.str x t from r); subst e; exact mixKind_str P w x t
theorem items_are {P:Program} {w:World}:∀ {ks:List Key} {us:List Value},Vals (ks.map kV) us->ItemsAre (mixKind P w) ks us
 | [],_,r=>by rw [List.map_nil] at r; cases r; exact .nil
 | k :: ks,_,r=>by
  rw [xap] at r
  cases r with
  | cons h t=>exact .cons (kV_is h) (items_are t)
abbrev KT (H:Hp):List (List Key × V)->List (List Key × Addr × Value)->Prop:=Paired fun p q=>p.1=q.1/\H q.2.1=some (.tup (p.1.map kV))/\RelV p.2 q.2.2
theorem KT.val {H:Hp} {kvs:List (List Key × V)} {xs:List (List Key × Addr × Value)} (r:KT H kvs xs) (k:List Key):RelO (valV kvs k) ((atKey xs k).map (·.2)):=by
 induction r with
 | nil=>exact True.intro
 | @cons p q ps qs h t ih =>
  obtain ⟨h1,_,h2⟩:=h
  by_cases e:p.1=k
  ·have e':q.1=k:=h1.symm.trans e
   have b:atKey (q :: qs) k=some q.2:=by simp [atKey,xbJ,e']
   rw [valV_pos e,b]; exact h2
  ·have e':¬ q.1=k:=fun z=>e (h1.trans z)
   have b:atKey (q :: qs) k=atKey qs k:=by simp [atKey,xbJ,e']
   rw [valV_neg e,b]; exact ih
theorem KT.repl {H:Hp} {kvs:List (List Key × V)} {xs:List (List Key × Addr × Value)} (r:KT H kvs xs) (k:List Key) {y:V} {u:Value} (ry:RelV y u) :
  KT H (kvs.map fun kv=>if kv.1=k then (kv.1,y) else kv) (xs.map (putAt k u)):=by
 induction r with
 | nil=>exact .nil
 | @cons p q ps qs h t ih =>
  rw [xap,xap]
  refine .cons ?_ ih
  obtain ⟨h1,h2,h3⟩:=h
  unfold putAt
  by_cases e:p.1=k
  ·rw [if_pos e,if_pos (h1.symm.trans e)]; exact ⟨h1,h2,ry⟩
  ·rw [if_neg e,if_neg (fun z=>e (h1.trans z))]; exact ⟨h1,h2,h3⟩
theorem KT.put {H:Hp} {kvs:List (List Key × V)} {xs:List (List Key × Addr × Value)} (r:KT H kvs xs) (k:List Key) {b:Addr} {y:V} {u:Value} (hb:H b=some (.tup (k.map kV))) (ry:RelV y u) :
  KT H (putK kvs k y) (storedH xs k b u):=by
 have e:(kvs.any fun kv=>decide (kv.1=k))=(atKey xs k).isSome:=by
  rw [valV_any,(r.val k).isSome_eq,xcj]
 unfold putK storedH
 rw [e]
 by_cases q:(atKey xs k).isSome=true
 ·rw [if_pos q,if_pos q]; exact r.repl k ry
 ·rw [if_neg q,if_neg q]; exact Paired.snoc r ⟨rfl,hb,ry⟩
theorem KT.keeps {H H':Hp} {kvs:List (List Key × V)} {xs:List (List Key × Addr × Value)} (r:KT H kvs xs) (ht:∀ b ys,H b=some (.tup ys)->H' b=some (.tup ys)):KT H' kvs xs :=
 Paired.mapP r fun _ _ z=>⟨z.1,ht _ _ z.2.1,z.2.2⟩
section
variable {P:Program} {w:World} {H:Hp} {h:Heap} {a:Addr}
theorem rd_of {u:HO} (ok:HOk P w H h) (e:Rd H a u):ObjOk P w H h a u:=e.ok ok
theorem dk_rd {kvs:List (Key × V)} (ok:HOk P w H h) (e:Rd H a (.dK kvs)):kvs.length<=sizeLine/\(a == sysModules)=false/\∃ vs,KV kvs vs/\h.DictOf (mixKind P w) a vs :=
 show ObjOk P w H h a (.dK kvs) from rd_of ok e
theorem dk_of {kvs:List (Key × V)} (ok:HOk P w H h) (e:H a=some (.dK kvs)):kvs.length<=sizeLine/\(a == sysModules)=false/\∃ vs,KV kvs vs/\h.DictOf (mixKind P w) a vs:=dk_rd ok (.inl e)
theorem key_of {ks:List Key} (ok:HOk P w H h) (e:H a=some (.tup (ks.map kV))):(tupleKind (mixKind P w)).is h ks a:=by
 obtain ⟨_,its,r,o,h1,h2,n,h3⟩:=(show ObjOk P w H h a (.tup (ks.map kV)) from ok a _ e)
 exact ⟨o,its.toArray,n,h1,h2,h3,by simpa using items_are r⟩
theorem dt_rd {kvs:List (List Key × V)} (ok:HOk P w H h) (e:Rd H a (.dT kvs)):kvs.length<=sizeLine/\(a == sysModules)=false /\
  ∃ xs,KT H kvs xs/\h.DictOfH (tupleKind (mixKind P w)) a xs:=by
 obtain ⟨z,y,xs,r,o,es,ep,h1,h2,h3,h4,h5⟩:=(show ObjOk P w H h a (.dT kvs) from rd_of ok e)
 refine ⟨z,y,xs,r,o,es,ep,h1,h2,h3,h4,fun x hx=>?_,h5⟩
 have all:∀ {l:List (List Key × V)} {m:List (List Key × Addr × Value)},KT H l m->∀ x∈m,(tupleKind (mixKind P w)).is h x.1 x.2.1:=by
  intro l m q
  induction q with
  | nil=>intro x hx; exact nomatch hx
  | @cons p q ps qs hq t ih =>
   intro x hx
   rcases xag.mp hx with e | hx
   ·subst e
    exact key_of ok (by rw [<- hq.1]; exact hq.2.1)
   ·exact ih x hx
 exact all r x hx
theorem dt_of {kvs:List (List Key × V)} (ok:HOk P w H h) (e:H a=some (.dT kvs)):kvs.length<=sizeLine/\(a == sysModules)=false /\
  ∃ xs,KT H kvs xs/\h.DictOfH (tupleKind (mixKind P w)) a xs:=dt_rd ok (.inl e)
end
def DGet (H:Hp) (a:Addr) (y:V) (r:Option V):Prop :=
 (∃ kvs k,Rd H a (.dK kvs)/\y=kV k/\r=valV kvs k)\/∃ kvs k b,Rd H a (.dT kvs)/\y=.ref b/\H b=some (.tup (k.map kV))/\r=valV kvs k
def DPut (H:Hp) (a:Addr) (y v:V) (H':Hp):Prop :=
 (∃ kvs k,H a=some (.dK kvs)/\y=kV k/\kvs.length<sizeLine/\H'=upd H a (.dK (putK kvs k v))) \/
 ∃ kvs k b,H a=some (.dT kvs)/\y=.ref b/\H b=some (.tup (k.map kV))/\kvs.length<sizeLine/\H'=upd H a (.dT (putK kvs k v))
theorem DGet.k {H:Hp} {a:Addr} {kvs:List (Key × V)} {k:Key} (e:H a=some (.dK kvs)):DGet H a (kV k) (valV kvs k):=.inl ⟨kvs,k,.inl e,rfl,rfl⟩
theorem DGet.t {H:Hp} {a b:Addr} {kvs:List (List Key × V)} {k:List Key} (e:H a=some (.dT kvs)) (eb:H b=some (.tup (k.map kV))):DGet H a (.ref b) (valV kvs k):=.inr ⟨kvs,k,b,.inl e,rfl,eb,rfl⟩
theorem DPut.k {H:Hp} {a:Addr} {kvs:List (Key × V)} {k:Key} {v:V} (e:H a=some (.dK kvs)) (hl:kvs.length<sizeLine):DPut H a (kV k) v (upd H a (.dK (putK kvs k v))):=.inl ⟨kvs,k,e,rfl,hl,rfl⟩
theorem DPut.t {H:Hp} {a b:Addr} {kvs:List (List Key × V)} {k:List Key} {v:V} (e:H a=some (.dT kvs)) (eb:H b=some (.tup (k.map kV))) (hl:kvs.length<sizeLine) :
  DPut H a (.ref b) v (upd H a (.dT (putK kvs k v))):=.inr ⟨kvs,k,b,e,rfl,eb,hl,rfl⟩
section
variable {X:Cx} {pins:List (Addr × Obj)} {σ:St} {H:Hp} {s:Shared} {a:Addr} {y v:V} {u r:Value} {o:Option V} {A:Around} {E:Value->Shared->Prop}
theorem Inv.big (I:Inv X pins σ H s):sysModules<s.heap.objs.size:=by
 have h:mainGlobals<s.heap.objs.size:=(I.mod.glob.keeps I.bk).lt
 exact xco (by decide) h
theorem d_getItem {Q:Value->Shared->Prop} (hu:A.units+1<cLine) (I:Inv X pins σ H s) (g:DGet H a y (some v)) (ry:RelV y u) (h:∀ w' s',Inv X pins σ H s'->RelV v w'->Q w' s') :
  wpAny (model X.prog X.w) A (getItem (.ref a) u) Q E s:=by
 rcases g with ⟨kvs,k,e,ey,l⟩ | ⟨kvs,k,b,e,ey,eb,l⟩
 ·subst ey
  obtain ⟨z,hd,vs,rel,dd⟩:=dk_rd I.hok e
  obtain ⟨w',hw,rw'⟩:=RelO.some_of (v:=v) (o:=valueAt vs k) (by rw [l]; exact rel.val k)
  exact wpAny_getItem_of (kV_is ry) dd.mapOf hw (h w' _ (I.tok _) rw')
 ·subst ey
  cases (show u=Value.ref b from ry)
  obtain ⟨z,hd,xs,rel,dd⟩:=dt_rd I.hok e
  obtain ⟨w',hw,rw'⟩:=RelO.some_of (v:=v) (o:=(atKey xs k).map (·.2)) (by rw [l]; exact rel.val k)
  obtain ⟨p,hp,hp2⟩:=xbK.mp hw
  refine wpAny_getItem_heap (tupleKind_room_in1 hu) (key_of I.hok eb) dd hp ?_
  rw [hp2]
  exact h w' _ (I.tok _) rw'
theorem d_in {Q:Value->Shared->Prop} (hu:A.units+1<cLine) (I:Inv X pins σ H s) (g:DGet H a y o) (ry:RelV y u) (h:∀ s',Inv X pins σ H s'->Q (.bool o.isSome) s') :
  wpAny (model X.prog X.w) A (compareOp .In u (.ref a)) Q E s:=by
 rcases g with ⟨kvs,k,e,ey,l⟩ | ⟨kvs,k,b,e,ey,eb,l⟩
 ·subst ey
  obtain ⟨z,hd,vs,rel,dd⟩:=dk_rd I.hok e
  refine wpAny_in_of (kV_is ry) hd dd.mapOf ?_
  rw [<- (rel.val k).isSome_eq,<- l]
  exact h _ (I.tok _)
 ·subst ey
  cases (show u=Value.ref b from ry)
  obtain ⟨z,hd,xs,rel,dd⟩:=dt_rd I.hok e
  refine wpAny_in_heap (tupleKind_room_in1 hu) (key_of I.hok eb) hd dd ?_
  have q:=(rel.val k).isSome_eq
  rw [xcj] at q
  rw [<- q,<- l]
  exact h _ (I.tok _)
theorem d_notIn {Q:Value->Shared->Prop} (hu:A.units+1<cLine) (I:Inv X pins σ H s) (g:DGet H a y o) (ry:RelV y u) (h:∀ s',Inv X pins σ H s'->Q (.bool (!o.isSome)) s') :
  wpAny (model X.prog X.w) A (compareOp .NotIn u (.ref a)) Q E s:=by
 rcases g with ⟨kvs,k,e,ey,l⟩ | ⟨kvs,k,b,e,ey,eb,l⟩
 ·subst ey
  obtain ⟨z,hd,vs,rel,dd⟩:=dk_rd I.hok e
  refine wpAny_notIn_of (kV_is ry) hd dd.mapOf ?_
  rw [<- (rel.val k).isSome_eq,<- l]
  exact h _ (I.tok _)
 ·subst ey
  cases (show u=Value.ref b from ry)
  obtain ⟨z,hd,xs,rel,dd⟩:=dt_rd I.hok e
  refine wpAny_notIn_heap (tupleKind_room_in1 hu) (key_of I.hok eb) hd dd ?_
  have q:=(rel.val k).isSome_eq
  rw [xcj] at q
  rw [<- q,<- l]
  exact h _ (I.tok _)
theorem d_write {h':Heap} {t':Nat} {ob:HO} (I:Inv X pins σ H s) (mu:Mut (H a)) (hs:Heap.SameBut a s.heap h') (he:∃ q,h'.get? a=some q) (new:ObjOk X.prog X.w (upd H a ob) h' a ob) :
  Inv X pins σ (upd H a ob) { s with heap:=h',toks:=t' } :=
 I.write (x:=a) (e:=a) mu (.inl rfl) (fun b q hb z=>(hs.2 b hb).trans z) he new
theorem dk_new {P:Program} {w:World} {H':Hp} {h':Heap} {kvs:List (Key × V)} {vs:List (Key × Value)} (z:kvs.length<=sizeLine) (hd:(a == sysModules)=false) (rel:KV kvs vs) (dd:h'.DictOf (mixKind P w) a vs) :
  ObjOk P w H' h' a (.dK kvs):=⟨z,hd,vs,rel,dd⟩
theorem d_setItem {H':Hp} {Q:Unit->Shared->Prop} (hu:A.units+1<cLine) (I:Inv X pins σ H s) (g:DPut H a y v H') (ry:RelV y u) (rv:RelV v r) (h:∀ s',Inv X pins σ H' s'->Q () s') :
  wpAny (model X.prog X.w) A (setItem (.ref a) u r) Q E s:=by
 rcases g with ⟨kvs,k,e,ey,l,eH⟩ | ⟨kvs,k,b,e,ey,eb,l,eH⟩
 ·subst ey eH
  obtain ⟨z,hd,vs,rel,dd⟩:=dk_of I.hok e
  have hz:vs.length<=sizeLine:=by rw [<- rel.length]; exact z
  have hl:(putK kvs k v).length<=sizeLine:=by have:=length_putK kvs k v; walk_at "s1"
  refine wpAny_setItem_pairs (hsz:=hz) (kV_is ry) dd fun h' dd' hs=>h _ ?_
  have he:∃ q,h'.get? a=some q:=let ⟨q,_,_,hq,_⟩:=dd'; ⟨q,hq⟩
  exact d_write I (by rw [e]; exact True.intro) hs he (dk_new hl hd (rel.put k rv) dd')
 ·subst ey eH
  cases (show u=Value.ref b from ry)
  obtain ⟨z,hd,xs,rel,dd⟩:=dt_of I.hok e
  have hz:xs.length<=sizeLine:=by rw [<- Paired.length rel]; exact z
  have hl:(putK kvs k v).length<=sizeLine:=by have:=length_putK kvs k v; walk_at "s1"
  refine wpAny_setItem_heap (hsz:=hz) (tupleKind_room_in1 hu) (key_of I.hok eb) dd fun h' dd' hs=>h _ ?_
  obtain ⟨q,es,ep,hq,h2,h3,h4,_,h5⟩:=dd'
  refine d_write I (by rw [e]; exact True.intro) hs ⟨q,hq⟩ ⟨hl,hd,_,(rel.put k eb rv).keeps fun c ys ec=>?_,q,es,ep,hq,h2,h3,h4,h5⟩
  rw [upd_ne (ne_of ec e (fun z=>nomatch z))]
  exact ec
end
section
variable {X:Cx} {pins:List (Addr × Obj)} {σ:St} {H:Hp} {s:Shared} {a:Addr} {kvs:List (Key × V)} {A:Around} {E:Value->Shared->Prop}
theorem d_len {Q:Value->Shared->Prop} (I:Inv X pins σ H s) (e:Rd H a (.dK kvs)) (h:∀ t s',Inv X pins σ H s'->Q (.int kvs.length t) s'):wpAny (model X.prog X.w) A (call (.builtin "len") [.ref a]) Q E s:=by
 obtain ⟨z,hd,vs,rel,dd⟩:=dk_rd I.hok e
 refine call_len_dict hd dd (by rw [<- rel.length]; rw [sizeLine_eq] at z; lia) ?_
 rw [<- rel.length]
 exact h _ _ (I.tok _)
end
theorem dict_typeIs {X:Cx} {pins:List (Addr × Obj)} {σ:St} {H:Hp} {s:Shared} {a:Addr} {y:V} {o:Option V} (I:Inv X pins σ H s) (g:DGet H a y o):s.TypeIs (.ref a) "dict" := by
 rcases g with ⟨kvs,k,e,_,_⟩ | ⟨kvs,k,b,e,_,_,_⟩
 ·obtain ⟨_,_,vs,_,dd⟩:=dk_rd I.hok e
  exact dd.typeIs
 ·obtain ⟨_,_,xs,_,dd⟩:=dt_rd I.hok e
  exact dd.typeIs
def sDPut (td ty tv:TE):TS:=fun D σ H=>tv σ H fun v H1=>td σ H1 fun x H2=>ty σ H2 fun y H3=>∃ a H4,x=.ref a/\DPut H3 a y v H4/\D.nx σ H4
section
variable {X:Cx} {o i value:Expr} {pos pos':Pos} {td ty tv:TE}
theorem ps_dput (hu:X.A.units+1<cLine) (ho:PE X o td) (hi:PE X i ty) (hv:PE X value tv) (hs:swapsWith value (some (.Subscript o i pos')) pos.line X.env=pure false) :
  PS X (.Assign [.Subscript o i pos'] value pos) (sDPut td ty tv):=by
 intro pins s σ H D I h
 refine wpAny_Assign_Subscript (thn (hv pins s σ H _ I h) fun r s1 hx5=>L2.ex2 hx5 fun v H1 I1 rv q1=>thn (ho pins s1 σ H1 _ I1 q1) fun u s2 hx5=>L2.ex2 hx5 fun x H2 I2 rx q2=>thn (hi pins s2 σ H2 _ I2 q2) fun iv s3 hx9=>?_) hs
 obtain ⟨y,H3,I3,ry,a,H4,ex,g,q3⟩:=hx9
 subst ex
 obtain rfl:u=Value.ref a:=rx
 exact d_setItem hu I3 g ry rv fun s4 I4=>⟨σ,H4,I4,q3⟩
end
theorem dt_empty {P:Program} {w:World} {H:Hp} (h:Heap) (hb:sysModules<h.objs.size):ObjOk P w H (h.push { cls:=.type "dict",data:=.dict #[] }) h.objs.size (.dT []) :=
 ⟨xaz _,beq_eq_false_iff_ne.mpr (Ne.symm (xat hb)),[],.nil,_,#[],0,xao _ rfl,⟨rfl,rfl,rfl⟩,rfl,rfl,xaQ⟩
def tDNewT:TE:=fun _ H Q=>∀ p,H p=none->Q (.ref p) (upd H p (.dT []))
section
variable {X:Cx} {pos:Pos}
theorem pe_dnewT:PE X (.Dict [] [] pos) tDNewT:=fun pins s σ H Q I h =>
 wpAny_Dict_empty ⟨.ref s.heap.objs.size,_,I.laid (a:=s.heap.objs.size) (o:=.dT []) (t':=s.toks) (fun _ _ q=>xae _ q) (xah _) (dt_empty s.heap I.big),rfl,h _ (I.hok.fresh (xah _))⟩
end
structure M1 (X:Cx) (o:Expr) (m:Str) (apos:Pos) (e:Expr) (cpos:Pos):Prop where
 base:attributeBase o m X.env (eval o X.env)=eval o X.env
 few:((backTo cpos (starEach [e] X.env)).all (fun x=>!x.1) && (backToKw cpos (keywordEach [] X.env)).all (fun x=>x.1.isSome)
  && decide (([e]:List Expr).length+([]:List Keyword).length+(if ([]:List Keyword).isEmpty then 0 else 1)<30))=true
 line:(apos.endLine == cpos.line)=true
 trees:backTo cpos (starEach [e] X.env)=[(false,eval e X.env)]
structure M2 (X:Cx) (o:Expr) (m:Str) (apos:Pos) (e f:Expr) (cpos:Pos):Prop where
 base:attributeBase o m X.env (eval o X.env)=eval o X.env
 few:((backTo cpos (starEach [e,f] X.env)).all (fun x=>!x.1) && (backToKw cpos (keywordEach [] X.env)).all (fun x=>x.1.isSome)
  && decide (([e,f]:List Expr).length+([]:List Keyword).length+(if ([]:List Keyword).isEmpty then 0 else 1)<30))=true
 line:(apos.endLine == cpos.line)=true
 trees:backTo cpos (starEach [e,f] X.env)=[(false,eval e X.env),(false,eval f X.env)]
end L2
namespace Att
open PySem PySem.W PySem.Calls PyProof.Rows
theorem ints_of_wellAll {P:Params} {h:Heap}:∀ (ns:List Int) (vs:List Value),WellAll P h vs (ns.map WData.int)->IntsAre vs ns:=by
 intro ns
 induction ns with
 | nil =>
  intro vs w
  rw [List.map_nil] at w
  cases w
  exact .nil
 | cons n ns ih =>
  intro vs w
  rw [xap] at w
  cases w with
  | cons a b =>
   cases a
   exact .cons _ _ (ih _ b)
theorem script_of {l:OpenLaw} {n:Nat} (hn:l.most=some n) {P:Params} {h:Heap} {args:List WData} {vals:List Value}
  (hpre:l.row.toRowW.claim.pre args=true) (hwl:WellAll P h vals args) :
  ∃ a vs ns,vals=[Value.ref a]/\args=[WData.list (ns.map WData.int)]/\h.get? a=some { cls:=.type "list",data:=.seq vs.toArray }/\IntsAre vs ns/\ns.length<=n:=by
 have hsh:WShape.hasAll [] args [.list .int]=true:=(pre_splitW hpre).1
 have hc:l.pre.holds [] { args:=args }=true:=(pre_splitW hpre).2
 obtain ⟨d,r,rfl,h1,h2⟩:=hasAllW_cons hsh
 obtain rfl:=hasAllW_nil h2
 obtain ⟨xs,rfl,h3⟩:=hasW_list h1
 obtain ⟨ns,rfl⟩:=items_int h3
 have hlen:ns.length<=n:=by
  unfold OpenLaw.pre at hc
  have h4:(WTm.not (.lt (.lit (.int (n:Int))) (.len (.arg 0)))).holds [] { args:=[.list (ns.map .int)] }=true:=by
   have h4:=(holds_andW hc).1
   rw [hn] at h4
   exact h4
  have h5:=condW_of h4 (w_not (w_lt w_lit (w_len_list (w_arg rfl))))
  rw [xaf] at h5
  refine xaW fun q=>?_
  have q':(n:Int)<((ns.length:Nat):Int):=by lia
  first
   | (rw [decide_eq_true q'] at h5; exact absurd h5 (by decide))
   | (simp at h5; lia)
 cases hwl with
 | cons w1 w2 =>
  cases w2
  cases w1 with
  | list ho hall=>exact ⟨_,_,ns,rfl,rfl,ho,ints_of_wellAll ns _ hall,hlen⟩
theorem post_true (l:OpenLaw) (args:List WData):l.row.toRowW.claim.post args (.bool true) args=true :=
 postW_of (r:=l.row.toRowW) (X:=(true == true))
  (show WShape.has [] (.bool true) .bool=true by first | rfl | decide | simp [WShape.has,WShape.arms,WShape.armsAll])
  (show (WTm.eq .res (.lit (.bool true))).value [] { args:=args,res:=some (.bool true),after:=args }=some (.bool (true == true)) from w_eq_bool (w_res rfl) w_lit) rfl
theorem attach_call {l:OpenLaw} {n:Nat} {q:Program} {loose:List Str} {XP:(Str->Option Value)->Heap->Prop} {YP:World->Heap->Prop} {d:DefRec}
  (hn:l.most=some n) (hdf:d.params.defaults=[])
  (call:∀ (w:World) (s₀ s₁:Shared) (mg mb:Str->Option Value) (fa:Addr) (o:Obj) (pm cd doc:Value) (a:Addr) (vs:List Value) (ns:List Int),
   Ground q loose [] XP w s₀ mg mb s₁.heap->YP w s₁.heap ->
   s₁.heap.get? fa=some o->o.data=.func (docDef d.name d.params d.body d.scope pm cd doc)->s₁.heap.CodeRec cd d.name->mg d.name=some (.ref fa) ->
   s₁.heap.get? a=some { cls:=.type "list",data:=.seq vs.toArray }->IntsAre vs ns->ns.length<=n->s₁.gens = #[] ->
   codeAny (model l.prog w) callerA (.call (.ref fa) ⟨[.ref a],[]⟩) (fun r s'=>r=.ok (.ret (.bool true))/\OldK s₁.heap s'.heap/\s'.os=s₁.os/\AllBare s'.gens) s₁) :
  WalkO q loose XP YP l.row.toRowW d [] (fun f vs=>PySem.call f vs):=by
 intro w s₀ s₁ mg mb G Y fa o pm cd doc dV kV ho hd hcd hD hmg hg args vals as hpre hlay hrd hwl hlo
 obtain rfl:dV=.none:=Dflts.none hD hdf
 obtain rfl:kV=.none:=Dflts.noKw hD
 obtain ⟨a,vs,ns,rfl,rfl,hobj,hints,hlen⟩:=script_of hn hpre hwl
 refine enter_call (codeAny_mono (call w s₀ s₁ mg mb fa o pm cd doc a vs ns G Y ho (fd_plain hd) hcd hmg hobj hints hlen hg) fun r s' hq=>?_)
 obtain ⟨rfl,h2,h3,h4⟩:=hq
 exact ⟨.inl ⟨.bool true,.bool true,[],rfl,fun _=>rfl,.bool true,post_true l _,fun _=>⟨List.Pairwise.nil,fun _ hm=>(nomatch hm)⟩⟩,h2,h3,h4⟩
end Att
namespace L2
open PySem PySem.Spec PyProof.Rows
theorem vals_ints:∀ {vs:List Value} {ns:List Int},IntsAre vs ns->Vals (ns.map V.int) vs
 | _,_,.nil=>.nil
 | _,_,.cons n t h=>.cons ⟨t,rfl⟩ (vals_ints h)
def Only (H:Hp):Prop:=∀ b,H b=none\/∃ o xs,H b=some (.frz o (.lst xs))
theorem law_call {P:Program} {w:World} {K:PySem.W.Frag} {mg mb:Str->Option Value} {CX:CXT} {k:Nat} {fa a:Addr} {fd:FuncData} {x:Str} {sp:Sp} {s₁:Shared} {vs:List Value} {ns:List Int}
  (KX:K.In s₁.heap) (hns:s₁.heap.Ns mainGlobals mg) (hb:s₁.heap.Ns builtinsNs mb) (hbb:∀ x:Str,x ≠ "__name__"->mb x=bootBuiltins x) (hlim:s₁.heap.NoLimit) (hg:s₁.gens = #[])
  (ha:s₁.heap.get? a=some { cls:=.type "list",data:=.seq vs.toArray }) (hi:IntsAre vs ns) (hl:ns.length<=sizeLine) (hr:Room k callerA)
  (F:∀ base:Heap,K.In base->base.Ns mainGlobals mg->FnOk P w K mg base CX k fa fd [x] sp) (hbind:∀ (s:Shared) (u:Value),BindsTo s fd ⟨[u],[]⟩ [(x,u)])
  (hsp:∀ H:Hp,Only H->SqL K H a (ns.map V.int)->sp [.ref a] H (fun v _=>v=.bl true) fun _ _ _=>False)
  (hCX:∀ H e s',CX [] H s₁ (fun _ _ _=>False) e s'->False) :
  codeAny (model P w) callerA (.call (.ref fa) ⟨[.ref a],[]⟩) (fun r s'=>r=.ok (.ret (.bool true))/\OldK s₁.heap s'.heap/\s'.os=s₁.os/\AllBare s'.gens) s₁:=by
 have rv:=vals_ints hi
 have lenV:=hi.length
 -- from an abstract heap in which nothing but the script may be tracked
 have core:∀ H:Hp,Only H->SqL K H a (ns.map V.int)->HOk P w H s₁.heap->(∀ b,H b≠none->b=a)->(H a≠none->K.lookup a=none) ->
   codeAny (model P w) callerA (.call (.ref fa) ⟨[.ref a],[]⟩) (fun r s'=>r=.ok (.ret (.bool true))/\OldK s₁.heap s'.heap/\s'.os=s₁.os/\AllBare s'.gens) s₁:=by
  intro H hO hS hok hA hK
  have base_of:∀ {b:Addr} {o:Obj},s₁.heap.get? b=some o->H b=none->(hidT s₁.heap H).get? b=some o:=fun e n=>hidT_get e n
  have noA:∀ {b:Addr} {o:Obj} {es:Array DictEntry} {ep:Nat},s₁.heap.get? b=some o->o.data=.dict es ep->H b=none:=fun {b o es ep} e d=>by
   cases q:H b with
   | none=>rfl
   | some u =>
    have e':b=a:=hA b (by rw [q]; simp)
    subst e'
    rw [ha] at e; cases e
    have d':Data.seq vs.toArray _=Data.dict es ep:=d
    cases d'
  have nsK:∀ {b:Addr} {m:Str->Option Value},s₁.heap.Ns b m->(hidT s₁.heap H).Ns b m:=fun {b m} ⟨o,es,ep,e,d,r⟩=>⟨o,es,ep,base_of e (noA e d),d,r⟩
  have hKb:K.In (hidT s₁.heap H):=fun b o e=>base_of (KX b o e) (by
   cases q:H b with
   | none=>rfl
   | some u =>
    have e':b=a:=hA b (by rw [q]; simp)
    subst e'
    rw [hK (by rw [q]; simp)] at e; cases e)
  have hM:Mod K mg (hidT s₁.heap H):=⟨hKb,nsK hns,⟨mb,nsK hb,hbb⟩,let ⟨mc,h1,h2⟩:=hlim; ⟨mc,nsK h1,h2⟩⟩
  have e0:Env0 P w K mg (hidT s₁.heap H) callerA [] s₁ H:=⟨rfl,hM,fun b o e=>of_hidT e,xbG (hidT_size _ _),trivial,fun b hb=>absurd (show b∈([]:List Addr) from hb) (by simp),hok,.of_eq hg⟩
  refine codeAny_mono ((F _ hKb (nsK hns)).run callerA [] s₁ H ⟨[.ref a],[]⟩ [.ref a] [.ref a] _ _ hr e0 (hbind s₁ (.ref a)) (.cons rfl .nil) (hsp H hO hS)) fun r s' h=>?_
  cases r with
  | error e=>exact (hCX H e s' h).elim
  | ok fl =>
   cases fl with
   | next=>exact False.elim h
   | brk=>exact False.elim h
   | cont=>exact False.elim h
   | ret u =>
    obtain ⟨v,H',os,bare,un,hok',r',q⟩:=h
    have q':v=.bl true:=q
    subst q'
    obtain rfl:u=Value.bool true:=r'
    refine ⟨rfl,OldK.of_keep fun b o e=>?_,os,bare⟩
    cases q:H b with
    | none=>exact un.keep b o e q (by intro z; exact absurd (show b∈([]:List Addr) from z) (by simp)) (by simp)
    | some u =>
     rcases hO b with z | ⟨ob,xs,z⟩
     ·rw [q] at z; cases z
     ·have z2:=un.frzs b ob _ z
      obtain ⟨e1,_⟩:=hok b _ z
      obtain ⟨e2,_⟩:=hok' b _ z2
      rw [e] at e1; cases e1
      exact e2
 cases hk:K.lookup a with
 | some o =>
  -- the script is one of the module's own objects
  have e:=KX a o hk
  rw [ha] at e
  cases e
  refine core (fun _=>none) (fun _=>.inl rfl) (.inr ⟨_,vs.toArray,_,hk,rfl,rfl,rfl,by rw [xaw,lenV]; exact hl,by simpa using rv⟩) (fun b u z=>by have z':(none:Option HO)=some u:=z; cases z') (fun b z=>absurd rfl z) fun z=>absurd rfl z
 | none =>
  refine core (fun b=>if b=a then some (.frz { cls:=.type "list",data:=.seq vs.toArray } (.lst (ns.map V.int))) else none) (fun b=>?_) (.inl (.inr ⟨{ cls:=.type "list",data:=.seq vs.toArray },if_pos rfl⟩)) (fun b u z=>?_) (fun b z=>?_) fun _=>hk
  ·by_cases hb:b=a
   ·exact .inr ⟨_,_,if_pos hb⟩
   ·exact .inl (if_neg hb)
  ·by_cases hb:b=a
   ·have z':=(if_pos hb).symm.trans z
    cases z'
    subst hb
    exact ⟨ha,by rw [xaf]; exact hl,vs,_,rv,ha⟩
   ·have z':=(if_neg hb).symm.trans z
    cases z'
  ·by_cases hb:b=a
   ·exact hb
   ·exact absurd (if_neg hb) z
theorem walk_of {l:PySem.W.OpenLaw} {n k:Nat} {q:Program} {loose:List Str} {XP:(Str->Option Value)->Heap->Prop} {YP:World->Heap->Prop} {d:DefRec} {K:Params->PySem.W.Frag} {CX:World->CXT} {sp:World->Sp} {x:Str}
  (hn:l.most=some n) (hn2:n<=sizeLine) (hdf:d.params.defaults=[]) (hr:Room k callerA)
  (hY:∀ (w:World) (h:Heap),YP w h->(K w.params).In h)
  (F:∀ (w:World) (mg:Str->Option Value) (fa:Addr) (h:Heap),(K w.params).In h->h.Ns mainGlobals mg->mg d.name=some (.ref fa) ->
   ∃ fd:FuncData,(∀ (s:Shared) (u:Value),BindsTo s fd ⟨[u],[]⟩ [(x,u)]) /\
    ∀ base:Heap,(K w.params).In base->base.Ns mainGlobals mg->FnOk l.prog w (K w.params) mg base (CX w) k fa fd [x] (sp w))
  (hsp:∀ (w:World) (H:Hp) (a:Addr) (ns:List Int),ns.length<=n->Only H->SqL (K w.params) H a (ns.map V.int)->sp w [.ref a] H (fun v _=>v=.bl true) fun _ _ _=>False)
  (hCX:∀ (w:World) (H:Hp) (s:Shared) (e:Value) (s':Shared),CX w [] H s (fun _ _ _=>False) e s'->False) :
  PySem.W.WalkO q loose XP YP l.row.toRowW d [] (fun f vs=>PySem.call f vs):=by
 refine Att.attach_call hn hdf fun w s₀ s₁ mg mb fa o pm cd doc a vs ns G Y ho hd hcd hmg hobj hints hlen hg=>?_
 have KX:=hY w _ Y
 obtain ⟨fd,hb,hF⟩:=F w mg fa _ KX G.T.g hmg
 exact law_call KX G.T.g G.T.b G.T.builtins G.T.nolimit hg hobj hints (xaq hlen hn2) hr hF hb (fun H hO hS=>hsp w H a ns hlen hO hS) fun H e s'=>hCX w H s₁ e s'
def defArgs (s:Stmt):Arguments:=match s with
 | .FunctionDef _ a _ _ _ _ _ _ _ _=>a
 | _=>{ posonlyargs:=[],args:=[],vararg:=none,kwonlyargs:=[],kw_defaults:=[],kwarg:=none,defaults:=[] }
def defBody (s:Stmt):List Stmt:=match s with
 | .FunctionDef _ _ b _ _ _ _ _ _ _=>b
 | _=>[]
def defScope (s:Stmt):Scope:=match s with
 | .FunctionDef _ _ _ _ _ _ sc _ _ _=>sc
 | _=>{ kind:=.function,names:=[],isGenerator:=false,isCoroutine:=false }
abbrev CX0:CXT:=fun _ _ _ _ _ _=>False
abbrev E0:XK:=fun _ _ _=>False
theorem pass0 {X:Cx}:Passes CX0 X E0:=fun _ _ _ _ _ _ _ h=>h.elim
structure Fun (K:PySem.W.Frag) (x qual:Str) (st:Stmt) (f:Addr) (fd:FuncData):Prop where
 ex:∃ (oc:Value) (od:Option Addr) (kV doc pm:Value) (an:Option Addr) (cdv ct:Value) (osl:Array (Option Value)),
  fd=PySem.W.fnOf x qual (defArgs st) (defBody st) (defScope st) .none kV doc pm an cdv ct/\K.lookup f=some ⟨oc,od,.func fd,osl⟩/\PySem.W.codeIn K cdv qual=true
 kp:PySem.W.keepIn K (.ref f)=true
section
variable {P:Program} {w:World} {K:PySem.W.Frag} {mg:Str->Option Value} {base:Heap}
theorem Fun.ok {x qual:Str} {st:Stmt} {f:Addr} {fd:FuncData} {N ps:List Str} {k:Nat} {sp:Sp} (F:Fun K x qual st f fd) (S:FnScope N ps (defScope st)) (len:∀ vs H Q E,sp vs H Q E->vs.length=ps.length)
  (hbody:∀ (cdv:Value) (A:Around) (outer:List Env) (s:Shared) (H:Hp) (vs:List V) (Q:VK) (E:XK),Room k (A.deeper (envOfC qual (defScope st) s.heap.objs.size f cdv))->sp vs H Q E ->
   ∃ t,PSs (cxOf CX0 P w K mg base N qual (defScope st) f cdv A outer s H E).nox (defBody st) t/\t { nx:=fun _ H'=>Q .non H',rt:=Q } (start N vs) H):FnOk P w K mg base CX0 (k+1) f fd ps sp:=by
 obtain ⟨oc,od,kV,doc,pm,an,cdv,ct,osl,rfl,lk,hcd⟩:=F.ex
 refine fn_of lk hcd S len fun A outer s H vs Q E hr hsp=>?_
 obtain ⟨t,h,q⟩:=hbody cdv A outer s H vs Q E hr hsp
 exact ⟨t,h.nox,q⟩
theorem Fun.binds {x qual:Str} {st:Stmt} {f:Addr} {fd:FuncData} {ps:List Str} (F:Fun K x qual st f fd)
  (h:∀ (kV doc pm:Value) (an:Option Addr) (cdv ct:Value) (us:List Value),us.length=ps.length->bindArgs (PySem.W.fnOf x qual (defArgs st) (defBody st) (defScope st) .none kV doc pm an cdv ct) ⟨us,[]⟩=pure (ps.zip us)):Binds K fd ps []:=by
 obtain ⟨oc,od,kV,doc,pm,an,cdv,ct,osl,rfl,lk,hcd⟩:=F.ex
 exact .all (h kV doc pm an cdv ct)
theorem fun_mk {x qual:Str} {st:Stmt} {f:Addr} {oc:Value} {od an:Option Addr} {osl:Array (Option Value)} {kV doc pm cdv ct:Value} (l:K.lookup f=some ⟨oc,od,.func (PySem.W.fnOf x qual (defArgs st) (defBody st) (defScope st) .none kV doc pm an cdv ct),osl⟩)
  (c:PySem.W.codeIn K cdv qual=true) (k:PySem.W.keepIn K (.ref f)=true):Fun K x qual st f (PySem.W.fnOf x qual (defArgs st) (defBody st) (defScope st) .none kV doc pm an cdv ct):=⟨⟨oc,od,kV,doc,pm,an,cdv,ct,osl,rfl,l,c⟩,k⟩
end
section
variable {X:Cx}
theorem pv (i:Nat) {x:Str} {pos:Pos} (hN:X.N[i]? = some x:=by rfl) (hv:Vis X.env.scope x:=by first | exact Or.inl rfl | exact Or.inr (Or.inl rfl) | exact Or.inr (Or.inr rfl)) (hd:(x == ("__debug__" : Str))=false:=by decide)
  (hcd:(x == ("__classdict__" : Str))=false:=by decide):PE X (.Name x pos) (tVar i):=pe_var hN hv hd hcd
theorem call_lenD:CallR X (.builtin "len") (fun xs H Q=>∃ a kvs,xs=[V.ref a]/\H a=some (.dK kvs)/\Q (.int kvs.length) H):=by
 intro pins s σ H xs us Q I r h
 obtain ⟨a,kvs,rfl,ha,q⟩:=h
 obtain ⟨u,rfl,ru⟩:=vals1 r
 cases ru
 exact d_len I (.inl ha) fun t s' I'=>⟨.int kvs.length,H,I',⟨t,rfl⟩,q⟩
end
def Same (H H':Hp):Prop:=∀ b o,H b=some o->H' b=some o
theorem Same.refl (H:Hp):Same H H:=fun _ _ h=>h
theorem Same.trans {H H1 H2:Hp} (a:Same H H1) (b:Same H1 H2):Same H H2:=fun c o h=>b c o (a c o h)
theorem Same.free {H H':Hp} (e:Same H H') {l:Addr} (h:H' l=Option.none):H l=Option.none:=by
 cases q:H l with
 | none=>rfl
 | some o =>
  rw [e l o q] at h
  cases h
theorem Same.seq {K:PySem.W.Frag} {H H':Hp} {a:Addr} {xs:List V} (e:Same H H') (h:SqL K H a xs):SqL K H' a xs:=by
 rcases h with (h | ⟨o,h⟩) | h
 ·exact .inl (.inl (e _ _ h))
 ·exact .inl (.inr ⟨o,e _ _ h⟩)
 ·exact .inr h
end L2
set_option maxHeartbeats 4000000
namespace L2
open PySem PySem.Spec PyProof.Rows
def clOf (env:Env):List (Str × NameKind)->List (Str × Addr)->List (Str × Addr)
 | [],cs=>cs
 | (n,k) :: r,cs=>clOf env r (if k == NameKind.free then (n,(env.cells.lookup n).getD 0) :: cs else cs)
theorem fJ (env:Env):∀ (names:List (Str × NameKind)) (cs:List (Str × Addr)),(∀ y∈names,y.2=.free->∃ c,env.cells.lookup y.1=some c) ->
  (forIn names cs fun x r=>match x with
   | (name,kind)=>if (kind == NameKind.free)=true then do let a <- cellOf env name; pure (ForInStep.yield ((name,a) :: r)) else pure (ForInStep.yield r):Sem (List (Str × Addr)))=pure (clOf env names cs)
 | [],cs,_=>rfl
 | (n,k) :: r,cs,h=>by
  rw [List.forIn_cons]
  have ih:=fJ env r
  by_cases hk:k=.free
  ·subst hk
   obtain ⟨c,e⟩:=h (n,.free) xac rfl
   have e:env.cells.lookup n=some c:=e
   have e2:cellOf env n=pure c:=by unfold cellOf; rw [e]
   have e3:clOf env ((n,.free) :: r) cs=clOf env r ((n,c) :: cs):=by
    show clOf env r (if (NameKind.free == NameKind.free)=true then (n,(env.cells.lookup n).getD 0) :: cs else cs)=_
    rw [e]; rfl
   rw [e3,<- ih ((n,c) :: cs) fun y hy=>h y (xab _ hy)]
   simp only [beq_self_eq_true,if_true,e2]
   rfl
  ·have hb:(k == NameKind.free)=false:=by simpa using hk
   have e3:clOf env ((n,k) :: r) cs=clOf env r cs:=by
    show clOf env r (if (k == NameKind.free)=true then _ else cs)=_
    rw [hb]; rfl
   rw [e3,<- ih cs fun y hy=>h y (xab _ hy)]
   simp only [hb,xax,if_false]
   rfl
theorem kh {scope:Scope} {env:Env} (h:∀ y∈scope.names,y.2=.free->∃ c,env.cells.lookup y.1=some c):closureFor scope env=pure (clOf env scope.names []):=by
 have:=fJ env scope.names [] h
 unfold closureFor
 rw [<- bind_pure (forIn scope.names [] _)] at this
 exact this
theorem lq {env:Env} {x:Str} {c:Addr}:∀ {names:List (Str × NameKind)} {cs:List (Str × Addr)},(∀ y∈names,y.2=.free->∃ c,env.cells.lookup y.1=some c)->(∀ y d,cs.lookup y=some d->env.cells.lookup y=some d) ->
  (clOf env names cs).lookup x=some c->env.cells.lookup x=some c
 | [],cs,_,h,e=>h x c e
 | (n,k) :: r,cs,hf,h,e=>by
  refine lq (names:=r) (fun y hy=>hf y (xab _ hy)) ?_ e
  intro y d hd
  by_cases hk:k=.free
  ·subst hk
   obtain ⟨c',e'⟩:=hf (n,.free) xac rfl
   have e':env.cells.lookup n=some c':=e'
   simp only [beq_self_eq_true,if_true,e',Option.getD_some,xa7] at hd
   cases hb:y == n with
   | true=>rw [hb] at hd; have:y=n:=eq_of_beq hb; subst this; rw [e']; exact hd
   | false=>rw [hb] at hd; exact h y d hd
  ·have hb:(k == NameKind.free)=false:=by simpa using hk
   simp only [hb,xax,if_false] at hd
   exact h y d hd
theorem iC {env:Env} {x:Str}:∀ {names:List (Str × NameKind)} {cs:List (Str × Addr)},((x,NameKind.free)∈names\/∃ c,cs.lookup x=some c)->∃ c,(clOf env names cs).lookup x=some c
 | [],cs,h=>by
  rcases h with h | h
  ·exact nomatch h
  ·exact h
 | (n,k) :: r,cs,h=>by
  refine iC (names:=r) ?_
  rcases h with h | ⟨c,h⟩
  ·rcases xag.mp h with e | h
   ·cases e
    refine .inr ⟨(env.cells.lookup x).getD 0,?_⟩
    simp only [beq_self_eq_true,if_true,xa7]
   ·exact .inl h
  ·refine .inr ?_
   by_cases hk:(k == NameKind.free)=true
   ·simp only [hk,if_true,xa7]
    cases hb:x == n with
    | true=>exact ⟨_,rfl⟩
    | false=>exact ⟨c,h⟩
   ·simp only [hk,if_false]
    exact ⟨c,h⟩
def a_ (X:Cx) (scope:Scope) (C:Addr) (N:List Str) (fp:List Addr) (s₃:Shared) (H₃:Hp):Cx :=
 { X with N:=N,s₀:=s₃,H₀:=H₃,env:=compEnvC scope (clOf X.env scope.names []) C X.env,outer:=X.stack,stack:=X.stack,ex:=fp,fn:=fun _=>false,pn:=[],xe:=fun _ _=>False }
def PTs (X:Cx) (ifs:List Expr) (t:TT):Prop :=
 ∀ (pins:List (Addr × Obj)) (s:Shared) (σ:St) (H:Hp) (Q:Bool->Hp->Prop),Inv X pins σ H s->t σ H Q ->
  wpAny (model X.prog X.w) X.A (forIn ifs true fun c r=>if r=true then do let ok <- isTrue c X.env (eval c X.env); pure (ForInStep.yield ok) else pure (ForInStep.yield r)) (TP X pins σ Q) X.xe s
def tYes:TT:=fun _ H Q=>Q true H
theorem yM {X:Cx}:PTs X [] tYes:=fun _ _ _ H _ I h=>wpAny_tests_nil ⟨H,I,h⟩
theorem zQ {X:Cx} {c:Expr} {t:TT} (h:PT X c t):PTs X [c] t:=fun pins s σ H Q I hw=>wpAny_tests_one (h pins s σ H Q I hw)
theorem dR {prog:Program} {w:World} {A:Around} {R:Result->Shared->Prop} {s:Shared} {elt target iter:Expr} {ifs:List Expr} {scope:Scope} {pos:Pos} {it acc:Value} {env:Env} (I:Nat->Shared->Prop) (E:Value->Shared->Prop)
  (turn:∀ n s,I n s->wpAny (model prog w) A (pyNext it) (fun r s₁=>match r with
   | none=>R (.ok .next) s₁
   | some v=>wpAny (model prog w) A (letOwnedTupleGo target it v) (fun _ s₀=>wpAny (model prog w) A (assign target env v) (fun _ s₂ =>
     wpAny (model prog w) A (forIn ifs true fun c r=>if r=true then do let ok <- isTrue c env (eval c env); pure (ForInStep.yield ok) else pure (ForInStep.yield r)) (fun ok s₃ =>
      if ok=true then wpAny (model prog w) A (eval elt env) (fun x s₄ =>
       wpAny (model prog w) A (call (.builtin "list.append") [acc,x]) (fun _ s₅=>∃ m,m<n/\I m s₅) E s₄) E s₃
      else ∃ m,m<n/\I m s₃) E s₂) E s₀) E s₁) E s)
  (hE:∀ e s',E e s'->notedBy (model prog w) A env (fun e s'=>R (.error e) s') e s')
  (n:Nat) (h:I n s) :
  codeAny (model prog w) A (.compLoop (.ListComp elt [⟨target,iter,ifs,0⟩] scope pos) 0 it acc env) R s:=by
 refine codeAny_loop rfl I (fun n s hI=>?_) n h
 show wpAny _ A ((compTurn (.ListComp elt [⟨target,iter,ifs,0⟩] scope pos) 0 it acc env).onRaise (fun x=>do noteFrame x env; theTreesLotGoes x)) _ _ s
 refine wpAny_noted ?_
 rw [compTurn_list]
 refine xa2 (Q:=_) (E:=E) ?_ (fun _ _ q=>q) hE
 refine xaa (wpAny_standAt (xaa (xa2 (turn n s hI) (fun r s₁ h₁=>?_) fun _ _ h'=>h')))
 cases r with
 | none=>exact xad h₁
 | some v =>
  refine xaa (xa2 h₁ (fun _ s₀ h₀=>?_) fun _ _ h'=>h')
  refine xaa (xa2 h₀ (fun _ s₂ h₂=>xaa (xa2 h₂ (fun ok s₃ h₃=>?_) fun _ _ h'=>h')) fun _ _ h'=>h')
  cases ok with
  | false=>exact xad ⟨rfl,h₃⟩
  | true =>
   exact xaa (xaa (xa2 h₃ (fun x s₄ h₄=>xaa (xa2 h₄ (fun _ s₅ h₅=>xad (xad ⟨rfl,h₅⟩)) fun _ _ h'=>h')) fun _ _ h'=>h'))
def jk (tn:Nat) (ix:List Nat) (σ:St):St:=List.replicate tn none++ix.map fun j=>(σ[j]?).join
def lU (wi:TI) (g:TG) (tc:TT) (te:TE) (tn:Nat) (ix:List Nat):TE:=fun σ H Q=>wi σ H fun J H1=>∀ D,H1 D=none ->
 ∃ W:Nat->Nat->St->Hp->Prop,(∃ m,W 0 m (jk tn ix σ) (upd H1 D (.lst [])))/\∀ i m τ H,W i m τ H ->
  (J.stop i H/\Q (.ref D) H)\/(J.go i H/\∃ (N1:St->V->Hp->Prop) (N2:St->Hp->Prop),
   (∀ τ2 v H4,N1 τ2 v H4->∃ ys m',H4 D=some (.lst ys)/\ys.length<sizeLine/\m'<m/\W (i+1) m' τ2 (upd H4 D (.lst (ys++[v])))) /\
   (∀ τ2 H3,N2 τ2 H3->∃ m',m'<m/\W (i+1) m' τ2 H3) /\
   ∀ x H',J.yld i H x H'->g x τ H' fun τ2 H2=>tc τ2 H2 fun b H3=>if b=true then te τ2 H3 (N1 τ2) else N2 τ2 H3)
section
variable {X:Cx} {scope:Scope} {tn cn:List Str} {ix:List Nat}
structure aO (X:Cx) (scope:Scope) (tn cn:List Str) (ix:List Nat):Prop where
 kind:scope.kind=.function
 nocell:∀ y∈scope.names,y.2≠.cell
 free:∀ y∈scope.names,y.2=.free->X.env.scope.names.lookup y.1=some .cell\/X.env.scope.names.lookup y.1=some .free
 names:∀ y∈scope.names,y.2=.local->scope.names.lookup y.1=some .local
 len:ix.length=cn.length
 cap:∀ (k j:Nat),ix[k]? = some j->∃ y,cn[k]? = some y/\X.N[j]? = some y/\(X.env.scope.names.lookup y=some .cell\/X.env.scope.names.lookup y=some .free)/\(y,NameKind.free)∈scope.names /\
  ((relabel scope X.env).names.lookup y=some .cell\/(relabel scope X.env).names.lookup y=some .free)
 all:∀ x,(relabel scope X.env).names.lookup x=some .cell\/(relabel scope X.env).names.lookup x=some .free->(x,NameKind.free)∈scope.names
end
def ceOf (scope:Scope) (env:Env) (C:Addr):List (Str × Addr):=cellsFrom (C+1) scope.names (clOf env scope.names [])
theorem sH:∀ (names:List (Str × NameKind)) (n:Nat) (acc:List (Str × Addr)),(∀ y c,acc.lookup y=some c->c<n)->(∀ x y c,acc.lookup x=some c->acc.lookup y=some c->x=y) ->
  ∀ x y c,(cellsFrom n names acc).lookup x=some c->(cellsFrom n names acc).lookup y=some c->x=y
 | [],_,_,_,hi,x,y,c,h1,h2=>hi x y c h1 h2
 | (nm,k) :: r,n,acc,hb,hi,x,y,c,h1,h2=>by
  unfold cellsFrom at h1 h2
  split at h1
  ·rename_i hk
   rw [if_pos hk] at h2
   refine sH r (n+1) ((nm,n) :: acc) (fun y c e=>?_) (fun x y c e1 e2=>?_) x y c h1 h2
   ·rw [xa7] at e
    cases hq:y == nm with
    | true=>rw [hq] at e; cases e; exact xb4 _
    | false=>rw [hq] at e; exact xaI (hb y c e)
   ·rw [xa7] at e1 e2
    cases hq:x == nm with
    | true =>
     rw [hq] at e1; cases e1
     cases hz:y == nm with
     | true=>rw [eq_of_beq hq,eq_of_beq hz]
     | false=>rw [hz] at e2; exact absurd (hb y _ e2) (xa9 _)
    | false =>
     rw [hq] at e1
     cases hz:y == nm with
     | true=>rw [hz] at e2; cases e2; exact absurd (hb x _ e1) (xa9 _)
     | false=>rw [hz] at e2; exact hi x y c e1 e2
  ·rename_i hk
   rw [if_neg hk] at h2
   exact sH r n acc hb hi x y c h1 h2
theorem oR:∀ (names:List (Str × NameKind)) (n:Nat) (acc:List (Str × Addr)) (x:Str),(x,NameKind.cell)∉names->(cellsFrom n names acc).lookup x=acc.lookup x
 | [],_,_,_,_=>rfl
 | (nm,k) :: r,n,acc,x,h=>by
  unfold cellsFrom
  have hr:(x,NameKind.cell)∉r:=fun z=>h (xab _ z)
  split
  ·rename_i hk
   rw [oR r _ _ x hr,xa7]
   have:(x == nm)=false:=by
    cases hq:x == nm with
    | false=>rfl
    | true=>exact absurd (by rw [eq_of_beq hq,<- eq_of_beq hk]; exact xac) h
   rw [this]
  ·exact oR r n acc x hr
theorem wZ:∀ (names:List (Str × NameKind)) (n:Nat) (acc:List (Str × Addr)) (x:Str) (c:Addr),(cellsFrom n names acc).lookup x=some c->n<=c\/acc.lookup x=some c
 | [],_,_,_,_,h=>.inr h
 | (nm,k) :: r,n,acc,x,c,h=>by
  unfold cellsFrom at h
  split at h
  ·rcases wZ r (n+1) _ x c h with z | z
   ·exact .inl (by lia)
   ·rw [xa7] at z
    cases hq:x == nm with
    | true=>rw [hq] at z; cases z; exact .inl (xah _)
    | false=>rw [hq] at z; exact .inr z
  ·exact wZ r n acc x c h
theorem nP:∀ (names:List (Str × NameKind)) (n:Nat) (acc:List (Str × Addr)) (x:Str),(∃ c,acc.lookup x=some c)->∃ c,(cellsFrom n names acc).lookup x=some c
 | [],_,_,_,h=>h
 | (nm,k) :: r,n,acc,x,⟨c,h⟩=>by
  unfold cellsFrom
  split
  ·refine nP r (n+1) _ x ?_
   rw [xa7]
   cases hq:x == nm with
   | true=>exact ⟨_,rfl⟩
   | false=>exact ⟨c,h⟩
  ·exact nP r n acc x ⟨c,h⟩
theorem pP:∀ (names:List (Str × NameKind)) (n:Nat) (acc:List (Str × Addr)) (x:Str),(x,NameKind.cell)∈names->∃ c,(cellsFrom n names acc).lookup x=some c/\n<=c
 | [],_,_,_,h=>nomatch h
 | (nm,k) :: r,n,acc,x,h=>by
  unfold cellsFrom
  by_cases hr:(x,NameKind.cell)∈r
  ·split
   ·obtain ⟨c,e,z⟩:=pP r (n+1) ((nm,n) :: acc) x hr
    exact ⟨c,e,by lia⟩
   ·exact pP r n acc x hr
  ·rcases xag.mp h with e | z
   ·cases e
    rw [if_pos (by rfl),oR r _ _ _ hr]
    exact ⟨n,by simp [xa7],xah _⟩
   ·exact absurd z hr
theorem iz:∀ (names:List (Str × NameKind)) (h:Heap) (acc:List (Str × Addr)),(∀ x c,acc.lookup x=some c->∃ v,h.IsCell c v)->∀ x c,(cellsFrom h.objs.size names acc).lookup x=some c->∃ v,(pushCells h names).IsCell c v
 | [],_,_,hc,x,c,e=>hc x c e
 | (nm,k) :: r,h,acc,hc,x,c,e=>by
  unfold pushCells
  unfold cellsFrom at e
  split at e
  ·rename_i hk
   rw [if_pos hk]
   refine iz r (h.push { cls:=.type "cell",data:=.cell none }) ((nm,h.objs.size) :: acc) (fun y d z=>?_) x c (by rw [xbt]; exact e)
   rw [xa7] at z
   cases hq:y == nm with
   | true=>rw [hq] at z; cases z; exact ⟨none,_,xao _ rfl,rfl⟩
   | false =>
    rw [hq] at z
    obtain ⟨v,o,ho,hd⟩:=hc y d z
    exact ⟨v,o,xae _ ho,hd⟩
  ·rename_i hk
   rw [if_neg hk]
   exact iz r h acc hc x c e
theorem cD {M:Model} {A:Around} {E:Value->Shared->Prop} {s:Shared} {scope:Scope} {globals:Addr} {cl:List (Str × Addr)} {qual:Str} {env:Env} {Q:Env->Shared->Prop}
  (hc:∀ x c,cl.lookup x=some c->∃ v,s.heap.IsCell c v)
  (hQ:∀ h',h'.Ns s.heap.objs.size (fun _=>none)->(∀ b o,s.heap.get? b=some o->h'.get? b=some o)->(∀ x c,(cellsFrom (s.heap.objs.size+1) scope.names cl).lookup x=some c->∃ v,h'.IsCell c v) ->
   Q (newEnv scope s.heap.objs.size globals (cellsFrom (s.heap.objs.size+1) scope.names cl) qual none .none (some env) builtinsNs) { s with heap:=h' }) :
  wpAny M A (newFunctionEnv scope globals cl [] qual none .none (some env)) Q E s:=by
 simp only [newFunctionEnv,Option.isSome_some,if_true]
 refine xaa (wpAny_alloc ?_)
 refine xaa (wpAny_layCells _ (fun name kind cells=>by cases hkc:kind == NameKind.cell <;> simp [hkc]) _ _ _ _ ?_)
 rw [show ({ s with heap:=s.heap.push { cls:=.type "dict",data:=.dict #[] } }:Shared).heap.objs.size=s.heap.objs.size+1 from xbt ..]
 refine xaa ?_
 rw [List.forIn_nil]
 refine xad (xad (hQ _ ((Heap.Ns.new s.heap (.type "dict")).keeps (pushCells_keeps _ _)) (fun b o e=>pushCells_keeps _ _ b o (xae _ e)) fun x c e=>?_))
 refine iz scope.names (s.heap.push { cls:=.type "dict",data:=.dict #[] }) cl (fun y d z=>?_) x c (by rw [xbt]; exact e)
 obtain ⟨v,o,ho,hd⟩:=hc y d z
 exact ⟨v,o,xae _ ho,hd⟩
def aF (X:Cx) (scope:Scope) (C:Addr) (N:List Str) (fp:List Addr) (s₃:Shared) (H₃:Hp):Cx :=
 { X with N:=N,s₀:=s₃,H₀:=H₃,env:=compEnvC scope (ceOf scope X.env C) C X.env,outer:=X.stack,stack:=X.stack,ex:=fp,fn:=fun x=>scope.names.lookup x == some .cell,pn:=[],xe:=fun _ _=>False }
section
variable {X:Cx} {tg iter elt:Expr} {ifs:List Expr} {scope:Scope} {pos:Pos} {wi:TI} {g:TG} {tc:TT} {te:TE} {tn cn:List Str} {ix:List Nat}
structure di (X:Cx) (scope:Scope) (tn cn:List Str) (ix:List Nat):Prop where
 kind:scope.kind=.function
 free:∀ y∈scope.names,y.2=.free->X.env.scope.names.lookup y.1=some .cell\/X.env.scope.names.lookup y.1=some .free
 names:∀ y∈scope.names,y.2=.local->scope.names.lookup y.1=some .local
 len:ix.length=cn.length
 cap:∀ (k j:Nat),ix[k]? = some j->∃ y,cn[k]? = some y/\X.N[j]? = some y/\(X.env.scope.names.lookup y=some .cell\/X.env.scope.names.lookup y=some .free)/\(y,NameKind.free)∈scope.names /\
  ((relabel scope X.env).names.lookup y=some .cell\/(relabel scope X.env).names.lookup y=some .free)/\(y,NameKind.cell)∉scope.names
 all:∀ x,(relabel scope X.env).names.lookup x=some .cell\/(relabel scope X.env).names.lookup x=some .free->(x,NameKind.free)∈scope.names\/(x,NameKind.cell)∈scope.names
theorem qw {pins:List (Addr × Obj)} {σ:St} {H:Hp} {s:Shared} {fp:List Addr} {C:Addr} (O:di X scope tn cn ix) (I:Inv X pins σ H s) (hf:∀ b∈fp,FpOk X pins H b) (hfs:∀ b∈fp,b<s.heap.objs.size) (hC:s.heap.objs.size<=C) :
  (aF X scope C (tn++cn) fp s H).Ok:=by
 have hcl:∀ y∈scope.names,y.2=.free->∃ c,X.env.cells.lookup y.1=some c:=fun y hy hk=>I.ok.has y.1 (O.free y hy hk)
 have sub:∀ x c,(clOf X.env scope.names []).lookup x=some c->X.env.cells.lookup x=some c:=fun x c e=>lq hcl (fun y d h=>by simp at h) e
 have clt:∀ x c,(clOf X.env scope.names []).lookup x=some c->c<C+1:=fun x c e=>by
  obtain ⟨v,hv⟩:=I.cell x c (sub x c e)
  exact xaI (xav hv.lt hC)
 refine ⟨I.ok.mod,O.kind,I.ok.glob,I.ok.blt,hC,sH _ _ _ clt fun x y c h1 h2=>I.ok.inj x y c (sub x c h1) (sub y c h2),fun x hx=>?_,fun x c h e=>?_,I.ok.hd,I.ok.frames,.inl rfl,fun b hb=>⟨?_,fun x c e=>?_⟩,
  I.bs,xaq I.ok.bsz I.sz,fun b o e hb=>?_,fun b hb=>?_,I.stack,I.stkFree⟩
 ·rcases O.all x hx with z | z
  ·exact nP _ _ _ _ (iC (.inl z))
  ·obtain ⟨c,e,_⟩:=pP scope.names (C+1) (clOf X.env scope.names []) x z
   exact ⟨c,e⟩
 ·have h:scope.names.lookup x=some .cell:=eq_of_beq h
  obtain ⟨c',e',z⟩:=pP scope.names (C+1) (clOf X.env scope.names []) x (PySem.mem_of_lookup h)
  have e:(ceOf scope X.env C).lookup x=some c:=e
  unfold ceOf at e
  rw [e'] at e
  cases e
  exact xaq hC (xbY z)
 ·exact xat (xav (hfs b hb) hC)
 ·rcases wZ _ _ _ _ _ e with z | z
  ·exact xbW (xav (hfs b hb) (xaq hC (xbY z)))
  ·exact (hf b hb).2.2.2.2.1 x c (sub x c z)
 ·rcases (hf b hb).2.2.2.1 with z | z
  ·exact I.ok.noex b o e z
  ·exact absurd (xav (xan e) (xaq I.ok.bsz z)) (xa9 _)
 ·intro hz
  rcases xag.mp (I.stkSub b hz) with e | e
  ·exact (hf b hb).2.1 e
  ·exact (hf b hb).2.2.1 e
theorem l_ {pos1:Pos} {use:Option (Value->Sem Unit)} {P:Value->Shared->Prop} (hc:X.calm=true) (hi:PI X tg iter wi) (O:di X scope tn cn ix)
  (hg:∀ C fp s₃ H₃,PG (aF X scope C (tn++cn) fp s₃ H₃) tg g) (hcs:∀ C fp s₃ H₃,PTs (aF X scope C (tn++cn) fp s₃ H₃) ifs tc) (he:∀ C fp s₃ H₃,PE (aF X scope C (tn++cn) fp s₃ H₃) elt te)
  (hs:∀ x,foldedSetIterable iter X.env x=pure x) {pins:List (Addr × Obj)} {s:Shared} {σ:St} {H:Hp} {Q:V->Hp->Prop} (I:Inv X pins σ H s) (h:lU wi g tc te tn.length ix σ H Q)
  (fin:∀ (C D:Addr) (m:Str->Option Value) (H5:Hp) (s6:Shared) (r:Flow),Inv X pins σ H5 s6->s6.heap.Ns C m->H5 C=none->FpOk X pins H5 C->Q (.ref D) H5->compPost (model X.prog X.w) X.A X.xe use P (.ref D) C (.ok r) s6) :
  wpAny (model X.prog X.w) X.A (comprehension (.ListComp elt [⟨tg,iter,ifs,0⟩] scope pos) scope X.env pos1 (newList []) false (eval iter X.env) use) P X.xe s:=by
 have hcl:∀ y∈scope.names,y.2=.free->∃ c,X.env.cells.lookup y.1=some c:=fun y hy hk=>I.ok.has y.1 (O.free y hy hk)
 have sub:∀ x c,(clOf X.env scope.names []).lookup x=some c->X.env.cells.lookup x=some c:=fun x c e=>lq hcl (fun y d h=>by simp at h) e
 refine wpAny_comprehension_free (use:=use) rfl hs (kh hcl) O.kind O.names (thn (hi pins s σ H _ I h) fun v s1 h1=>thn h1 fun itv s2 h2=>?_)
 obtain ⟨it,fp,tnn,J,H2,e,I2,T,st2,f2,h2⟩:=h2
 subst e
 obtain ⟨W,⟨m0,w0⟩,turn⟩:=h2 s2.heap.objs.size (I2.hok.fresh (xah _))
 refine wpAny_newObj_type ?_
 have I3:Inv X pins σ (upd H2 s2.heap.objs.size (.lst [])) { s2 with heap:=s2.heap.push { cls:=.type "list",data:=.seq ([]:List Value).toArray } }:=I2.lnew (its:=[]) (t':=s2.toks) .nil (xaz _)
 generalize hD:s2.heap.objs.size=D at *
 generalize hs3:({ s2 with heap:=s2.heap.push { cls:=.type "list",data:=.seq ([]:List Value).toArray } }:Shared)=s3 at *
 have k23:∀ b o,s2.heap.get? b=some o->s3.heap.get? b=some o:=fun b o e=>by rw [<- hs3]; exact xae _ e
 have sz3:s3.heap.objs.size=D+1:=by rw [<- hs3,<- hD]; exact xbt ..
 have f3:∀ b∈fp,FpOk X pins (upd H2 D (.lst [])) b:=fun b hb=>by
  obtain ⟨f0,fr⟩:=f2 b hb
  obtain ⟨o,ho,_⟩:=T.obj _ _ st2 b hb
  refine ⟨?_,fr⟩
  rw [upd_ne (xat (by rw [<- hD]; exact xan ho))]
  exact f0
 have st3:tnn 0 s3.heap:=T.keep _ _ _ st2 fun b hb o e=>k23 b o e
 have lt3:∀ b∈fp,b<s3.heap.objs.size:=fun b hb=>by
  obtain ⟨o,ho,_⟩:=T.obj _ _ st3 b hb
  exact xan ho
 refine cD (fun x c e=>I3.cell x c (sub x c e)) (fun h₁ hns₁ k34 hce=>?_)
 -- the block's context
 have ok':=qw (C:=s3.heap.objs.size) O I3 f3 lt3 (xah _)
 have I4:Inv (aF X scope s3.heap.objs.size (tn++cn) fp s3 (upd H2 D (.lst []))) [] (jk tn.length ix σ) (upd H2 D (.lst [])) { s3 with heap:=h₁ }:=by
  refine ⟨ok',rfl,I3.bare,Un.kept k34,⟨_,hns₁,fun i x v e1 e2 e3=>?_⟩,fun x c e=>?_,I3.hok.fresh (xah _),fun x c e=>(wZ _ _ _ _ _ e).elim (fun z=>I3.hok.fresh (xbY z)) fun z=>I3.freeC x c (sub x c z),fun p hp=>absurd hp (by simp [aF]),I3.hok.kept k34,?_⟩
  ·have hi':tn.length<=i:=by
    by_cases q:i<tn.length
    ·unfold jk at e2
     rw [xbj (by simpa using q),List.getElem?_replicate] at e2
     simp [q] at e2
    ·lia
   unfold jk at e2
   rw [xaY (by simpa using hi'),List.length_replicate,xaH] at e2
   have e1:(tn++cn)[i]? = some x:=e1
   rw [xaY hi'] at e1
   cases q:ix[i - tn.length]? with
   | none=>rw [q] at e2; cases e2
   | some j =>
    rw [q] at e2
    obtain ⟨y,c1,c2,c3,c4,c5,c6⟩:=O.cap _ _ q
    rw [c1] at e1; cases e1
    have e2:σ[j]?.join=some v:=Option.some.inj e2
    have ej:σ[j]? = some (some v):=by
     cases z:σ[j]? with
     | none=>rw [z] at e2; cases e2
     | some o=>rw [z] at e2; exact congrArg some e2
    obtain ⟨m,hn,hl⟩:=I3.loc
    obtain ⟨u,r,l⟩:=hl j x v c2 ej (c3.elim (fun z=>.inr (.inl z)) fun z=>.inr (.inr z))
    refine ⟨u,r,.inr ⟨c5,?_⟩⟩
    rcases l with ⟨hk,_⟩ | ⟨hk,c,hcc,hce⟩
    ·have hk:X.env.scope.names.lookup x=some .local:=hk
     rcases c3 with z | z
     ·rw [z] at hk; cases hk
     ·rw [z] at hk; cases hk
    ·obtain ⟨c',hc'⟩:=iC (env:=X.env) (cs:=[]) (Or.inl c4)
     have:=sub x c' hc'
     rw [hcc] at this; cases this
     obtain ⟨o,ho,hd⟩:=hce
     exact ⟨c,(oR _ _ _ _ c6).trans hc',o,k34 _ _ ho,hd⟩
  ·exact hce x c e
  ·show (jk tn.length ix σ).length=(tn++cn).length
   unfold jk
   simp [O.len]
 -- from the block back to the body
 have back:∀ {τ:St} {H':Hp} {s':Shared},Inv (aF X scope s3.heap.objs.size (tn++cn) fp s3 (upd H2 D (.lst []))) [] τ H' s'->Inv X pins σ H' s':=fun {τ H' s'} I' =>
  Inv.call' (ch:=fp) I3 I'.os I'.base I'.hok I'.bare fun b hb=>by
   obtain ⟨_,f1,_,f3',f4,f5⟩:=f3 b hb
   exact ⟨f3',f1,f4,f5⟩
 have fpC:∀ {H':Hp},(∀ b∈fp,H' b=none)->∀ b∈fp,FpOk (aF X scope s3.heap.objs.size (tn++cn) fp s3 (upd H2 D (.lst []))) [] H' b:=fun hn b hb =>
  ⟨hn b hb,(ok'.exf b hb).1,ok'.exfs b hb,.inl hb,(ok'.exf b hb).2,fun p hp=>absurd hp (by simp [aF])⟩
 have loop:∀ s4:Shared,Inv (aF X scope s3.heap.objs.size (tn++cn) fp s3 (upd H2 D (.lst []))) [] (jk tn.length ix σ) (upd H2 D (.lst [])) s4->tnn 0 s4.heap ->
   codeAny (model X.prog X.w) X.A (.compLoop (.ListComp elt [⟨tg,iter,ifs,0⟩] scope pos) 0 (.ref it) (.ref D) (compEnvC scope (ceOf scope X.env s3.heap.objs.size) s3.heap.objs.size X.env))
    (compPost (model X.prog X.w) X.A X.xe use P (.ref D) s3.heap.objs.size) s4:=by
  intro s4 I4 st4
  refine dR (fun n s'=>∃ i τ H',Inv (aF X scope s3.heap.objs.size (tn++cn) fp s3 (upd H2 D (.lst []))) [] τ H' s'/\tnn i s'.heap/\(∀ b∈fp,H' b=none)/\W i n τ H') (fun _ _=>False) ?_ (fun _ _ z=>z.elim) m0
   ⟨0,_,_,I4,st4,fun b hb=>(f3 b hb).1,w0⟩
  rintro n s5 ⟨i,τ,H5,I5,st5,fr5,w5⟩
  rcases turn i n τ H5 w5 with ⟨stop,qn⟩ | ⟨go,N1,N2,hN1,hN2,step⟩
  ·refine thn (T.done (aF X scope s3.heap.objs.size (tn++cn) fp s3 (upd H2 D (.lst []))) rfl rfl rfl hc i [] s5 τ H5 (fun _ _=>False) I5 (fpC fr5) st5 stop) fun r s6 hx9=>?_
   obtain ⟨hr,I6⟩:=hx9
   subst hr
   have J6:=back I6
   obtain ⟨m,hn,_⟩:=I6.loc
   exact fin _ D m H5 s6 _ J6 hn I6.free (I3.fpOk (b:=s3.heap.objs.size) (H':=H5) (xah _) I6.free) qn
  ·refine thn (T.item (aF X scope s3.heap.objs.size (tn++cn) fp s3 (upd H2 D (.lst []))) rfl rfl rfl hc i [] s5 τ H5 (fun _ _=>False) I5 (fpC fr5) st5 go) fun r s6 hx9=>?_
   obtain ⟨u,hr,h6⟩:=hx9
   subst hr
   refine thn h6 fun _ s7 hx9=>?_
   obtain ⟨x,H7,I7,r7,y7,st7,fr7⟩:=hx9
   have I7':=I7.pinned (fpC fr7) (T.obj _ _ st7)
   refine thn (hg _ _ _ _ _ s7 τ H7 x u _ I7' r7 (step x H7 y7)) fun _ s8 hx9=>?_
   obtain ⟨τ8,H8,I8,q8⟩:=hx9
   refine thn (hcs _ _ _ _ _ s8 τ8 H8 _ I8 q8) fun ok s9 hx9=>?_
   obtain ⟨H9,I9,q9⟩:=hx9
   have again:∀ {s':Shared} {H':Hp} {m':Nat},Inv (aF X scope s3.heap.objs.size (tn++cn) fp s3 (upd H2 D (.lst []))) ([]++pinsAt fp s7.heap) τ8 H' s'->m'<n->W (i+1) m' τ8 H' ->
     ∃ m,m<n/\∃ i τ H',Inv (aF X scope s3.heap.objs.size (tn++cn) fp s3 (upd H2 D (.lst []))) [] τ H' s'/\tnn i s'.heap/\(∀ b∈fp,H' b=none)/\W i m τ H':=fun {s' H' m'} J hm w'=>by
    refine ⟨m',hm,i+1,τ8,H',J.unpinned,T.keep _ _ _ st7 fun b hb o e=>(J.pin (b,o) (xai _ (xai _ (mem_pinsAt hb e)))).1,fun b hb=>?_,w'⟩
    obtain ⟨o,e,d⟩:=T.obj _ _ st7 b hb
    exact (J.pin (b,o) (xai _ (xai _ (mem_pinsAt hb e)))).2.1
   cases ok with
   | false =>
    rw [if_neg xam] at q9 ⊢
    obtain ⟨m',hm,w'⟩:=hN2 _ _ q9
    exact again I9 hm w'
   | true =>
    rw [if_pos rfl] at q9 ⊢
    refine thn (he _ _ _ _ _ s9 τ8 H9 _ I9 q9) fun x9 s10 hx5=>L2.ex2 hx5 fun v10 H10 I10 r10 q10=>?_
    obtain ⟨ys,m',hH,hz,hm,w'⟩:=hN1 _ _ _ q10
    refine thn (mt_append _ s10 τ8 H10 (.ref D) [v10] (.ref D) [x9] (fun _ H'=>H'=upd H10 D (.lst (ys++[v10]))) I10 rfl (.cons r10 .nil) ⟨D,ys,v10,rfl,rfl,hH,hz,rfl⟩) fun _ s11 hx5=>L2.ex2 hx5 fun _ H11 I11 _ q11=>?_
    subst q11
    exact again I11 hm w'
 exact codeAny_compStart_list (loop _ I4 (T.keep _ _ _ st3 fun b hb o e=>k34 b o e)) (T.self _ 0 _ _ _ (T.keep _ _ _ st3 fun b hb o e=>k34 b o e) (loop _ I4 (T.keep _ _ _ st3 fun b hb o e=>k34 b o e)))
theorem qi (hc:X.calm=true) (hi:PI X tg iter wi) (O:di X scope tn cn ix)
  (hg:∀ C fp s₃ H₃,PG (aF X scope C (tn++cn) fp s₃ H₃) tg g) (hcs:∀ C fp s₃ H₃,PTs (aF X scope C (tn++cn) fp s₃ H₃) ifs tc) (he:∀ C fp s₃ H₃,PE (aF X scope C (tn++cn) fp s₃ H₃) elt te)
  (hs:∀ x,foldedSetIterable iter X.env x=pure x:=by intro _; rfl):PE X (.ListComp elt [⟨tg,iter,ifs,0⟩] scope pos) (lU wi g tc te tn.length ix):=by
 intro pins s σ H Q I h
 rw [eval_ListComp]
 refine l_ (use:=none) (P:=EP X pins σ Q) hc hi O hg hcs he hs I h fun C D m H5 s6 r J6 hn hf ⟨_,g1,_,g3,g4,g5⟩ qn=>⟨m,hn,fun h' hsb=>⟨.ref D,H5,?_,rfl,qn⟩⟩
 exact J6.turned (t':=s6.toks) (fun b o hb e=>hsb.extBut b o hb e) hf g1 g3 g4 g5
end
section
variable {X:Cx} {tg iter elt:Expr} {ifs:List Expr} {scope:Scope} {pos:Pos} {wi:TI} {g:TG} {tc:TT} {te:TE} {tn cn:List Str} {ix:List Nat}
theorem sI:∀ (names:List (Str × NameKind)) (n:Nat) (acc:List (Str × Addr)),(∀ y∈names,y.2≠.cell)->cellsFrom n names acc=acc
 | [],_,_,_=>rfl
 | (nm,k) :: r,n,acc,h=>by
  unfold cellsFrom
  rw [if_neg fun z=>h (nm,k) xac (eq_of_beq z)]
  exact sI r n acc fun y hy=>h y (xab _ hy)
theorem jG (O:aO X scope tn cn ix) (C:Addr) (N:List Str) (fp:List Addr) (s:Shared) (H:Hp):aF X scope C N fp s H=a_ X scope C N fp s H:=by
 unfold aF a_ ceOf
 rw [sI _ _ _ O.nocell]
 have:(fun x=>scope.names.lookup x == some NameKind.cell)=fun _=>false:=by
  funext x
  cases e:scope.names.lookup x with
  | none=>rfl
  | some k =>
   have:=O.nocell _ (PySem.mem_of_lookup e)
   cases k <;> simp_all
 rw [this]
theorem qd (O:aO X scope tn cn ix):di X scope tn cn ix :=
 ⟨O.kind,O.free,O.names,O.len,fun k j h=>by
  obtain ⟨y,a,b,c,d,e⟩:=O.cap k j h
  exact ⟨y,a,b,c,d,e,fun z=>O.nocell _ z rfl⟩,fun x h=>.inl (O.all x h)⟩
theorem vK {pos1:Pos} {use:Option (Value->Sem Unit)} {P:Value->Shared->Prop} (hc:X.calm=true) (hi:PI X tg iter wi) (O:aO X scope tn cn ix)
  (hg:∀ C fp s₃ H₃,PG (a_ X scope C (tn++cn) fp s₃ H₃) tg g) (hcs:∀ C fp s₃ H₃,PTs (a_ X scope C (tn++cn) fp s₃ H₃) ifs tc) (he:∀ C fp s₃ H₃,PE (a_ X scope C (tn++cn) fp s₃ H₃) elt te)
  (hs:∀ x,foldedSetIterable iter X.env x=pure x) {pins:List (Addr × Obj)} {s:Shared} {σ:St} {H:Hp} {Q:V->Hp->Prop} (I:Inv X pins σ H s) (h:lU wi g tc te tn.length ix σ H Q)
  (fin:∀ (C D:Addr) (m:Str->Option Value) (H5:Hp) (s6:Shared) (r:Flow),Inv X pins σ H5 s6->s6.heap.Ns C m->H5 C=none->FpOk X pins H5 C->Q (.ref D) H5->compPost (model X.prog X.w) X.A X.xe use P (.ref D) C (.ok r) s6) :
  wpAny (model X.prog X.w) X.A (comprehension (.ListComp elt [⟨tg,iter,ifs,0⟩] scope pos) scope X.env pos1 (newList []) false (eval iter X.env) use) P X.xe s :=
 l_ hc hi (qd O) (fun C fp s₃ H₃=>by rw [jG O]; exact hg C fp s₃ H₃) (fun C fp s₃ H₃=>by rw [jG O]; exact hcs C fp s₃ H₃) (fun C fp s₃ H₃=>by rw [jG O]; exact he C fp s₃ H₃) hs I h fin
theorem uM (hc:X.calm=true) (hi:PI X tg iter wi) (O:aO X scope tn cn ix)
  (hg:∀ C fp s₃ H₃,PG (a_ X scope C (tn++cn) fp s₃ H₃) tg g) (hcs:∀ C fp s₃ H₃,PTs (a_ X scope C (tn++cn) fp s₃ H₃) ifs tc) (he:∀ C fp s₃ H₃,PE (a_ X scope C (tn++cn) fp s₃ H₃) elt te)
  (hs:∀ x,foldedSetIterable iter X.env x=pure x:=by intro _; rfl):PE X (.ListComp elt [⟨tg,iter,ifs,0⟩] scope pos) (lU wi g tc te tn.length ix) :=
 qi hc hi (qd O) (fun C fp s₃ H₃=>by rw [jG O]; exact hg C fp s₃ H₃) (fun C fp s₃ H₃=>by rw [jG O]; exact hcs C fp s₃ H₃) (fun C fp s₃ H₃=>by rw [jG O]; exact he C fp s₃ H₃) hs
end
section
variable {X:Cx} {tg iter elt:Expr} {ifs:List Expr} {scope:Scope} {pos:Pos} {wi:TI} {g:TG} {tc:TT} {te:TE} {tn cn:List Str} {ix:List Nat}
theorem qD {i:Nat} {x:Str} {pos' spos:Pos} (hN:X.N.Nodup) (hi0:X.N[i]? = some x) (hx:Loc X.env.scope x) (hc:X.calm=true) (hi:PI X tg iter wi) (O:aO X scope tn cn ix)
  (hg:∀ C fp s₃ H₃,PG (a_ X scope C (tn++cn) fp s₃ H₃) tg g) (hcs:∀ C fp s₃ H₃,PTs (a_ X scope C (tn++cn) fp s₃ H₃) ifs tc) (he:∀ C fp s₃ H₃,PE (a_ X scope C (tn++cn) fp s₃ H₃) elt te)
  (hsw:swapsWith (.ListComp elt [⟨tg,iter,ifs,0⟩] scope pos) (some (.Name x pos')) spos.line X.env=pure true)
  (hs:∀ x,foldedSetIterable iter X.env x=pure x:=by intro _; rfl) (hf:X.fn x=true\/X.env.scope.names.lookup x=some .local:=by first | exact .inl rfl | exact .inr rfl | assumption) :
  PS X (.Assign [.Name x pos'] (.ListComp elt [⟨tg,iter,ifs,0⟩] scope pos) spos) (tAsg (lU wi g tc te tn.length ix) (gName i)):=by
 intro pins s σ H D0 I h
 rw [exec_Assign_Name_used _ _ _ _ hsw]
 refine xaa (wpAny_standAt (xaa ?_))
 show wpAny _ _ (do let _ <- comprehension (.ListComp elt [⟨tg,iter,ifs,0⟩] scope pos) scope X.env _ (newList []) false (eval iter X.env) (some (assign (.Name x pos') X.env))) _ _ s
 refine xaa (xa2 (vK (use:=some (assign (.Name x pos') X.env)) (P:=fun _ s'=>SP X pins D0 .next s') hc hi O hg hcs he hs I h fun C D m H5 s6 r J6 hn hfr ⟨_,g1,_,g3,g4,g5⟩ qn=>?_) (fun _ s' hq=>xad (xad hq)) fun _ _ e=>e)
 refine (show wpAny _ _ (assign (.Name x pos') X.env (.ref D)) _ _ s6 from wpAny_assign_Name (store_ok2 J6 hN hi0 hx (v:=.ref D) rfl (fun s7 I7 hx9=>?_) hf))
 obtain ⟨a,sb,ha⟩:=hx9
 have hCa:C≠a:=by
  rcases ha with rfl | ha
  ·exact g1
  ·exact Ne.symm (g4 _ a ha)
 refine ⟨m,hn.sameBut sb hCa,fun h' hsb=>⟨_,H5,?_,qn⟩⟩
 exact I7.turned (t':=s7.toks) (fun b o hb e=>hsb.extBut b o hb e) hfr g1 g3 g4 g5
end
def isiT (a b:String):Bool:=a == b || (a == "bool" && b == "int")
def okTy (b:String):Bool:=["str", "int", "bool", "list", "tuple", "dict"].contains b
theorem gD (K:PySem.W.Frag) (a b:String) (ha:a∈["NoneType", "bool", "int", "str", "list", "tuple", "dict"]) (hb:b∈["str", "int", "bool", "list", "tuple", "dict"]):PySem.W.kitOne K (.type a) (.type b)=some (isiT a b):=by
 simp only [xag,xbR,or_false] at ha hb
 rcases ha with rfl | rfl | rfl | rfl | rfl | rfl | rfl <;> rcases hb with rfl | rfl | rfl | rfl | rfl | rfl <;> kernel_rfl
section
variable {X:Cx}
theorem OpR.imp {f:Value->Value->Sem Value} {r r':R2} (h:OpR X f r) (hi:∀ x y H Q,r' x y H Q->r x y H Q):OpR X f r' :=
 fun pins s σ H x y v u Q I rx ry q=>h pins s σ H x y v u Q I rx ry (hi x y H Q q)
def Eh (K:PySem.W.Frag):R2:=fun x y H Q=>∃ l b xs zs,x=.ref l/\y=.ref b/\SqL K H l xs/\SqL K H b zs/\xs.length+zs.length<=sizeLine/\∀ p,H p=none->Q (.ref p) (upd H p (.lst (xs++zs)))
theorem ye:OpR X (binaryOp .Add) (Eh X.K):=by
 intro pins s σ H x y v u Q I rx ry h
 obtain ⟨l,b,xs,zs,rfl,rfl,hH,hB,hz,q⟩:=h
 cases rx
 cases ry
 obtain ⟨its,r,pl,z⟩:=I.list hH
 obtain ⟨its2,r2,pl2,z2⟩:=I.list hB
 have hl:=r.length
 have hl2:=r2.length
 obtain ⟨⟨cls,dd,data,sl⟩,ho,hc,n,hd⟩:=id pl.isList
 obtain ⟨⟨cls2,dd2,data2,sl2⟩,ho2,hc2,n2,hd2⟩:=id pl2.isList
 simp only at hc hd hc2 hd2
 subst hc hd hc2 hd2
 have ea:its.toArray++its2.toArray=(its++its2).toArray:=by simp
 refine concat_meets ⟨_,ho,rfl⟩ ⟨_,ho2,rfl⟩ noFill_list_add seq_list_add PySem.F.slot_list_add PySem.F.entry_list_add (PySem.F.args_list_add_2 _ _) (list_addW l b its.toArray its2.toArray n n2 dd dd2 sl sl2 (by simp only [xaw]; lia)) ⟨ho,ho2,?_⟩
 rw [ea]
 exact ⟨.ref _,_,I.lnew (t':=s.toks) (r.append r2) (by rw [xaL]; lia),rfl,q _ I.fresh⟩
def wg (K:PySem.W.Frag):R2:=fun x y H Q=>match x,y with
 | .int i,.int j=>Q (.int (i+j)) H
 | .str i,.str j=>i.length+j.length<=sizeLine/\Q (.str (i++j)) H
 | .ref a,.ref b=>∃ xs zs,SqL K H a xs/\SqL K H b zs/\xs.length+zs.length<=sizeLine/\∀ p,H p=none->Q (.ref p) (upd H p (.lst (xs++zs)))
 | _,_=>False
theorem zV:OpR X (binaryOp .Add) (wg X.K):=by
 refine (op_add.or (op_add_str.or ye)).imp fun x y H Q h=>?_
 unfold wg at h
 split at h
 ·exact .inl ⟨_,_,rfl,rfl,h⟩
 ·exact .inr (.inl ⟨_,_,rfl,rfl,h.1,h.2⟩)
 ·obtain ⟨xs,zs,h1,h2,h3,h4⟩:=h
  exact .inr (.inr ⟨_,_,xs,zs,rfl,rfl,h1,h2,h3,h4⟩)
 ·exact h.elim
def zb:R2:=fun x y H Q=>match x,y with
 | .int i,.int j=>Q (.int (i - j)) H
 | _,_=>False
theorem zX:OpR X (binaryOp .Sub) zb:=op_sub.imp fun x y H Q h=>by
 unfold zb at h
 split at h
 ·exact ⟨_,_,rfl,rfl,h⟩
 ·exact h.elim
def yt:R2:=fun x y H Q=>match x,y with
 | .int i,.int j=>CMul i j/\Q (.int (i * j)) H
 | _,_=>False
theorem za:OpR X (binaryOp .Mult) yt:=op_mul.imp fun x y H Q h=>by
 unfold yt at h
 split at h
 ·exact ⟨_,_,rfl,rfl,h.1,h.2⟩
 ·exact h.elim
def zP:R2:=fun x y H Q=>match x,y with
 | .int i,.int j=>(0<j/\j<1073741824)/\Q (.int (i / j)) H
 | _,_=>False
theorem yE:OpR X (binaryOp .FloorDiv) zP:=op_fdiv.imp fun x y H Q h=>by
 unfold zP at h
 split at h
 ·exact ⟨_,_,rfl,rfl,h.1,h.2⟩
 ·exact h.elim
def zq:R2:=fun x y H Q=>match x,y with
 | .int i,.int j=>0<j/\Q (.int (i % j)) H
 | _,_=>False
theorem yZ:OpR X (binaryOp .Mod) zq:=op_mod.imp fun x y H Q h=>by
 unfold zq at h
 split at h
 ·exact ⟨_,_,rfl,rfl,h.1,h.2⟩
 ·exact h.elim
def ltS (x y:Str):Bool:=decide (x.cps.toList<y.cps.toList)
def rLtU:R2:=fun x y H Q=>match x,y with
 | .int i,.int j=>Q (.bl (decide (i<j))) H
 | .str i,.str j=>Q (.bl (ltS i j)) H
 | _,_=>False
theorem Ad:OpR X (compareOp .Lt) rLtU:=(op_lt.or op_lt_str).imp fun x y H Q h=>by
 unfold rLtU at h
 split at h
 ·exact .inl ⟨_,_,rfl,rfl,h⟩
 ·exact .inr ⟨_,_,rfl,rfl,h⟩
 ·exact h.elim
def rLen (K:PySem.W.Frag):List V->Hp->VK->Prop:=fun xs H Q=>match xs with
 | [.str y]=>y.length<=sizeLine/\Q (.int y.length) H
 | [.ref p]=>(∃ ys,SqL K H p ys/\Q (.int ys.length) H)\/(∃ ys,SqT K H p ys/\Q (.int ys.length) H)\/∃ kvs,H p=some (.dK kvs)/\Q (.int kvs.length) H
 | _=>False
theorem sJ:CallR X (.builtin "len") (rLen X.K):=by
 intro pins s σ H xs us Q I r h
 unfold rLen at h
 split at h
 ·exact call_len pins s σ H _ us Q I r ⟨_,_,rfl,⟨h.1,rfl⟩,h.2⟩
 ·rcases h with ⟨ys,h1,h2⟩ | ⟨ys,h1,h2⟩ | ⟨kvs,h1,h2⟩
  ·exact call_len pins s σ H _ us Q I r ⟨_,_,rfl,.inl ⟨ys,h1,rfl⟩,h2⟩
  ·exact call_len pins s σ H _ us Q I r ⟨_,_,rfl,.inr ⟨ys,h1,rfl⟩,h2⟩
  ·exact call_lenD pins s σ H _ us Q I r ⟨_,kvs,rfl,h1,h2⟩
 ·exact h.elim
def rIxU (K:PySem.W.Frag):R2:=fun x y H Q=>match x,y with
 | .ref p,.int i=>(∃ xs v,SqL K H p xs/\atI xs i=some v/\Q v H)\/∃ xs v,SqT K H p xs/\atI xs i=some v/\Q v H
 | .str z,.int i=>z.length<=sizeLine/\∃ c,atI z.cps.toList i=some c/\Q (.str ⟨#[c]⟩) H
 | _,_=>False
theorem xF:IxR X (rIxU X.K):=by
 intro value slice pins s σ H x y v u Q I rx ry h hs
 refine ix_seq value slice pins s σ H x y v u Q I rx ry ?_ hs
 unfold rIxU at h
 split at h
 ·rcases h with ⟨xs,w,h1,h2,h3⟩ | ⟨xs,w,h1,h2,h3⟩
  ·exact .inl ⟨_,xs,_,w,rfl,rfl,h1,h2,h3⟩
  ·exact .inr (.inl ⟨_,xs,_,w,rfl,rfl,h1,h2,h3⟩)
 ·obtain ⟨h1,c,h2,h3⟩:=h
  exact .inr (.inr ⟨_,_,c,rfl,rfl,h1,h2,h3⟩)
 ·exact h.elim
def cutS (z:Str) (lo hi:Option Int):Str:=⟨((z.cps.toList.drop (HT.sIx z.length 0 lo)).take (HT.sIx z.length z.length hi - HT.sIx z.length 0 lo)).toArray⟩
end
theorem uJ (l:List Nat) (lo hi:Option Int) (h:((l.drop (HT.sIx l.length 0 lo)).take (HT.sIx l.length l.length hi - HT.sIx l.length 0 lo)).length=l.length) :
  (l.drop (HT.sIx l.length 0 lo)).take (HT.sIx l.length l.length hi - HT.sIx l.length 0 lo)=l:=by
 generalize HT.sIx l.length 0 lo=a at *
 generalize HT.sIx l.length l.length hi=b at *
 by_cases hl:l.length=0
 ·have:l=[]:=xbH.mp hl
  subst this; simp
 ·rw [xaT,xbk] at h
  have h1:a=0:=by lia
  subst h1
  rw [List.drop_zero]
  exact List.take_of_length_le (by lia)
theorem sU (lo hi:Option Int) (n:Nat):Builtin.Str.strSliceIndices lo hi 1 n=(List.range (HT.sIx n n hi - HT.sIx n 0 lo)).map (HT.sIx n 0 lo + ·):=by
 unfold Builtin.Str.strSliceIndices
 have e1:(match lo with | none=>(0:Int) | some i=>max 0 (min (if i<0 then i+n else i) n))=((HT.sIx n 0 lo:Nat):Int):=by
  cases lo with
  | none=>simp [HT.sIx]
  | some i =>
   simp only [HT.sIx]
   by_cases h:i<0
   ·simp only [h,if_true] <;> lia
   ·simp only [h,if_false] <;> lia
 have e2:(match hi with | none=>(n:Int) | some i=>max 0 (min (if i<0 then i+n else i) n))=((HT.sIx n n hi:Nat):Int):=by
  cases hi with
  | none=>simp [HT.sIx]
  | some i =>
   simp only [HT.sIx]
   by_cases h:i<0
   ·simp only [h,if_true] <;> lia
   ·simp only [h,if_false] <;> lia
 rw [<- sliceRange_one,<- e1,<- e2]
 simp only [show (1:Int)>0 by decide,if_true]
 cases lo <;> cases hi <;> rfl
section
variable {X:Cx}
theorem part_of {v:Value} {o:Option Int} (h:IsPart v o):∃ p:Option (Int × Tok),v=partValue p/\p.map (·.1)=o:=by
 cases h with
 | none=>exact ⟨none,rfl,rfl⟩
 | int i t=>exact ⟨some (i,t),rfl,rfl⟩
def rSlS (K:PySem.W.Frag):V->Option Int->Option Int->Hp->VK->Prop:=fun x lo hi H Q=>match x with
 | .str z=>z.length<=sizeLine/\Q (.str (cutS z lo hi)) H
 | .ref a=>∃ xs,SqL K H a xs/\∀ p,H p=none->Q (.ref p) (upd H p (.lst (cutV xs lo hi)))
 | _=>False
theorem BL:SlR X (fun x lo hi H Q=>∃ z,x=.str z/\z.length<=sizeLine/\Q (.str (cutS z lo hi)) H):=by
 intro pins s σ H x v vl vu lo hi sl Q I rx hs pl pu h
 obtain ⟨z,rfl,hz,q⟩:=h
 obtain ⟨t,rfl⟩:=rx
 obtain ⟨p1,rfl,e1⟩:=part_of pl
 obtain ⟨p2,rfl,e2⟩:=part_of pu
 refine ⟨"str",_,F.slot_str_getitem.lookup,typeIs_str s z t,wpAny_getItem_str_slice (l:=p1) (u:=p2) (st:=none) hs rfl ?_⟩
 have hl:z.cps.toList.length=z.length:=by simp [Str.length]
 have ep:slicePicked z p1 p2 none=(List.range (HT.sIx z.length z.length hi - HT.sIx z.length 0 lo)).map (HT.sIx z.length 0 lo + ·):=by
  unfold slicePicked
  rw [e1,e2]
  exact sU lo hi z.length
 have ef:(slicePicked z p1 p2 none).filterMap (z.cps[·]?)=(z.cps.toList.drop (HT.sIx z.length 0 lo)).take (HT.sIx z.length z.length hi - HT.sIx z.length 0 lo):=by
  rw [ep]; exact pick_run z.cps _ _
 unfold sliceMade
 split
 ·rename_i hc
  have hw:(slicePicked z p1 p2 none).length=z.length:=by simpa using hc
  have:cutS z lo hi=z:=by
   unfold cutS
   have e3:((z.cps.toList.drop (HT.sIx z.cps.toList.length 0 lo)).take (HT.sIx z.cps.toList.length z.cps.toList.length hi - HT.sIx z.cps.toList.length 0 lo)).length=z.cps.toList.length:=by
    rw [hl,xaT,xbk,hl]
    rw [ep,xaf,xck] at hw
    have h0:HT.sIx z.length 0 lo<=z.length:=by
     cases lo with
     | none=>simp [HT.sIx]
     | some i=>simp only [HT.sIx]; split <;> lia
    have h1:HT.sIx z.length z.length hi<=z.length:=by
     cases hi with
     | none=>simp [HT.sIx]
     | some i=>simp only [HT.sIx]; split <;> lia
    lia
   have:=uJ z.cps.toList lo hi e3
   rw [hl] at this
   rw [this]
  rw [this] at q
  exact ⟨.str z,H,I,⟨t,rfl⟩,q⟩
 ·rw [ef]
  exact ⟨by
   show (cutS z lo hi).length<=sizeLine
   unfold cutS Str.length
   simp only [xaw,xaT,xbk,hl]
   have:z.cps.toList.length=z.length:=hl
   lia,⟨.str (cutS z lo hi),H,I.tok _,⟨_,rfl⟩,q⟩⟩
theorem Ce:SlR X (rSlS X.K):=by
 intro pins s σ H x v vl vu lo hi sl Q I rx hs pl pu h
 unfold rSlS at h
 split at h
 ·exact BL pins s σ H _ v vl vu lo hi sl Q I rx hs pl pu ⟨_,rfl,h.1,h.2⟩
 ·obtain ⟨xs,h1,h2⟩:=h
  exact sl_list pins s σ H _ v vl vu lo hi sl Q I rx hs pl pu ⟨_,xs,rfl,h1,h2⟩
 ·exact h.elim
end
structure mq (J:It) (its:List V) (cond:Hp->Prop):Prop where
 go:∀ i H,cond H->i<its.length->J.go i H
 yld:∀ i H x H',cond H->i<its.length->J.yld i H x H'->H'=H/\its[i]? = some x
 stop:∀ H,cond H->J.stop its.length H
theorem wK (K:PySem.W.Frag) (a:Addr) (xs:List V):mq (Itl K a) xs (fun H=>SqL K H a xs) where
 go:=fun i H h hi=>⟨xs,xs[i],h,by simp [hi]⟩
 yld:=fun i H x H' h _ y=>⟨y.1,y.2 xs h⟩
 stop:=fun H h=>⟨xs,h,xah _⟩
def ug (lo:Int) (n:Nat):List V:=(List.range n).map fun i=>.int (lo+(i:Nat))
theorem z9 (lo:Int) (n:Nat):mq (Itr lo n) (ug lo n) (fun _=>True) where
 go:=fun i H _ h=>by simpa [ug,Itr] using h
 yld:=fun i H x H' _ hi h=>by
  have hi:i<n:=by simpa [ug] using hi
  obtain ⟨rfl,rfl⟩:=h
  refine ⟨rfl,?_⟩
  simp [ug,hi]
 stop:=fun H _=>by simp [ug,Itr]
def ForW (J:It) (g:TG) (tb:TS) (D:Ends) (σ:St) (H:Hp):Prop :=
 ∃ W:Nat->Nat->St->Hp->Prop,(∃ m,W 0 m σ H)/\∀ i m σ H,W i m σ H ->
   (J.stop i H/\D.nx σ H)\/(J.go i H/\∃ N:St->Hp->Prop,(∀ σ' H',N σ' H'->∃ m',m'<m/\W (i+1) m' σ' H')/\∀ x H',J.yld i H x H'->g x σ H' fun σ2 H2=>tb { D with nx:=N,ct:=N,bk:=D.nx } σ2 H2)
theorem ue (wi:TI) (g:TG) (tb:TS) (D:Ends) (σ:St) (H:Hp):tFor wi g tb D σ H=wi σ H fun J H1=>ForW J g tb D σ H1:=rfl
def Dk (J:It) (g:TG) (tc:TT) (te:TE) (τ0:St) (H1:Hp) (D:Addr) (Q:VK):Prop :=
 ∃ W:Nat->Nat->St->Hp->Prop,(∃ m,W 0 m τ0 (upd H1 D (.lst [])))/\∀ i m τ H,W i m τ H ->
  (J.stop i H/\Q (.ref D) H)\/(J.go i H/\∃ (N1:St->V->Hp->Prop) (N2:St->Hp->Prop),
   (∀ τ2 v H4,N1 τ2 v H4->∃ ys m',H4 D=some (.lst ys)/\ys.length<sizeLine/\m'<m/\W (i+1) m' τ2 (upd H4 D (.lst (ys++[v])))) /\
   (∀ τ2 H3,N2 τ2 H3->∃ m',m'<m/\W (i+1) m' τ2 H3) /\
   ∀ x H',J.yld i H x H'->g x τ H' fun τ2 H2=>tc τ2 H2 fun b H3=>if b=true then te τ2 H3 (N1 τ2) else N2 τ2 H3)
theorem oW (wi:TI) (g:TG) (tc:TT) (te:TE) (tn:Nat) (ix:List Nat) (σ:St) (H:Hp) (Q:VK):lU wi g tc te tn ix σ H Q=wi σ H fun J H1=>∀ D,H1 D=none->Dk J g tc te (jk tn ix σ) H1 D Q:=rfl
mutual
inductive Rep (K:PySem.W.Frag) (H:Hp):PyData->V->Prop
 | none:Rep K H .none .non
 | bool (b:Bool):Rep K H (.bool b) (.bl b)
 | int (i:Int):Rep K H (.int i) (.int i)
 | str (x:Str):Rep K H (.str x) (.str x)
 | list {a:Addr} {vs:List V} {ds:List PyData}:SqL K H a vs->Reps K H ds vs->Rep K H (.list ds) (.ref a)
 | tuple {a:Addr} {vs:List V} {ds:List PyData}:SqT K H a vs->Reps K H ds vs->Rep K H (.tuple ds) (.ref a)
inductive Reps (K:PySem.W.Frag) (H:Hp):List PyData->List V->Prop
 | nil:Reps K H [] []
 | cons {d:PyData} {v:V} {ds:List PyData} {vs:List V}:Rep K H d v->Reps K H ds vs->Reps K H (d :: ds) (v :: vs)
end
section
variable {X:Cx} {pins:List (Addr × Obj)} {σ:St} {H:Hp} {s:Shared}
mutual
theorem Rep.reads (I:Inv X pins σ H s):∀ {d:PyData} {v:V} {u:Value},Rep X.K H d v->RelV v u->∃ as,Reads s.heap u d as
 | _,_,_,.none,r=>by cases (show _=Value.none from r); exact ⟨_,.none⟩
 | _,_,_,.bool b,r=>by cases (show _=Value.bool b from r); exact ⟨_,.bool b⟩
 | _,_,_,.int i,r=>by obtain ⟨t,e⟩:=r; subst e; exact ⟨_,.int i t⟩
 | _,_,_,.str x,r=>by obtain ⟨t,e⟩:=r; subst e; exact ⟨_,.str x t⟩
 | _,_,_,.list h hs,r=>by
  cases r
  obtain ⟨its,rv,pl,_⟩:=I.list h
  obtain ⟨o,e,c,n,d⟩:=pl.isList
  obtain ⟨as,q⟩:=Reps.reads I hs rv
  exact ⟨_,.list e c d q⟩
 | _,_,_,.tuple h hs,r=>by
  cases r
  obtain ⟨its,rv,⟨o,e,c,n,d⟩,_⟩:=I.tuple h
  obtain ⟨as,q⟩:=Reps.reads I hs rv
  exact ⟨_,.tuple e c d q⟩
theorem Reps.reads (I:Inv X pins σ H s):∀ {ds:List PyData} {vs:List V} {us:List Value},Reps X.K H ds vs->Vals vs us->∃ as,ReadsAll s.heap us ds as
 | _,_,_,.nil,.nil=>⟨_,.nil⟩
 | _,_,_,.cons h hs,.cons r rs=>by
  obtain ⟨as,q⟩:=Rep.reads I h r
  obtain ⟨bs,q'⟩:=Reps.reads I hs rs
  exact ⟨_,.cons q q'⟩
end
def rEqD (K:PySem.W.Frag):R2:=fun x y H Q=>∃ d e,Rep K H d x/\Rep K H e y/\d.canLay0=true/\e.canLay0=true/\d.depth<=60/\Q (.bl (PyData.eqv d e)) H
def rNeD (K:PySem.W.Frag):R2:=fun x y H Q=>∃ d e,Rep K H d x/\Rep K H e y/\d.canLay0=true/\e.canLay0=true/\d.depth<=60/\Q (.bl (!PyData.eqv d e)) H
theorem Ak (hu:X.A.units+64<cLine):OpR X (compareOp .Eq) (rEqD X.K):=by
 intro pins s σ H x y v u Q I rx ry h
 obtain ⟨d,e,h1,h2,h3,h4,h5,q⟩:=h
 obtain ⟨as,r1⟩:=h1.reads I rx
 obtain ⟨bs,r2⟩:=h2.reads I ry
 exact PySem.SeqAt.rcAt_reads r1 r2 h3 h4 (by lia) X.prog X.w X.xe _ ⟨.bl _,H,I,rfl,q⟩
theorem Bg (hu:X.A.units+64<cLine):OpR X (compareOp .NotEq) (rNeD X.K):=by
 intro pins s σ H x y v u Q I rx ry h
 obtain ⟨d,e,h1,h2,h3,h4,h5,q⟩:=h
 obtain ⟨as,r1⟩:=h1.reads I rx
 obtain ⟨bs,r2⟩:=h2.reads I ry
 exact PySem.SeqAt.rcNeAt_reads r1 r2 h3 h4 (by lia) X.prog X.w X.xe _ ⟨.bl _,H,I,rfl,q⟩
def rEqU (K:PySem.W.Frag):R2:=fun x y H Q=>match x,y with
 | .int i,.int j=>Q (.bl (decide (i=j))) H
 | .str i,.str j=>Q (.bl (decide (i=j))) H
 | .bl i,.bl j=>Q (.bl (decide (i=j))) H
 | _,_=>rEqD K x y H Q
theorem BX (hu:X.A.units+64<cLine):OpR X (compareOp .Eq) (rEqU X.K):=(op_eq.or (Ak hu)).imp fun x y H Q h=>by
 unfold rEqU at h
 split at h
 ·refine .inl ⟨rfl,?_⟩; simpa using h
 ·refine .inl ⟨rfl,?_⟩; simpa using h
 ·refine .inl ⟨rfl,?_⟩; simpa using h
 ·exact .inr h
def rNeU (K:PySem.W.Frag):R2:=fun x y H Q=>match x,y with
 | .int i,.int j=>Q (.bl (!decide (i=j))) H
 | .str i,.str j=>Q (.bl (!decide (i=j))) H
 | .bl i,.bl j=>Q (.bl (!decide (i=j))) H
 | _,_=>rNeD K x y H Q
theorem B_ (hu:X.A.units+64<cLine):OpR X (compareOp .NotEq) (rNeU X.K):=(op_ne.or (Bg hu)).imp fun x y H Q h=>by
 unfold rNeU at h
 split at h
 ·refine .inl ⟨rfl,?_⟩; simpa using h
 ·refine .inl ⟨rfl,?_⟩; simpa using h
 ·refine .inl ⟨rfl,?_⟩; simpa using h
 ·exact .inr h
end
end L2
namespace L2
open PySem PySem.Spec PyProof.Rows
theorem Bj:(2:Nat)<=sizeLine:=by rw [sizeLine_eq]; decide
def Itz (K:PySem.W.Frag) (a b:Addr):It :=
 ⟨fun i H=>∃ xs ys x y,SqL K H a xs/\SqL K H b ys/\xs[i]? = some x/\ys[i]? = some y,fun i H x H'=>∃ p u v,x=.ref p/\H p=none/\H'=upd H p (.tup [u,v])/\(∀ xs,SqL K H a xs->xs[i]? = some u)/\∀ ys,SqL K H b ys->ys[i]? = some v,
  fun i H=>∃ xs ys,SqL K H a xs/\SqL K H b ys/\(xs.length<=i\/ys.length<=i)⟩
def rlN (sc:Scope) (names:List (Str × NameKind)):List (Str × NameKind):=names.map fun y=>if (y.2 == NameKind.free && sc.kind == .function && sc.names.lookup y.1 == some .cell)=true then (y.1,NameKind.cell) else (y.1,y.2)
def vis2 (o:Option NameKind):Bool:=o == some .cell || o == some .free
def zu (sc scope:Scope) (N cn:List Str) (ix:List Nat):Bool :=
 scope.kind == .function && scope.names.all (fun y=>y.2 != .cell) && scope.names.all (fun y=>y.2 != .free || vis2 (sc.names.lookup y.1)) && scope.names.all (fun y=>y.2 != .local || scope.names.lookup y.1 == some .local) &&
 ix.length == cn.length && (List.range ix.length).all (fun k=>match ix[k]?,cn[k]? with
  | some j,some y=>N[j]? == some y && vis2 (sc.names.lookup y) && scope.names.contains (y,NameKind.free) && vis2 ((rlN sc scope.names).lookup y)
  | _,_=>false) &&
 (rlN sc scope.names).all (fun y=>!(y.2 == .cell || y.2 == .free) || scope.names.contains (y.1,NameKind.free))
theorem fO {o:Option NameKind} (h:vis2 o=true):o=some .cell\/o=some .free:=by
 unfold vis2 at h
 simpa using h
theorem aO.of {X:Cx} {sc scope:Scope} {N tn cn:List Str} {ix:List Nat} (hsc:X.env.scope=sc) (hN:X.N=N) (h:zu sc scope N cn ix=true):aO X scope tn cn ix:=by
 unfold zu at h
 simp only [xaA] at h
 obtain ⟨⟨⟨⟨⟨⟨h1,h2⟩,h3⟩,h4⟩,h5⟩,h6⟩,h7⟩:=h
 rw [xa8] at h2 h3 h4 h6 h7
 have erl:(relabel scope X.env).names=rlN sc scope.names:=by
  unfold relabel rlN
  rw [<- hsc]
  rfl
 refine ⟨by simpa using h1,fun y hy=>by simpa using h2 y hy,fun y hy hk=>?_,fun y hy hk=>?_,by simpa using h5,fun k j hk=>?_,fun x hx=>?_⟩
 ·have:=h3 y hy
  rw [hk] at this
  rw [hsc]
  exact fO (by simpa using this)
 ·have:=h4 y hy
  rw [hk] at this
  simpa using this
 ·have hk':k<ix.length:=(xaj.mp hk).1
  have:=h6 k (xaS.mpr hk')
  rw [hk] at this
  cases e:cn[k]? with
  | none=>rw [e] at this; cases this
  | some y =>
   rw [e] at this
   simp only [xaA] at this
   obtain ⟨⟨⟨a1,a2⟩,a3⟩,a4⟩:=this
   refine ⟨y,rfl,by rw [hN]; simpa using a1,by rw [hsc]; exact fO a2,by simpa using a3,by rw [erl]; exact fO a4⟩
 ·rw [erl] at hx
  have mem:∃ k,(x,k)∈rlN sc scope.names/\(k=.cell\/k=.free):=by
   rcases hx with hx | hx
   ·exact ⟨_,PySem.mem_of_lookup hx,.inl rfl⟩
   ·exact ⟨_,PySem.mem_of_lookup hx,.inr rfl⟩
  obtain ⟨k,hm,hk⟩:=mem
  have:=h7 _ hm
  rcases hk with rfl | rfl <;> simpa using this
structure Cal (P:Program) (w:World) (K:PySem.W.Frag) (mg:Str->Option Value) (base:Heap) (k:Nat) (x:Str) (ps:List Str) (sp:Sp):Prop where
 ex:∃ (g:Addr) (fd:FuncData),mg x=some (.ref g)/\PySem.W.keepIn K (.ref g)=true/\Binds K fd ps []/\FnOk P w K mg base CX0 k g fd ps sp
section
variable {X:Cx} {k:Nat} {x:Str} {ps:List Str} {sp:Sp} {p pos:Pos} {e:Expr} {es:List Expr} {t:TA}
theorem Bt (C:Cal X.prog X.w X.K X.mg X.base k x ps sp) (hr:Room k X.A) (ha:PA X (e :: es) t) (hg:Gl X x:=by rfl) (hdb:(x == ("__debug__" : Str))=false:=by decide) (he:starEach (e :: es) X.env=(false,eval e X.env) :: starEach es X.env:=by rfl)
  (hpl:(backTo pos (starEach es X.env)).any (·.1)=false:=by rfl):PE X (.Call (.Name x p) (e :: es) [] pos) (tCall sp [] E0 t):=by
 obtain ⟨g,fd,hm,hk,hb,F⟩:=C.ex
 exact pe_call F hr hg hm hk hb .nil pass0 ha hdb he hpl
end
theorem Fun.cal {P:Program} {w:World} {K:PySem.W.Frag} {mg:Str->Option Value} {base:Heap} {k:Nat} {x qual:Str} {st:Stmt} {f:Addr} {fd:FuncData} {ps:List Str} {sp:Sp} (F:Fun K x qual st f fd) (hm:mg x=some (.ref f))
  (G:FnOk P w K mg base CX0 k f fd ps sp)
  (h:∀ (kV doc pm:Value) (an:Option Addr) (cdv ct:Value) (us:List Value),us.length=ps.length->bindArgs (PySem.W.fnOf x qual (defArgs st) (defBody st) (defScope st) .none kV doc pm an cdv ct) ⟨us,[]⟩=pure (ps.zip us)):Cal P w K mg base k x ps sp :=
 ⟨f,fd,hm,F.kp,F.binds h,G⟩
theorem pI:bootBuiltins "int" = some (.type "int"):=by decide +kernel
theorem yV:bootBuiltins "bool" = some (.type "bool"):=by decide +kernel
theorem jN:bootBuiltins "list" = some (.type "list"):=by decide +kernel
theorem jU:bootBuiltins "isinstance" = some (.builtin "isinstance"):=by decide +kernel
theorem jx:bootBuiltins "len" = some (.builtin "len"):=by decide +kernel
theorem vV {X:Cx} {x:Str} {T:String} {pos:Pos} (hm:X.mg x=none) (hv:bootBuiltins x=some (.type T)) (hg:Gl X x:=by rfl) (hn:x ≠ "__name__" := by decide) (hd:(x == ("__debug__" : Str))=false:=by decide):PE X (.Name x pos) (tC (.ty T)) :=
 pe_bltn hg hm hv rfl hn hd
def inS (i j:Str):Bool:=!(Builtin.Str.occurrences j i 0 j.length 1).isEmpty
def rInU (K:PySem.W.Frag) (neg:Bool):R2:=fun x y H Q=>match x,y with
 | .str i,.str j=>Q (.bl (if neg then !inS i j else inS i j)) H
 | _,.ref p=>(∃ o,DGet H p x o/\Q (.bl (if neg then !o.isSome else o.isSome)) H)\/rIn K neg x y H Q
 | _,_=>False
theorem Ah {X:Cx} (hu:X.A.units+64<cLine):OpR X (compareOp .In) (rInU X.K false):=by
 intro pins s σ H x y v u Q I rx ry h
 unfold rInU at h
 split at h
 ·exact op_in_str pins s σ H _ _ v u Q I rx ry ⟨_,_,rfl,rfl,h⟩
 ·rcases h with ⟨o,g,q⟩ | h
  ·cases ry
   exact d_in (by lia) I g rx fun s3 I3=>⟨.bl o.isSome,H,I3,rfl,q⟩
  ·exact op_in_seq pins s σ H _ _ v u Q I rx ry h
 ·exact h.elim
theorem uY {X:Cx} (hu:X.A.units+64<cLine):OpR X (compareOp .NotIn) (rInU X.K true):=by
 intro pins s σ H x y v u Q I rx ry h
 unfold rInU at h
 split at h
 ·exact op_notin_str pins s σ H _ _ v u Q I rx ry ⟨_,_,rfl,rfl,h⟩
 ·rcases h with ⟨o,g,q⟩ | h
  ·cases ry
   exact d_notIn (by lia) I g rx fun s3 I3=>⟨.bl (!o.isSome),H,I3,rfl,q⟩
  ·exact op_notIn_seq pins s σ H _ _ v u Q I rx ry h
 ·exact h.elim
theorem Same.upd {H H':Hp} {p:Addr} {o:HO} (h:Same H H') (hp:H' p=none):Same H (upd H' p o):=fun b u e=>by
 have e':=h b u e
 rw [upd_ne (ne_of_none e' hp)]
 exact e'
theorem Same.lst {K:PySem.W.Frag} {H H':Hp} {a:Addr} {xs:List V} (e:Same H H') (h:SqL K H a xs):SqL K H' a xs:=e.seq h
theorem Same.tup {K:PySem.W.Frag} {H H':Hp} {a:Addr} {xs:List V} (e:Same H H') (h:SqT K H a xs):SqT K H' a xs:=by
 rcases h with (h | ⟨o,h⟩) | h
 ·exact .inl (.inl (e _ _ h))
 ·exact .inl (.inr ⟨o,e _ _ h⟩)
 ·exact .inr h
mutual
theorem Rep.same {K:PySem.W.Frag} {H H':Hp} (s:Same H H'):∀ {d:PyData} {v:V},Rep K H d v->Rep K H' d v
 | _,_,.none=>.none
 | _,_,.bool b=>.bool b
 | _,_,.int i=>.int i
 | _,_,.str x=>.str x
 | _,_,.list h hs=>.list (s.lst h) (Reps.same s hs)
 | _,_,.tuple h hs=>.tuple (s.tup h) (Reps.same s hs)
theorem Reps.same {K:PySem.W.Frag} {H H':Hp} (s:Same H H'):∀ {ds:List PyData} {vs:List V},Reps K H ds vs->Reps K H' ds vs
 | _,_,.nil=>.nil
 | _,_,.cons h hs=>.cons (Rep.same s h) (Reps.same s hs)
end
theorem SqL.new {K:PySem.W.Frag} {H:Hp} {p:Addr} {xs:List V}:SqL K (upd H p (.lst xs)) p xs:=.inl (.inl upd_same)
theorem SqT.new {K:PySem.W.Frag} {H:Hp} {p:Addr} {xs:List V}:SqT K (upd H p (.tup xs)) p xs:=.inl (.inl upd_same)
section
variable {X:Cx} {K:PySem.W.Frag}
theorem kIx (hK:X.K=K:=by rfl):IxR X (rIxU K):=by subst hK; exact xF
theorem kEq (hu:X.A.units+64<cLine) (hK:X.K=K:=by rfl):OpR X (compareOp .Eq) (rEqU K):=by subst hK; exact BX hu
theorem kNe (hu:X.A.units+64<cLine) (hK:X.K=K:=by rfl):OpR X (compareOp .NotEq) (rNeU K):=by subst hK; exact B_ hu
theorem kIn (hu:X.A.units+64<cLine) (hK:X.K=K:=by rfl):OpR X (compareOp .In) (rInU K false):=by subst hK; exact Ah hu
theorem Af (hu:X.A.units+64<cLine) (hK:X.K=K:=by rfl):OpR X (compareOp .NotIn) (rInU K true):=by subst hK; exact uY hu
end
theorem G6 {α:Type} {a:α} {p:α->Prop}:(∃ v,a=v/\p v)↔p a:=⟨fun ⟨_,e,h⟩=>e ▸ h,fun h=>⟨a,rfl,h⟩⟩
end L2
namespace L2
open PySem PySem.Spec PyProof.Rows
abbrev Ents:=Array DictEntry
def RawD (h:Heap) (d:Addr) (es:Ents) (ep:Nat):Prop:=∃ o,h.get? d=some o/\o.ExactDict/\o.data=.dict es ep
theorem RawD.typ {s:Shared} {d:Addr} {es:Ents} {ep:Nat} (x:RawD s.heap d es ep):s.TypeIs (.ref d) "dict" := let ⟨o,e,c,_⟩:=x; ⟨o,e,c.1⟩
section
variable {prog:Program} {w:World} {A:Around} {E:Value->Shared->Prop} {s:Shared} {d it:Addr} {es:Ents} {ep i:Nat}
theorem vR {Q:Value->Shared->Prop} (lo:(d == sysModules)=false) (x:RawD s.heap d es ep)
  (q:Q (.ref s.heap.objs.size) { s with heap:=s.heap.push { cls:=.type "dict_keyiterator",data:=.fields #[.ref d,.int 0 0,.int es.size 0,.int ep 0] } }):wpAny (model prog w) A (pyIter (.ref d)) Q E s:=by
 obtain ⟨o,ho,hc,hdat⟩:=id x
 refine wpAny_pyIter_slot x.typ F.slot_dict_iter (wpAny_call_entry F.slot_dict_iter x.typ F.entry_dict_iter ?_ (F.args_dict_iter_1 _))
 unfold Builtin.«dict.__iter__»
 refine xaa ?_
 unfold Builtin.Dict.dictSlotNone
 refine xaa (wpAny_notOrdered_dict x.typ ?_)
 refine (show wpAny _ _ (pure (Value.ref d)) _ _ s from xad ?_)
 refine (show wpAny _ _ (Builtin.Dict.showsAll d >>= _) _ _ s from ?_)
 unfold Builtin.Dict.showsAll
 rw [if_neg (by rw [lo]; decide)]
 refine xaa (xad (xaa (wpAny_dictEntries ho hdat (xaa (wpAny_dictEpoch ho hdat (xaa (wpAny_newObj_type (xad ⟨_,rfl, "dict_keyiterator",_,⟨_,xao _ rfl,rfl⟩,F.slot_dict_keyiterator_next.lookup,?_⟩))))))))
 simpa [rawInt] using q
theorem vD {Q:Option Value->Shared->Prop} (hit:s.heap.IsKeyIter it d i es.size ep) (x:RawD s.heap d es ep) (hx:i<es.size)
  (q:∀ h',h'.IsKeyIter it d (i+1) es.size ep->Heap.SameBut it s.heap h'->Q (some es[i].key) { s with heap:=h' }):wpAny (model prog w) A (pyNext (.ref it)) Q E s:=by
 obtain ⟨o,ho,hc,hd⟩:=id hit
 obtain ⟨od,hod,hcd,hdd⟩:=id x
 have ty:=hit.typeIs
 unfold pyNext
 refine xaa (wpAny_attempt (wpAny_callSpecial?_slot (name:=Str.ofString "__next__") ty F.slot_dict_keyiterator_next (wpAny_call_entry F.slot_dict_keyiterator_next ty F.entry_dict_keyiterator_next ?_ (F.args_dict_keyiterator_next_1 _))))
 refine xaa (xad (xaa (xaa ?_)))
 first | refine xaa (wpAny_typeNameOfWhole_keyiter ty (xad ?_)) | refine xaa (wpAny_typeNameOf_keyiter ty (xad ?_))
 refine xaa (wpAny_fieldsOf ho hd ?_)
 simp only [show Builtin.Dict_items.ownsTuple "dict_keyiterator" = false by decide,xax,if_false]
 refine (show wpAny _ _ (if (Value.ref d == Value.none)=true then _ else _) _ _ s from ?_)
 rw [if_neg (show ¬ ((Value.ref d == Value.none)=true) by intro h; cases h)]
 refine xaa (xad (xaa (wpAny_dictEntries hod hdd ?_)))
 rw [if_neg (by intro h; simp at h)]
 refine xaa (xad (xaa (wpAny_dictEpoch hod hdd ?_)))
 rw [if_neg (by intro h; simp at h)]
 refine xad ?_
 simp only [show ¬ ((i:Int)<0) by lia,if_false,xby,xaJ hx]
 refine xaa ?_
 first | refine xaa (wpAny_typeNameOfWhole_keyiter ty (xad ?_)) | refine xaa (wpAny_typeNameOf_keyiter ty (xad ?_))
 refine xaa (wpAny_isOneOf_keyiter ty ?_)
 refine (show wpAny _ _ (setField (.ref it) 1 (rawInt ((i:Int)+1)) >>= _) _ _ s from xaa (wpAny_setField ho hd (by simp) ?_))
 have hit':(s.heap.update it (Obj.mapFields (·.setIfInBounds 1 (rawInt ((i:Int)+1))))).IsKeyIter it d (i+1) es.size ep :=
  ⟨_,xbu _ ho (Obj.isFreed_of_fields (Obj.data_mapFields hd _)),(Obj.cls_mapFields ..).trans hc,by rw [Obj.data_mapFields hd]; simp [rawInt]⟩
 refine xaa (wpAny_holding (xaa (wpAny_isOneOf_keyiter (s:={ s with heap:=s.heap.update it (Obj.mapFields (·.setIfInBounds 1 (rawInt ((i:Int)+1)))) }) hit'.typeIs ?_)))
 refine (show wpAny _ _ (pure es[i].key) _ _ _ from xad (xad ⟨_,rfl,xad (q _ hit' (Heap.SameBut.update ..))⟩))
theorem wV {Q:Option Value->Shared->Prop} (hh:A.handled=none) (hit:s.heap.IsKeyIter it d es.size es.size ep) (x:RawD s.heap d es ep) (q:∀ h',Heap.ExtBut it s.heap h'->Q none { s with heap:=h' }) :
  wpAny (model prog w) A (pyNext (.ref it)) Q E s:=by
 obtain ⟨o,ho,hc,hd⟩:=id hit
 obtain ⟨od,hod,hcd,hdd⟩:=id x
 have ty:=hit.typeIs
 unfold pyNext
 refine xaa (wpAny_attempt (wpAny_callSpecial?_slot (name:=Str.ofString "__next__") ty F.slot_dict_keyiterator_next (wpAny_call_entry F.slot_dict_keyiterator_next ty F.entry_dict_keyiterator_next ?_ (F.args_dict_keyiterator_next_1 _))))
 refine xaa (xad (xaa (xaa ?_)))
 first | refine xaa (wpAny_typeNameOfWhole_keyiter ty (xad ?_)) | refine xaa (wpAny_typeNameOf_keyiter ty (xad ?_))
 refine xaa (wpAny_fieldsOf ho hd ?_)
 simp only [show Builtin.Dict_items.ownsTuple "dict_keyiterator" = false by decide,xax,if_false]
 refine (show wpAny _ _ (if (Value.ref d == Value.none)=true then _ else _) _ _ s from ?_)
 rw [if_neg (show ¬ ((Value.ref d == Value.none)=true) by intro h; cases h)]
 refine xaa (xad (xaa (wpAny_dictEntries hod hdd ?_)))
 rw [if_neg (by intro h; simp at h)]
 refine xaa (xad (xaa (wpAny_dictEpoch hod hdd ?_)))
 rw [if_neg (by intro h; simp at h)]
 refine xad ?_
 simp only [show ¬ ((es.size:Int)<0) by lia,if_false,xby,xaZ (xah es.size)]
 refine xaa ?_
 first | refine xaa (wpAny_typeNameOfWhole_keyiter ty (xad ?_)) | refine xaa (wpAny_typeNameOf_keyiter ty (xad ?_))
 refine (show wpAny _ _ (setField (.ref it) 0 .none >>= _) _ _ s from xaa (wpAny_setField ho hd (by simp) ?_))
 refine (show wpAny _ _ (newExc (.type "StopIteration") [] >>= _) _ _ _ from xaa ?_)
 simp only [newExc,newTuple]
 refine xaa (wpAny_newObj_type ?_ (by size_fits))
 refine xaa (m:=firstArgMember _ _) (wpAny_of_eq (a:=Value.none) (by first | rfl | (simp only [firstArgMember]; rfl)) (wpAny_newObj_type ?_ (by size_fits)))
 simp only [raiseNew]
 refine xaa (wpAny_handled ?_)
 rw [show A.in1.handled=none from hh]
 refine xaa (xad (wpAny_throw ?_))
 refine xaa (wpAny_isInstance (b:=true) (T := "StopIteration") ⟨_,xao _ rfl,rfl⟩ isSubtype_stop ?_)
 exact xad (q _ (((Heap.SameBut.update ..).extBut.push _).push _))
theorem RawD.at {h h':Heap} (x:RawD h d es ep) (e:∀ o,h.get? d=some o->h'.get? d=some o):RawD h' d es ep:=let ⟨o,ho,r⟩:=x; ⟨o,e o ho,r⟩
theorem RawD.lt {h:Heap} (x:RawD h d es ep):d<h.objs.size:=let ⟨_,e,_⟩:=x; xan e
theorem uT (hh:A.handled=none) (I:Addr) (hne:d≠I):Walks prog w A I [I,d] [I] es.size (fun i v=>∃ e,es[i]? = some e/\v=e.key) (fun i h=>h.IsKeyIter I d i es.size ep/\RawD h d es ep) where
 sub:=fun b hb=>by simp at hb; simp [hb]
 frame:=fun _ _ _ st hk=>⟨st.1.at fun o e=>hk I (by simp) o e,st.2.at fun o e=>hk d (by simp) o e⟩
 item:=fun i s Q E hi st hQ=>vD st.1 st.2 hi fun h' a b=>hQ _ h' s.toks ⟨es[i],by simp [hi],rfl⟩ ⟨a,st.2.at fun o e=>b.extBut d o hne e⟩ fun c o hb e=>b.extBut c o (fun h=>hb (by simp [h])) e
 done:=fun s Q E st hQ=>wV hh st.1 st.2 fun h' he'=>hQ h' s.toks fun b o hb e=>he' b o (fun h=>hb (by simp [h])) e
 self:=fun _ _ _ _ st hQ=>wpAny_pyIter_keyiter st.1 hQ
theorem sE (lo:(d == sysModules)=false):PySem.W.KdlSrc prog w "dict" d d es.size (fun i v=>∃ e,es[i]? = some e/\v=e.key) (fun h=>RawD h d es ep) where
 type:=fun _ x=>x.typ
 there:=fun _ x=>⟨x.lt,x.lt⟩
 keep:=fun _ _ x hk=>x.at fun o e=>hk d (.inl rfl) o e
 notList:=by decide
 notTuple:=by decide
 hint:=fun _ _ _ _ x hq=>PySem.W.kdl_hint_dict x.typ hq
 iter:=fun _ _ hh x=>⟨_,_,(fun _ _ hq=>vR lo x hq),uT hh _ (xat x.lt),⟨⟨_,xao _ rfl,rfl,rfl⟩,x.at fun o e=>xae _ e⟩⟩
end
theorem Paired.n0 {α β:Type} {R:α->β->Prop} {bs:List β} (h:Paired R [] bs):bs=[]:=by cases h; rfl
theorem Paired.c {α β:Type} {R:α->β->Prop} {a:α} {as:List α} {bs:List β} (h:Paired R (a :: as) bs):∃ b cs,bs=b :: cs/\R a b/\Paired R as cs:=by
 cases h with
 | cons r t=>exact ⟨_,_,rfl,r,t⟩
def bu (H:Hp) (ys:List V) (ks:List (List Key)):Prop:=Paired (fun (v:V) (k:List Key)=>∃ b,v=.ref b/\H b=some (.tup (k.map kV))) ys ks
section
variable {X:Cx}
def oU:List V->Hp->VK->Prop:=fun xs H Q=>match xs with
 | [.ref p]=>∃ kvs,H p=some (.dT kvs)/\∀ ys l,bu H ys (kvs.map (·.1))->H l=none->Q (.ref l) (upd H l (.lst ys))
 | _=>False
theorem rK {prog:Program} {w:World} {H:Hp} {kvs:List (List Key × V)} {xs:List (List Key × Addr × Value)}
  (h:Paired (fun (p:List Key × V) (q:List Key × Addr × Value)=>p.1=q.1/\H q.2.1=some (.tup (p.1.map kV))/\RelV p.2 q.2.2) kvs xs) :
  bu H (xs.map fun q=>.ref q.2.1) (kvs.map (·.1))/\Vals (xs.map fun q=>.ref q.2.1) ((xs.map (entryOfKey (tupleKind (mixKind prog w)))).map (·.key)):=by
 induction h with
 | nil=>exact ⟨.nil,.nil⟩
 | cons r t ih=>exact ⟨.cons ⟨_,rfl,r.2.1⟩ ih.1,.cons rfl ih.2⟩
theorem qx (hc:X.calm=true):CallR X (.type "list") oU:=by
 intro pins s σ H xs us Q I r h
 unfold oU at h
 split at h
 ·rename_i p
  obtain ⟨kvs,e,q⟩:=h
  obtain ⟨u,rfl,ru⟩:=Vals.one r
  cases ru
  obtain ⟨z,y,ps,rel,o,es,ep,h1,h2,h3,h4,h5⟩:=(show ObjOk X.prog X.w H s.heap p (.dT kvs) from I.hok p _ e)
  obtain ⟨ta,va⟩:=rK (prog:=X.prog) (w:=X.w) rel
  have hlen:es.size=kvs.length:=by
   have:=congrArg List.length h4
   rw [xa0,xaf] at this
   rw [this]; exact rel.length.symm
  refine PySem.W.kdl_call (sE (es:=es) (ep:=ep) y) (I.ok.hd hc) ⟨o,h1,h2,h3⟩ (by lia) fun h' tk acc c kp eo hacc=>?_
  have hv:acc.toList=(ps.map (entryOfKey (tupleKind (mixKind X.prog X.w)))).map (·.key):=by
   apply xbg
   intro i
   by_cases hi:i<es.size
   ·have hi2:i<acc.size:=by rw [hacc.1]; exact hi
    obtain ⟨en,e1,e2⟩:=hacc.2 i acc[i] (by simp [hi2])
    rw [<- h4,xaH,xaE,xaE,e1]
    simp [hi2,e2]
   ·rw [<- h4,xaH,xaE,xaE,xaZ (by rw [hacc.1]; exact xaW ‹_›),xaZ (by exact xaW ‹_›)]
    rfl
  refine ⟨.ref s.heap.objs.size,_,I.laid (t':=tk) kp (xah _) (show ObjOk X.prog X.w _ h' _ (.lst (ps.map fun q=>.ref q.2.1)) from ⟨?_,acc.toList,c,?_,?_⟩),rfl,q _ _ ta (I.hok.fresh (xah _))⟩
  ·rw [xaf,<- rel.length]; exact z
  ·rw [hv]; exact va
  ·rw [xbP]; exact eo
 ·exact h.elim
end
end L2
namespace Tim
open PySem PyProof.Rows
def R (r:Value->Int) (xs:Array Keyed) (i:Nat):Int:=match xs[i]? with
 | some p=>r p.1
 | none=>0
theorem iU {r:Value->Int} {xs ys:Array Keyed} {i j:Nat} (h:xs[i]? = ys[j]?):R r xs i=R r ys j:=by unfold R; rw [h]
def Cmp (prog:Program) (w:World) (A:Around) (s:Shared) (κ:SortKind) (r:Value->Int) (P:Value->Prop):Prop :=
 ∀ x y,P x->P y->∀ (Q:Bool->Shared->Prop) (E:Value->Shared->Prop),Q (decide (r x<r y)) s->wpAny (model prog w) A (keyLt' κ x y) Q E s
def AllP (P:Value->Prop) (xs:Array Keyed):Prop:=∀ p∈xs.toList,P p.1
theorem AllP.perm {P:Value->Prop} {xs ys:Array Keyed} (h:AllP P xs) (hp:ys.Perm xs):AllP P ys:=fun p hm=>h p ((Array.perm_iff_toList_perm.mp hp).mem_iff.mp hm)
theorem AllP.at {P:Value->Prop} {xs:Array Keyed} (h:AllP P xs) {i:Nat} {p:Keyed} (e:xs[i]? = some p):P p.1:=h p (by
 obtain ⟨hi,rfl⟩:=xbv.mp e
 simp)
structure Win (lo hi:Nat) (st st':SortSt):Prop where
 kind:kindOf st'=kindOf st
 failed:failedOf st'=failedOf st
 pend:pendingOf st'=pendingOf st
 perm:(arrOf st').Perm (arrOf st)
 out:∀ k,k<lo\/hi<=k->(arrOf st')[k]? = (arrOf st)[k]?
theorem Win.refl (lo hi:Nat) (st:SortSt):Win lo hi st st:=⟨rfl,rfl,rfl,Array.Perm.refl _,fun _ _=>rfl⟩
theorem Win.trans {lo hi:Nat} {a b c:SortSt} (h:Win lo hi a b) (g:Win lo hi b c):Win lo hi a c :=
 ⟨g.kind.trans h.kind,g.failed.trans h.failed,g.pend.trans h.pend,g.perm.trans h.perm,fun k hk=>(g.out k hk).trans (h.out k hk)⟩
theorem Win.mono {lo hi lo' hi':Nat} {a b:SortSt} (h:Win lo hi a b) (h1:lo'<=lo) (h2:hi<=hi'):Win lo' hi' a b :=
 ⟨h.kind,h.failed,h.pend,h.perm,fun k hk=>h.out k (by lia)⟩
theorem Win.size {lo hi:Nat} {a b:SortSt} (h:Win lo hi a b):(arrOf b).size=(arrOf a).size:=h.perm.size_eq
def Up (r:Value->Int) (xs:Array Keyed) (lo hi:Nat):Prop:=∀ i j,lo<=i->i<=j->j<hi->R r xs i<=R r xs j
def Down (r:Value->Int) (xs:Array Keyed) (lo hi:Nat):Prop:=∀ i j,lo<=i->i<=j->j<hi->R r xs j<=R r xs i
theorem oZ {r:Value->Int} {xs:Array Keyed} {src d:Nat} (hs:src<xs.size) (hd:d<=src) (k:Nat) :
  R r (bubble xs src d) k=if k=src - d then R r xs src else if src - d<k/\k<=src then R r xs (k - 1) else R r xs k:=by
 have e:=getElem?_bubble hs d hd k
 by_cases h1:k=src - d
 ·rw [if_pos h1] at e ⊢; exact iU e
 ·rw [if_neg h1] at e ⊢
  by_cases h2:src - d<k/\k<=src
  ·rw [if_pos h2] at e ⊢; exact iU e
  ·rw [if_neg h2] at e ⊢; exact iU e
theorem lz {r:Value->Int} {xs:Array Keyed} {i j:Nat} (hj:j<=xs.size) (k:Nat) :
  R r (mirror xs i j ((j - i) / 2)) k=if i<=k/\k<j then R r xs (i+j - 1 - k) else R r xs k:=by
 have e:=getElem?_mirror_all (i:=i) hj k
 by_cases h1:i<=k/\k<j
 ·rw [if_pos h1] at e ⊢; exact iU e
 ·rw [if_neg h1] at e ⊢; exact iU e
theorem aY {r:Value->Int} {xs:Array Keyed} {i j:Nat} (hj:j<=xs.size) (heq:∀ k,i<=k->k<j->R r xs k=R r xs (j - 1)) (k:Nat) :
  R r (mirror xs i j ((j - i) / 2)) k=R r xs k:=by
 rw [lz hj]
 split
 ·rw [heq _ (by lia) (by lia),heq k (by lia) (by lia)]
 ·rfl
section
variable {prog:Program} {w:World} {A:Around} {E:Value->Shared->Prop} {s:Shared} {κ:SortKind} {r:Value->Int} {P:Value->Prop}
theorem Aw {st:SortSt} {x y:Keyed} {Q:Option Bool->SortSt->Prop} (C:Cmp prog w A s κ r P) (hk:kindOf st=κ) (hx:P x.1) (hy:P y.1) (h:Q (some (decide (r x.1<r y.1))) st) :
  wpS (model prog w) A E s (lt' x y) Q st:=by
 rw [lt'_eq]
 refine wpS_bind (wpS_get ?_)
 rw [hk]
 refine wpS_bind (wpS_lift (wpAny_attempt (C x.1 y.1 hx hy _ _ ⟨rfl,?_⟩)))
 exact wpS_pure h
theorem pR {xs:Array Keyed} {i:Nat} {Q:Keyed->SortSt->Prop} {st:SortSt} (hi:i<xs.size) (h:∀ p,xs[i]? = some p->Q p st):wpS (model prog w) A E s (elem' xs i) Q st:=by
 rw [elem'_eq,getElem?_pos xs i hi]
 exact wpS_pure (h _ (getElem?_pos xs i hi))
theorem iT {st:SortSt} {i j:Nat} {Q:Option Bool->SortSt->Prop} (C:Cmp prog w A s κ r P) (hk:kindOf st=κ) (hP:AllP P (arrOf st)) (hi:i<(arrOf st).size) (hj:j<(arrOf st).size)
  (h:Q (some (decide (R r (arrOf st) i<R r (arrOf st) j))) st):wpS (model prog w) A E s (ltAt' i j) Q st:=by
 rw [ltAt'_eq]
 refine wpS_bind (wpS_get ?_)
 show wpS _ _ _ _ (do let x <- elem' (arrOf st) i; let y <- elem' (arrOf st) j; lt' x y) Q st
 refine wpS_bind (pR hi fun p ep=>wpS_bind (pR hj fun q eq=>Aw C hk (hP.at ep) (hP.at eq) ?_))
 have e1:R r (arrOf st) i=r p.1:=by unfold R; rw [ep]
 have e2:R r (arrOf st) j=r q.1:=by unfold R; rw [eq]
 rw [<- e1,<- e2]
 exact h
theorem cu {st:SortSt} {i j:Nat} {Q:Unit->SortSt->Prop} (h:Q () (setArr st (mirror (arrOf st) i j ((j - i) / 2)))) :
  wpS (model prog w) A E s (reverseSlice' i j) Q st:=by
 rw [reverseSlice'_eq]; exact wpS_modify h
theorem dI {st:SortSt} {i j:Nat} (hj:j<=(arrOf st).size):Win i j st (setArr st (mirror (arrOf st) i j ((j - i) / 2))) :=
 ⟨rfl,rfl,rfl,mirror_perm _ _ _ _,fun k hk=>by
  have e:=getElem?_mirror_all (i:=i) hj k
  rw [if_neg (by lia)] at e
  exact e⟩
theorem qK {st:SortSt} {lo src d:Nat} (hs:src<(arrOf st).size) (hd:lo+d<=src):Win lo (src+1) st (setArr st (bubble (arrOf st) src d)) :=
 ⟨rfl,rfl,rfl,bubble_perm _ _ _,fun k hk=>by
  have e:=getElem?_bubble hs d (by walk_at "s4") k
  rw [if_neg (by lia),if_neg (by lia)] at e
  exact e⟩
theorem wpS_binarySort {st:SortSt} {lo n ok:Nat} {Q:Bool->SortSt->Prop} (C:Cmp prog w A s κ r P) (hk:kindOf st=κ) (hP:AllP P (arrOf st)) (hn:lo+n<=(arrOf st).size) (hok:ok<=n) (hs:Up r (arrOf st) lo (lo+ok))
  (h:∀ st',Win lo (lo+n) st st'->Up r (arrOf st') lo (lo+n)->Q true st'):wpS (model prog w) A E s (binarySort' lo n ok) Q st:=by
 rw [binarySort'_eq]
 refine wpS_bind (wpS_mono (wpS_forRange (I:=fun k c st'=>c=(none,())/\Win lo (lo+n) st st'/\Up r (arrOf st') lo (lo+min k n))
  (Q:=fun c st'=>c=(none,())/\Win lo (lo+n) st st'/\Up r (arrOf st') lo (lo+n)) ?step ?fin ?init) ?post)
 case post =>
  rintro c st' ⟨rfl,hB',hs'⟩
  exact wpS_pure (h st' hB' hs')
 case init =>
  refine ⟨rfl,.refl _ _ _,fun i j hl hij hj=>?_⟩
  by_cases h1:ok=0
  ·have:i=j:=by lia
   subst this; exact xbm _
  ·exact hs i j hl hij (by lia)
 case fin =>
  rintro c st' ⟨hc,hB',hs'⟩
  refine ⟨hc,hB',?_⟩
  rwa [show min (max (max ok 1) n) n=n by lia] at hs'
 case step =>
  rintro k c st' hak hkn ⟨rfl,hB',hs'⟩
  rw [show min k n=k by lia] at hs'
  have hsz:=hB'.size
  have hk':kindOf st'=κ:=hB'.kind.trans hk
  have hP':=hP.perm hB'.perm
  refine wpS_bind (wpS_mono (wpS_forRange (I:=fun x c st''=>st''=st'/\∃ l r',c=(none,l,r')/\l<=r'/\r'<=k/\r' - l<=k - x /\
    (∀ i,lo<=i->i<lo+l->R r (arrOf st') i<=R r (arrOf st') (lo+k))/\(∀ i,lo+r'<=i->i<lo+k->R r (arrOf st') (lo+k)<R r (arrOf st') i))
   (Q:=fun c st''=>st''=st'/\∃ l r',c=(none,l,r')/\l<=k /\
    (∀ i,lo<=i->i<lo+l->R r (arrOf st') i<=R r (arrOf st') (lo+k))/\(∀ i,lo+l<=i->i<lo+k->R r (arrOf st') (lo+k)<R r (arrOf st') i)) ?istep ?ifin ?iinit) ?ipost)
  case iinit=>exact ⟨rfl,0,k,rfl,by exact xaz _,by exact xah _,by exact xcn _ _,fun i _ hi=>by lia,fun i h1 h2=>by lia⟩
  case ifin =>
   rintro c st'' ⟨rfl,l,r',rfl,hlr,hrk,hm,hlo,hhi⟩
   have:l=r':=by lia
   subst this
   exact ⟨rfl,l,l,rfl,hrk,hlo,hhi⟩
  case istep =>
   rintro x c st'' _ hxk ⟨rfl,l,r',rfl,hlr,hrk,hm,hlo,hhi⟩
   dsimp only
   by_cases hge:l >= r'
   ·rw [if_pos hge]
    have:l=r':=by exact Nat.le_antisymm ‹_› ‹_›
    subst this
    exact wpS_pure ⟨rfl,l,l,rfl,hrk,hlo,hhi⟩
   ·rw [if_neg hge]
    refine wpS_bind (iT C hk' hP' (by lia) (by lia) ?_)
    by_cases hless:R r (arrOf st'') (lo+k)<R r (arrOf st'') (lo+(l+r') / 2)
    ·simp only [hless,decide_true,if_true]
     refine wpS_pure ⟨rfl,l,(l+r') / 2,rfl,by lia,by lia,by lia,hlo,fun i h1 h2=>?_⟩
     exact Int.lt_of_lt_of_le hless (hs' _ _ (by exact xbQ _ _) h1 h2)
    ·simp only [hless,decide_false,xax,if_false]
     refine wpS_pure ⟨rfl,(l+r') / 2+1,r',rfl,by lia,by lia,by lia,fun i h0 h1=>?_,hhi⟩
     exact xcp (hs' i (lo+(l+r') / 2) h0 (by lia) (by lia)) (Int.not_lt.mp hless)
  case ipost =>
   rintro c st'' ⟨rfl,l,r',rfl,hlk,hlo,hhi⟩
   show wpS _ _ _ _ (do moveDown' (lo+k) (lo+l); pure (ForInStep.yield (none,()))) _ _
   rw [moveDown'_eq]
   have hks:lo+k<(arrOf st'').size:=by lia
   refine wpS_bind (wpS_modify (wpS_pure ⟨rfl,hB'.trans ((qK (lo:=lo) hks (by lia)).mono (xah _) (by lia)),?_⟩))
   rw [show min (k+1) n=k+1 by exact Nat.min_eq_left ‹_›]
   intro i j hl hij hj
   show R r (bubble (arrOf st'') (lo+k) (lo+k - (lo+l))) i<=R r (bubble (arrOf st'') (lo+k) (lo+k - (lo+l))) j
   rw [oZ hks (by exact xcn _ _),oZ hks (by exact xcn _ _),show lo+k - (lo+k - (lo+l))=lo+l by lia]
   repeat' split
   all_goals first
    | (exfalso; lia)
    | exact xbm _
    | exact hlo _ (by lia) (by lia)
    | exact xbM (hhi _ (by lia) (by lia))
    | exact hs' _ _ (by lia) (by lia) (by lia)
end
def ascL (lo a nrem:Nat):StateT SortSt Sem AscSt :=
 forIn [a:nrem] ((none,a):AscSt) fun _ __s=>do
  let __x ← ltAt' (lo + __s.snd) (lo + __s.snd - 1)
  match __x with
  | some smaller=>if smaller=true then pure (ForInStep.done (none,__s.snd)) else pure (ForInStep.yield (none,__s.snd+1))
  | _=>pure (ForInStep.done (some none,__s.snd))
def m9 (lo n nrem:Nat):StateT SortSt Sem (Option Nat):=do
 reverseSlice' lo (lo+n)
 let __s ← ascL lo n nrem
 match __s.fst with
 | some r=>pure r
 | none=>pure (some __s.snd)
def wL (lo n nrem:Nat):StateT SortSt Sem DescSt :=
 forIn [n:nrem] ((none,n,0):DescSt) fun _ __s=>do
  let __x ← ltAt' (lo + __s.snd.fst) (lo + __s.snd.fst - 1)
  match __x with
  | some smaller =>
   if smaller=true then
    if __s.snd.snd>0 then do
     reverseSlice' (lo+__s.snd.fst - (__s.snd.snd+1)) (lo+__s.snd.fst)
     pure (ForInStep.yield (none,__s.snd.fst+1,0))
    else pure (ForInStep.yield (none,__s.snd.fst+1,0))
   else do
    let __x ← ltAt' (lo+__s.snd.fst - 1) (lo+__s.snd.fst)
    match __x with
    | some larger =>
     if larger=true then pure (ForInStep.done (none,__s.snd.fst,__s.snd.snd))
     else pure (ForInStep.yield (none,__s.snd.fst+1,__s.snd.snd+1))
    | _=>pure (ForInStep.done (some none,__s.snd.fst,__s.snd.snd))
  | _=>pure (ForInStep.done (some none,__s.snd.fst,__s.snd.snd))
def cW (lo n nrem:Nat):StateT SortSt Sem (Option Nat):=do
 liftM (rule "list.sort.descending-run")
 let __s ← wL lo (n+1) nrem
 match __s.fst with
 | some r=>pure r
 | none =>
  if __s.snd.snd>0 then do
   reverseSlice' (lo+__s.snd.fst - (__s.snd.snd+1)) (lo+__s.snd.fst)
   m9 lo __s.snd.fst nrem
  else m9 lo __s.snd.fst nrem
theorem mH (lo nrem:Nat):countRun' lo nrem=(do
  let __s ← ascL lo 1 nrem
  match __s.fst with
  | some r=>pure r
  | none =>
   if (__s.snd == nrem)=true then pure (some __s.snd)
   else if __s.snd>1 then do
    let __x ← ltAt' lo (lo+__s.snd - 1)
    match __x with
    | some rose=>if rose=true then pure (some __s.snd) else do
      reverseSlice' lo (lo+__s.snd)
      cW lo __s.snd nrem
    | _=>pure none
   else cW lo __s.snd nrem):=by
 rw [countRun'_eq]
 dsimp only
 unfold cW m9 wL ascL
 congr 1
 funext __s
 obtain ⟨r,n⟩:=__s
 cases r with
 | some r=>rfl
 | none =>
  dsimp only
  split
  ·rfl
  ·split
   ·congr 1
    funext x
    cases x with
    | none=>rfl
    | some rose =>
     dsimp only
     split
     ·rfl
     ·congr 1
      funext _r
      (congr 1; funext _u; congr 1; congr 1; funext s2; obtain ⟨r2,n2,q2⟩:=s2; cases r2 with
       | some r2=>rfl
       | none=>(dsimp only; split; (congr 1; funext _v; (congr 1; funext _w; congr 1; (funext s3; obtain ⟨r3,n3⟩:=s3; cases r3 <;> rfl))); (congr 1; funext _w; congr 1; (funext s3; obtain ⟨r3,n3⟩:=s3; cases r3 <;> rfl))))
   ·(congr 1; funext _u; congr 1; congr 1; funext s2; obtain ⟨r2,n2,q2⟩:=s2; cases r2 with
     | some r2=>rfl
     | none=>(dsimp only; split; (congr 1; funext _v; (congr 1; funext _w; congr 1; (funext s3; obtain ⟨r3,n3⟩:=s3; cases r3 <;> rfl))); (congr 1; funext _w; congr 1; (funext s3; obtain ⟨r3,n3⟩:=s3; cases r3 <;> rfl))))
section
variable {prog:Program} {w:World} {A:Around} {E:Value->Shared->Prop} {s:Shared} {κ:SortKind} {r:Value->Int} {P:Value->Prop}
theorem o_ {st:SortSt} {lo a nrem:Nat} {Q:AscSt->SortSt->Prop} (C:Cmp prog w A s κ r P) (hk:kindOf st=κ) (hP:AllP P (arrOf st)) (hn:lo+nrem<=(arrOf st).size) (ha:1<=a) (han:a<=nrem)
  (hs:Up r (arrOf st) lo (lo+a))
  (h:∀ n,a<=n->n<=nrem->Up r (arrOf st) lo (lo+n)->(n=nrem\/R r (arrOf st) (lo+n)<R r (arrOf st) (lo+n - 1))->Q (none,n) st) :
  wpS (model prog w) A E s (ascL lo a nrem) Q st:=by
 unfold ascL
 refine wpS_forRange (I:=fun x c st'=>st'=st/\c=(none,x)/\Up r (arrOf st) lo (lo+x)) ?step ?fin ⟨rfl,rfl,hs⟩
 case fin =>
  rintro c st' ⟨rfl,rfl,hs'⟩
  rw [show max a nrem=nrem by lia] at hs' ⊢
  exact h nrem han (xah _) hs' (.inl rfl)
 case step =>
  rintro x c st' hax hxn ⟨rfl,rfl,hs'⟩
  dsimp only
  refine wpS_bind (iT C hk hP (by lia) (by lia) ?_)
  by_cases hless:R r (arrOf st') (lo+x)<R r (arrOf st') (lo+x - 1)
  ·simp only [hless,decide_true,if_true]
   exact wpS_pure (h x hax (by exact xaP ‹_›) hs' (.inr hless))
  ·simp only [hless,decide_false,xax,if_false]
   refine wpS_pure ⟨rfl,rfl,fun i j hl hij hj=>?_⟩
   by_cases hjx:j<lo+x
   ·exact hs' i j hl hij hjx
   ·have hj':j=lo+x:=by lia
    subst hj'
    by_cases hi':i=lo+x
    ·subst hi'; exact xbm _
    ·exact xcp (hs' i (lo+x - 1) hl (by lia) (by lia)) (Int.not_lt.mp hless)
theorem jw {st:SortSt} {lo n nrem:Nat} {Q:Option Nat->SortSt->Prop} (C:Cmp prog w A s κ r P) (hk:kindOf st=κ) (hP:AllP P (arrOf st)) (hn:lo+nrem<=(arrOf st).size) (h1:1<=n) (hnn:n<=nrem)
  (hs:Down r (arrOf st) lo (lo+n)) (h:∀ m st',Win lo (lo+nrem) st st'->1<=m->m<=nrem->Up r (arrOf st') lo (lo+m)->Q (some m) st') :
  wpS (model prog w) A E s (m9 lo n nrem) Q st:=by
 unfold m9
 have hsz:lo+n<=(arrOf st).size:=by lia
 refine wpS_bind (cu ?_)
 have hB':=dI (i:=lo) hsz
 refine wpS_bind (o_ C (hB'.kind.trans hk) (hP.perm hB'.perm) (by rw [hB'.size]; exact hn) h1 hnn ?_ fun m hm1 hm2 hsm _=>wpS_pure (h m _ (hB'.mono (xah _) (by lia)) (by walk_at "s1") hm2 hsm))
 intro i j hl hij hj
 show R r (mirror (arrOf st) lo (lo+n) ((lo+n - lo) / 2)) i<=R r (mirror (arrOf st) lo (lo+n) ((lo+n - lo) / 2)) j
 rw [lz hsz,lz hsz,if_pos (by lia),if_pos (by lia)]
 exact hs _ _ (by lia) (by lia) (by lia)
theorem tW {st:SortSt} {lo n nrem:Nat} {Q:DescSt->SortSt->Prop} (C:Cmp prog w A s κ r P) (hk:kindOf st=κ) (hP:AllP P (arrOf st)) (hn:lo+nrem<=(arrOf st).size) (h1:1<=n) (hnn:n<=nrem)
  (hs:Down r (arrOf st) lo (lo+n))
  (h:∀ m neq st',Win lo (lo+nrem) st st'->n<=m->m<=nrem->Down r (arrOf st') lo (lo+m)->neq+1<=m->(∀ i,lo+m - (neq+1)<=i->i<lo+m->R r (arrOf st') i=R r (arrOf st') (lo+m - 1))->Q (none,m,neq) st') :
  wpS (model prog w) A E s (wL lo n nrem) Q st:=by
 unfold wL
 refine wpS_forRange (I:=fun x c st'=>∃ neq,c=(none,x,neq)/\Win lo (lo+nrem) st st'/\Down r (arrOf st') lo (lo+x)/\neq+1<=x /\
   (∀ i,lo+x - (neq+1)<=i->i<lo+x->R r (arrOf st') i=R r (arrOf st') (lo+x - 1))) ?step ?fin ⟨0,rfl,.refl _ _ _,hs,by lia,fun i h1 h2=>by congr 1; lia⟩
 case fin =>
  rintro c st' ⟨neq,rfl,hB',hs',hq,he⟩
  rw [show max n nrem=nrem by lia] at hs' hq he ⊢
  exact h nrem neq st' hB' hnn (xah _) hs' hq he
 case step =>
  rintro x c st' hax hxn ⟨neq,rfl,hB',hs',hq,he⟩
  dsimp only
  have hz:=hB'.size
  have hsz:lo+x<=(arrOf st').size:=by lia
  have hk':=hB'.kind.trans hk
  have hP':=hP.perm hB'.perm
  refine wpS_bind (iT C hk' hP' (by lia) (by lia) ?_)
  by_cases hless:R r (arrOf st') (lo+x)<R r (arrOf st') (lo+x - 1)
  ·simp only [hless,decide_true,if_true]
   have step1:∀ xs:Array Keyed,(∀ k,R r xs k=R r (arrOf st') k)->Down r xs lo (lo+(x+1)):=by
    intro xs hkk i j hl hij hj
    rw [hkk,hkk]
    by_cases hjx:j<lo+x
    ·exact hs' i j hl hij hjx
    ·have hj':j=lo+x:=by lia
     subst hj'
     by_cases hi':i=lo+x
     ·subst hi'; exact xbm _
     ·exact xcp (xbM hless) (hs' i (lo+x - 1) hl (by lia) (by lia))
   by_cases hneq:neq>0
   ·rw [if_pos hneq]
    refine wpS_bind (cu (wpS_pure ⟨0,rfl,hB'.trans ((dI hsz).mono (by lia) (by lia)),step1 _ (aY hsz he),by exact xbN _,fun i h1 h2=>by congr 1; lia⟩))
   ·rw [if_neg hneq]
    exact wpS_pure ⟨0,rfl,hB',step1 _ (fun _=>rfl),by exact xbN _,fun i h1 h2=>by congr 1; lia⟩
  ·simp only [hless,decide_false,xax,if_false]
   refine wpS_bind (iT C hk' hP' (by lia) (by lia) ?_)
   by_cases hlarger:R r (arrOf st') (lo+x - 1)<R r (arrOf st') (lo+x)
   ·simp only [hlarger,decide_true,if_true]
    exact wpS_pure (h x neq st' hB' hax (by exact xaP ‹_›) hs' hq he)
   ·simp only [hlarger,decide_false,xax,if_false]
    have heqx:R r (arrOf st') (lo+x)=R r (arrOf st') (lo+x - 1):=by lia
    refine wpS_pure ⟨neq+1,rfl,hB',fun i j hl hij hj=>?_,by exact xaV ‹_›,fun i h1 h2=>?_⟩
    ·by_cases hjx:j<lo+x
     ·exact hs' i j hl hij hjx
     ·have hj':j=lo+x:=by lia
      subst hj'
      by_cases hi':i=lo+x
      ·subst hi'; exact xbm _
      ·rw [heqx]; exact hs' i (lo+x - 1) hl (by lia) (by lia)
    ·rw [show lo+(x+1) - 1=lo+x by rfl]
     by_cases hix:i=lo+x
     ·subst hix; rfl
     ·rw [heqx]; exact he i (by lia) (by lia)
theorem eU {st:SortSt} {lo n nrem:Nat} {Q:Option Nat->SortSt->Prop} (C:Cmp prog w A s κ r P) (hk:kindOf st=κ) (hP:AllP P (arrOf st)) (hn:lo+nrem<=(arrOf st).size) (hnn:n+1<=nrem)
  (hs:Down r (arrOf st) lo (lo+(n+1))) (h:∀ m st',Win lo (lo+nrem) st st'->1<=m->m<=nrem->Up r (arrOf st') lo (lo+m)->Q (some m) st') :
  wpS (model prog w) A E s (cW lo n nrem) Q st:=by
 unfold cW
 refine wpS_bind (wpS_lift (wpAny_rule ⟨rfl,?_⟩))
 refine wpS_bind (tW C hk hP hn (by exact xbN _) hnn hs fun m neq st' hB' hm1 hm2 hs' hq he=>?_)
 dsimp only
 have hz:=hB'.size
 have hsz:lo+m<=(arrOf st').size:=by lia
 have hk':=hB'.kind.trans hk
 have hP':=hP.perm hB'.perm
 by_cases hneq:neq>0
 ·rw [if_pos hneq]
  have hW:=dI (i:=lo+m - (neq+1)) hsz
  refine wpS_bind (cu (jw C (hW.kind.trans hk') (hP'.perm hW.perm) (by rw [hW.size,hz]; exact hn) (by walk_at "s2") hm2 ?_ fun m2 st2 hB2=>h m2 st2 ((hB'.trans (hW.mono (by lia) (by lia))).trans hB2)))
  intro i j hl hij hj
  show R r (mirror (arrOf st') _ _ _) j<=R r (mirror (arrOf st') _ _ _) i
  rw [aY hsz he,aY hsz he]
  exact hs' i j hl hij hj
 ·rw [if_neg hneq]
  exact jw C hk' hP' (by rw [hz]; exact hn) (by lia) hm2 hs' fun m2 st2 hB2=>h m2 st2 (hB'.trans hB2)
theorem wpS_countRun {st:SortSt} {lo nrem:Nat} {Q:Option Nat->SortSt->Prop} (C:Cmp prog w A s κ r P) (hk:kindOf st=κ) (hP:AllP P (arrOf st)) (hn:lo+nrem<=(arrOf st).size) (h1:1<=nrem)
  (h:∀ m st',Win lo (lo+nrem) st st'->1<=m->m<=nrem->Up r (arrOf st') lo (lo+m)->Q (some m) st') :
  wpS (model prog w) A E s (countRun' lo nrem) Q st:=by
 rw [mH]
 refine wpS_bind (o_ C hk hP hn (xah 1) h1 (fun i j hl hij hj=>by
  have:i=j:=by lia
  subst this; exact xbm _) fun n hn1 hn2 hsn hor=>?_)
 dsimp only
 by_cases hnn:n=nrem
 ·rw [if_pos (by simpa using hnn)]
  exact wpS_pure (h n st (.refl _ _ _) hn1 hn2 hsn)
 ·rw [if_neg (by simpa using hnn)]
  have hlt:R r (arrOf st) (lo+n)<R r (arrOf st) (lo+n - 1):=hor.resolve_left hnn
  by_cases hgt:n>1
  ·rw [if_pos hgt]
   refine wpS_bind (iT C hk hP (by lia) (by lia) ?_)
   by_cases hrose:R r (arrOf st) lo<R r (arrOf st) (lo+n - 1)
   ·simp only [hrose,decide_true,if_true]
    exact wpS_pure (h n st (.refl _ _ _) hn1 hn2 hsn)
   ·simp only [hrose,decide_false,xax,if_false]
    have hsz:lo+n<=(arrOf st).size:=by lia
    have hall:∀ k,lo<=k->k<lo+n->R r (arrOf st) k=R r (arrOf st) (lo+n - 1):=by
     intro k hl hk
     have a1:=hsn lo k (by exact xah _) hl hk
     have a2:=hsn k (lo+n - 1) hl (by lia) (by lia)
     lia
    have hW:=dI (i:=lo) hsz
    refine wpS_bind (cu (eU C (hW.kind.trans hk) (hP.perm hW.perm) (by rw [hW.size]; exact hn) (by lia) ?_ fun m2 st2 hB2=>h m2 st2 ((hW.mono (xah _) (by lia)).trans hB2)))
    intro i j hl hij hj
    show R r (mirror (arrOf st) _ _ _) j<=R r (mirror (arrOf st) _ _ _) i
    rw [aY hsz hall,aY hsz hall]
    by_cases hjn:j<lo+n
    ·rw [hall i hl (by walk_at "s1"),hall j (by walk_at "s1") hjn]; exact xbm _
    ·have hj':j=lo+n:=by lia
     subst hj'
     by_cases hi':i=lo+n
     ·subst hi'; exact xbm _
     ·rw [hall i hl (by lia)]; exact xbM hlt
  ·rw [if_neg hgt]
   have hn1':n=1:=by lia
   subst hn1'
   refine eU C hk hP hn (by lia) ?_ h
   intro i j hl hij hj
   by_cases hi':i=j
   ·subst hi'; exact xbm _
   ·have hi0:i=lo:=by lia
    have hj1:j=lo+1:=by lia
    subst hi0; subst hj1
    exact xbM hlt
end
section
variable {prog:Program} {w:World} {A:Around} {E:Value->Shared->Prop} {s:Shared} {κ:SortKind} {r:Value->Int} {P:Value->Prop}
theorem R_at {r:Value->Int} {xs:Array Keyed} {i:Nat} {p:Keyed} (e:xs[i]? = some p):R r xs i=r p.1:=by unfold R; rw [e]
theorem Aq {r:Value->Int} {xs:Array Keyed} {i:Nat} (h:i<xs.size):R r xs i=r xs[i].1:=R_at (xaJ h)
structure One (r:Value->Int) (a₀:Array Keyed) (st:SortSt):Prop where
 perm:(arrOf st).Perm a₀
 failed:failedOf st=none
 pend:(pendingOf st).size<=1
 up:Up r (arrOf st) 0 a₀.size
theorem wpS_sortRuns {st:SortSt} {Q:Unit->SortSt->Prop} (C:Cmp prog w A s κ r P) (hk:kindOf st=κ) (hP:AllP P (arrOf st)) (hp:pendingOf st = #[]) (hf:failedOf st=none) (h64:(arrOf st).size<64) (h1:1<=(arrOf st).size)
  (h:∀ st',(arrOf st').Perm (arrOf st)->failedOf st'=none->Up r (arrOf st') 0 (arrOf st).size->Q () st'):wpS (model prog w) A E s sortRuns' Q st:=by
 rw [sortRuns'_eq]
 refine wpS_bind (wpS_get ?_)
 dsimp only
 generalize ha:arrOf st=a₀ at *
 have hmr:minRun' a₀.size a₀.size 0=a₀.size:=by
  obtain ⟨f,hf⟩:∃ f,a₀.size=f+1:=⟨a₀.size - 1,by lia⟩
  have:minRun' (f+1) a₀.size 0=a₀.size:=by rw [minRun'_succ,if_pos h64]; rfl
  rwa [<- hf] at this
 rw [hmr]
 have push:∀ st':SortSt,Win 0 a₀.size st st'->Up r (arrOf st') 0 a₀.size->One r a₀ (setPending st' ((pendingOf st').push (0,a₀.size,0))):=fun st' hw u =>
  ⟨ha ▸ hw.perm,hw.failed.trans hf,by show ((pendingOf st').push _).size<=1; rw [hw.pend,hp]; simp,u⟩
 refine wpS_bind (wpS_mono (wpS_forRange (I:=fun x c st'=>(x=0/\c=(none,0)/\st'=st)\/(1<=x/\c=(none,a₀.size)/\One r a₀ st'))
  (Q:=fun c st'=>c=(none,a₀.size)/\One r a₀ st') ?step ?fin (.inl ⟨rfl,rfl,rfl⟩)) ?post)
 case fin =>
  rintro c st' (⟨hx,_,_⟩ | ⟨_,hc,hD⟩)
  ·lia
  ·exact ⟨hc,hD⟩
 case step =>
  rintro x c st' _ hx (⟨rfl,rfl,rfl⟩ | ⟨hx1,rfl,hD⟩)
  ·dsimp only
   rw [if_neg (by lia)]
   simp only [xcq,xce,xa5]
   refine wpS_bind (wpS_countRun C hk (by rw [ha]; exact hP) (by rw [ha]; lia) h1 fun m st2 hw hm1 hm2 hu=>?_)
   dsimp only
   rw [xa5] at hw hu
   have hz:(arrOf st2).size=a₀.size:=by rw [hw.size,ha]
   by_cases z:m<a₀.size
   ·rw [if_pos z]
    refine wpS_bind (wpS_lift (wpAny_rule ⟨rfl,?_⟩))
    refine wpS_bind (wpS_binarySort C (hw.kind.trans hk) (hP.perm (ha ▸ hw.perm)) (by lia) (by lia) (by rw [xa5]; exact hu) fun st3 hw3 hu3=>?_)
    rw [xa5] at hw3 hu3
    simp only [xcl,xax,if_false]
    refine wpS_bind (wpS_get ?_)
    have hb:(pendingOf st3).back? = none:=by rw [hw3.pend,hw.pend,hp]; rfl
    rw [hb]
    dsimp only
    exact wpS_bind (wpS_modify (wpS_pure (.inr ⟨by lia,rfl,push st3 (hw.trans hw3) hu3⟩)))
   ·rw [if_neg z]
    have hm:m=a₀.size:=by lia
    rw [hm] at hu ⊢
    refine wpS_bind (wpS_get ?_)
    have hb:(pendingOf st2).back? = none:=by rw [hw.pend,hp]; rfl
    rw [hb]
    dsimp only
    exact wpS_bind (wpS_modify (wpS_pure (.inr ⟨by lia,rfl,push st2 hw hu⟩)))
  ·dsimp only
   rw [if_pos (xah _)]
   exact wpS_pure ⟨rfl,hD⟩
 case post =>
  rintro c st' ⟨rfl,hD⟩
  dsimp only
  refine wpS_bind (wpS_mono (wpS_forRange (I:=fun _ c st'=>c=(none,())/\One r a₀ st') (Q:=fun c st'=>c=(none,())/\One r a₀ st') ?step3 (fun _ _ q=>q) ⟨rfl,hD⟩) ?post3)
  case step3 =>
   rintro y c st1 _ hy ⟨rfl,H⟩
   refine wpS_bind (wpS_get ?_)
   rw [if_pos H.pend]
   exact wpS_pure ⟨rfl,H⟩
  case post3 =>
   rintro c st1 ⟨rfl,H⟩
   exact wpS_pure (h st1 H.perm H.failed H.up)
end
section
variable {prog:Program} {w:World} {A:Around} {E:Value->Shared->Prop} {s:Shared} {κ:SortKind} {r:Value->Int} {P:Value->Prop}
def bU (h:Heap) (a:Addr) (vs:List Value):Heap:=((h.update a (Obj.mapSeq fun _=>#[])).push (seqObj "tuple" vs.toArray 0)).push (seqObj "list" #[] 0)
theorem eN {h:Heap} {a b:Addr} {vs:List Value} (hb:b≠a) (hlt:b<h.objs.size):(bU h a vs).get? b=h.get? b:=by
 unfold bU
 rw [xbz _ _ _ (by rw [size_push',xbC]; exact xat (xaI hlt)),
  xbz _ _ _ (by rw [xbC]; exact xat hlt),Heap.get?_update_ne _ _ _ _ hb]
theorem oh {vs:List Value} {xs:Array Keyed} (hp:xs.Perm (pairsOf vs)) (hs:Up r xs 0 vs.length):(xs.map (·.2)).toList.Perm vs/\(xs.map (·.2)).toList.Pairwise fun x y=>r x<=r y:=by
 have hl:xs.toList.Perm (vs.zip vs):=by rw [<- pairsOf_toList]; exact Array.perm_iff_toList_perm.mp hp
 have hmem:∀ p,p∈xs.toList->p.1=p.2:=fun p hp'=>(mem_zip_self (hl.mem_iff.mp hp')).1
 have e:(xs.map (·.2)).toList=xs.toList.map (·.1):=by
  rw [Array.toList_map]; exact xbq fun p hp'=>(hmem p hp').symm
 have hsz:xs.size=vs.length:=by rw [hp.size_eq,pairsOf_size]
 rw [e]
 refine ⟨?_,?_⟩
 ·have h1:=hl.map (·.1)
  rwa [xb5 (xah _)] at h1
 ·rw [xaM]
  intro i j hi hj hij
  have hi':i<xs.size:=by simpa using hi
  have hj':j<xs.size:=by simpa using hj
  have h1:=hs i j (xaz _) (xaP hij) (by lia)
  rw [Aq hi',Aq hj'] at h1
  simpa using h1
theorem dG {a:Addr} {vs:List Value} {n:Nat} {F:PySem.Fin->Shared->Prop} (ho:s.heap.get? a=some (seqObj "list" vs.toArray n)) (h63:vs.length<=63) (hP:∀ v∈vs,P v)
  (hk:2<=vs.length->∀ (Q:SortKind->Shared->Prop),Q κ { s with heap:=bU s.heap a vs }->wpAny (model prog w) A (keyKind' vs.toArray) Q E { s with heap:=bU s.heap a vs })
  (C:2<=vs.length->Cmp prog w A { s with heap:=bU s.heap a vs } κ r P)
  (h:∀ out:Array Value,out.toList.Perm vs->(out.toList.Pairwise fun x y=>r x<=r y)->F (.done (.ret .none)) { s with heap:=sortedHeap s.heap a vs out }) :
  wpAny (model prog w) A (Builtin.«list.sort» ⟨[.ref a],[]⟩) F E s:=by
 have hsz:vs.length<=sizeLine:=xaq h63 (by rw [sizeLine_eq]; decide)
 rw [list_sort_plain]
 have ha:a<s.heap.objs.size:=xan ho
 refine xaa (listItems_at ho rfl ?_)
 refine xaa (listUpdate_at ho rfl ?_ (by simpa using hsz) (xaz _))
 obtain ⟨e1,ho1⟩:∃ e1,(s.heap.update a (Obj.mapSeq fun _=>#[])).get? a=some (seqObj "list" #[] e1):=⟨_,get?_update_seq ho (fun _=>#[])⟩
 refine xaa (seqEpoch_at ho1 rfl ?_)
 refine xaa (wpAny_newTuple ?_ (by simpa using hsz))
 refine xaa (wpAny_newList ?_ (xaz _))
 refine wpAny_holding ?_
 have ho6:(bU s.heap a vs).get? a=some (seqObj "list" #[] e1):=by
  unfold bU
  rw [xbz _ _ _ (by rw [size_push',xbC]; exact xat (xaI ha)),xbz _ _ _ (by rw [xbC]; exact xat ha)]
  exact ho1
 show wpAny (model prog w) A _ F E { s with heap:=bU s.heap a vs }
 dsimp only
 have hvz:vs.toArray.size=vs.length:=by simp
 have fin:∀ st':SortSt,(arrOf st').Perm (pairsOf vs)->Up r (arrOf st') 0 vs.length->F (.done (.ret .none)) { s with heap:=sortedHeap s.heap a vs ((arrOf st').map (·.2)) }:=by
  intro st' hp hs
  obtain ⟨h1,h2⟩:=oh hp hs
  exact h _ h1 h2
 by_cases h2:vs.toArray.size<2
 ·rw [if_pos h2,if_pos h2]
  refine xaa (xad ?_)
  rw [StateT.run_pure]
  refine xaa (xad ?_)
  dsimp only
  refine xaa (seqEpoch_at ho6 rfl ?_)
  refine xaa (listUpdate_at ho6 rfl ?_ (xaz _) (by rw [Array.size_map]; show (pairsOf vs).size<=_; rw [pairsOf_size]; lia))
  simp only [bne_self_eq_false,xax,if_false]
  refine xad (fin (SortSt.mk' general' (vs.toArray.zip vs.toArray) #[] 7 none) (Array.Perm.refl _) ?_)
  intro i j _ hij hj
  have:i=j:=by lia
  subst this; exact xbm _
 ·rw [if_neg h2,if_neg h2]
  refine xaa (hk (by lia) _ ?_)
  refine xaa (xa2 (wpS_sortRuns (st:=SortSt.mk' κ (vs.toArray.zip vs.toArray) #[] 7 none)
   (Q:=fun _ st'=>(arrOf st').Perm (pairsOf vs)/\failedOf st'=none/\Up r (arrOf st') 0 vs.length)
   (C (by lia)) rfl (fun p hp=>?_) rfl rfl (xaV (xaq (xbG (pairsOf_size vs)) h63)) (xaq (by lia) (xbG (pairsOf_size vs).symm)) fun st' a1 a2 a3=>⟨a1,a2,?_⟩) ?_ fun _ _ e=>e)
  ·have hp':p∈(pairsOf vs).toList:=hp
   rw [pairsOf_toList] at hp'
   exact hP _ (mem_zip_self hp').2
  ·have e:(arrOf (SortSt.mk' κ (vs.toArray.zip vs.toArray) #[] 7 none)).size=vs.length:=pairsOf_size vs
   rw [e] at a3
   exact a3
  ·rintro ⟨⟨⟩,st'⟩ s' ⟨rfl,hp,hf,hs⟩
   dsimp only
   refine xaa (seqEpoch_at ho6 rfl ?_)
   refine xaa (listUpdate_at ho6 rfl ?_ (xaz _) (by refine xaq (xbG ((Array.size_map ..).trans (hp.size_eq.trans (pairsOf_size _)))) ?_; lia))
   rw [hf]
   simp only [bne_self_eq_false,xax,if_false]
   exact xad (fin st' hp hs)
def dZ (h:Heap) (vs:List Value):Heap:=((h.push (seqObj "list" #[] 0)).update h.objs.size (Obj.mapSeq (· ++ vs.toArray))).push (seqObj "list" vs.toArray 0)
theorem iy {h:Heap} {vs:List Value} {b:Addr} {o:Obj} (hb:h.get? b=some o):(bU (dZ h vs) (h.objs.size+1) vs).get? b=some o:=by
 have hlt:b<h.objs.size:=xan hb
 have e:(dZ h vs).get? b=some o:=by
  unfold dZ
  rw [xbz _ _ _ (by rw [xbC,size_push']; exact xat (xaI hlt)),Heap.get?_update_ne _ _ _ _ (xat hlt),xbz _ _ _ (xat hlt)]
  exact hb
 rw [eN (xat (xaI hlt)) (xan e)]
 exact e
theorem tG {l:Addr} {vs:List Value} {Q:Value->Shared->Prop} (hl:s.heap.IsList l vs.toArray) (h63:vs.length<=63) (hP:∀ v∈vs,P v)
  (hk:2<=vs.length->∀ (A':Around) (E':Value->Shared->Prop) (s':Shared),(∀ b o,s.heap.get? b=some o->s'.heap.get? b=some o)->∀ (Q:SortKind->Shared->Prop),Q κ s'->wpAny (model prog w) A' (keyKind' vs.toArray) Q E' s')
  (C:2<=vs.length->∀ (s':Shared),(∀ b o,s.heap.get? b=some o->s'.heap.get? b=some o)->Cmp prog w A.in1.in1 s' κ r P)
  (h:∀ (h':Heap) (out:List Value) (n:Nat),out.Perm vs->(out.Pairwise fun x y=>r x<=r y)->(∀ b o,s.heap.get? b=some o->h'.get? b=some o)->h'.get? (s.heap.objs.size+1)=some (seqObj "list" out.toArray n)->Q (.ref (s.heap.objs.size+1)) { s with heap:=h' }) :
  wpAny (model prog w) A (call (.builtin "sorted") [.ref l]) Q E s:=by
 have hsz:vs.length<=sizeLine:=xaq h63 (by rw [sizeLine_eq]; decide)
 refine Calls.call_function_entry kind_sorted plain_sorted entry_sorted (args_sorted1 _) ?_
 unfold Builtin.«sorted»
 refine xaa (m:=checkCount "sorted" 1 1 _) (xad ?_)
 refine xaa (collect_list hl ?_ hsz)
 refine xaa (wpAny_newList ?_ (by simpa using hsz))
 have hsz2:((s.heap.push (seqObj "list" #[] 0)).update s.heap.objs.size (Obj.mapSeq (· ++ vs.toArray))).objs.size=s.heap.objs.size+1:=by
  rw [xbC,size_push']
 have hoL:(dZ s.heap vs).get? (s.heap.objs.size+1)=some (seqObj "list" vs.toArray 0):=by
  unfold dZ
  rw [<- hsz2]; exact xao _ rfl
 show wpAny _ _ _ _ _ { s with heap:=dZ s.heap vs }
 rw [hsz2]
 refine xaa (wpAny_holding (wpAny_call_entry slot_list_sort ⟨_,hoL,rfl⟩ entry_list_sort (dG (r:=r) (s:={ s with heap:=dZ s.heap vs }) hoL h63 hP
  (fun h2=>hk h2 _ _ _ fun b o e=>iy e) (fun h2=>?_) fun out a1 a2=>⟨_,rfl,?_⟩) (args_list_sort _)))
 ·exact C h2 _ fun b o e=>iy e
 ·obtain ⟨n,e⟩:=sortedAll_at s.heap vs out
  refine xad ⟨_,rfl,h (sortedAll s.heap vs out) out.toList n a1 a2 (fun b o e=>sortedAll_old e) (by rw [xbP]; exact e)⟩
end
end Tim
namespace L2
open PySem PySem.Spec PyProof.Rows
def lt1:Key->Key->Bool
 | .inl i,.inl j=>decide (i<j)
 | .inr x,.inr y=>ltS x y
 | _,_=>false
def ltK:List Key->List Key->Bool
 | a :: as,b :: bs=>if a=b then ltK as bs else lt1 a b
 | _,_=>false
def isI:Key->Bool
 | .inl _=>true
 | .inr _=>false
def shOf (k:List Key):List Bool:=k.map isI
theorem ou (x:Str):ltS x x=false:=by unfold ltS; simp [List.lt_irrefl]
theorem xU {x y z:Str} (h:ltS x y=true) (g:ltS y z=true):ltS x z=true:=by
 unfold ltS at *
 simp only [decide_eq_true_eq] at *
 exact List.lt_trans h g
theorem uP {x y:Str} (h:x.cps.toList=y.cps.toList):x=y:=by
 cases x; cases y
 simp only at h
 rw [Array.toList_inj.mp h]
theorem tO {x y:Str} (h:ltS x y=false) (g:ltS y x=false):x=y:=by
 unfold ltS at *
 simp only [decide_eq_false_iff_not] at *
 apply uP
 exact List.le_antisymm (List.not_lt.mp g) (List.not_lt.mp h)
theorem yR (a:Key):lt1 a a=false:=by cases a with | inl i=>simp [lt1] | inr x=>exact ou x
theorem Bp {a b c:Key} (h:lt1 a b=true) (g:lt1 b c=true):lt1 a c=true:=by
 cases a <;> cases b <;> cases c <;> simp only [lt1,decide_eq_true_eq] at * <;> first | lia | contradiction | exact xU h g
theorem yH {a b:Key} (e:isI a=isI b) (h:lt1 a b=false) (g:lt1 b a=false):a=b:=by
 cases a <;> cases b <;> simp only [lt1,isI,decide_eq_false_iff_not] at *
 ·congr 1; lia
 ·cases e
 ·cases e
 ·congr 1; exact tO h g
theorem nT:∀ a:List Key,ltK a a=false
 | []=>rfl
 | a :: as=>by unfold ltK; rw [if_pos rfl]; exact nT as
theorem pU:∀ {a b c:List Key},ltK a b=true->ltK b c=true->ltK a c=true
 | [],_,_,h,_=>by simp [ltK] at h
 | _ :: _,[],_,h,_=>by simp [ltK] at h
 | _ :: _,_ :: _,[],_,g=>by simp [ltK] at g
 | a :: as,b :: bs,c :: cs,h,g=>by
  unfold ltK at h g ⊢
  by_cases e1:a=b
  ·subst e1
   rw [if_pos rfl] at h
   by_cases e2:a=c
   ·subst e2
    rw [if_pos rfl] at g ⊢
    exact pU h g
   ·rw [if_neg e2] at g ⊢
    exact g
  ·rw [if_neg e1] at h
   by_cases e2:b=c
   ·subst e2
    rw [if_neg e1]
    exact h
   ·rw [if_neg e2] at g
    have t:=Bp h g
    have ne:a≠c:=fun e=>by subst e; rw [yR] at t; cases t
    rw [if_neg ne]
    exact t
theorem lu:∀ {a b:List Key},shOf a=shOf b->ltK a b=false->ltK b a=false->a=b
 | [],[],_,_,_=>rfl
 | [],_ :: _,e,_,_=>by simp [shOf] at e
 | _ :: _,[],e,_,_=>by simp [shOf] at e
 | a :: as,b :: bs,e,h,g=>by
  simp only [shOf,xap,List.cons.injEq] at e
  unfold ltK at h g
  by_cases e1:a=b
  ·subst e1
   rw [if_pos rfl] at h g
   rw [lu (show shOf as=shOf bs from e.2) h g]
  ·rw [if_neg e1] at h
   rw [if_neg (Ne.symm e1)] at g
   exact absurd (yH e.1 h g) e1
theorem count_le {α:Type} (p q:α->Bool):∀ (l:List α),(∀ x∈l,p x=true->q x=true)->l.countP p<=l.countP q
 | [],_=>xah _
 | x :: l,h=>by
  have ih:=count_le p q l fun y hy=>h y (xab _ hy)
  have h1:=h x xac
  rw [xbD,xbD]
  cases hp:p x <;> cases hq:q x <;> simp_all <;> exact Nat.le_succ_of_le ‹_›
theorem jO {α:Type} (p q:α->Bool) (a:α) (ha:p a=false) (hb:q a=true):∀ (l:List α),a∈l->(∀ x∈l,p x=true->q x=true)->l.countP p<l.countP q
 | [],m,_=>by cases m
 | x :: l,m,h=>by
  rw [xbD,xbD]
  rcases xag.mp m with rfl | m
  ·have:=count_le p q l fun y hy=>h y (xab _ hy)
   rw [ha,hb]; simp; exact xaV ‹_›
  ·have ih:=jO p q a ha hb l m fun y hy=>h y (xab _ hy)
   have h1:=h x xac
   cases hp:p x <;> cases hq:q x <;> simp_all <;> exact xaI ‹_›
def rkK (L:List (List Key)) (k:List Key):Int:=(L.countP fun j=>ltK j k:Nat)
theorem uN {L:List (List Key)} {a b:List Key} (e:shOf a=shOf b) (ma:a∈L):decide (rkK L a<rkK L b)=ltK a b:=by
 unfold rkK
 cases h:ltK a b with
 | true =>
  have:=jO (fun j=>ltK j a) (fun j=>ltK j b) a (nT a) h L ma fun x _ hx=>pU hx h
  exact decide_eq_true (by lia)
 | false =>
  apply decide_eq_false
  cases g:ltK b a with
  | false=>rw [lu e h g]; lia
  | true =>
   have:=count_le (fun j=>ltK j b) (fun j=>ltK j a) L fun x _ hx=>pU hx g
   lia
def unV:V->Option Key
 | .int i=>some (.inl i)
 | .str x=>some (.inr x)
 | _=>none
theorem Dl (k:Key):unV (kV k)=some k:=by cases k <;> rfl
theorem xN:∀ k:List Key,(k.map kV).filterMap unV=k
 | []=>rfl
 | a :: as=>by rw [xap,xbB,Dl,xN as]
def jn (H:Hp):Value->List Key
 | .ref b=>match H b with
  | some (.tup xs)=>xs.filterMap unV
  | _=>[]
 | _=>[]
theorem bD {H:Hp} {b:Addr} {k:List Key} (h:H b=some (.tup (k.map kV))):jn H (.ref b)=k:=by
 simp only [jn,h]; exact xN k
section
variable {prog:Program} {w:World} {A:Around} {E:Value->Shared->Prop} {s:Shared} {Q:Bool->Shared->Prop}
theorem Ae {a b:Key} {u v:Value} (ru:RelV (kV a) u) (rv:RelV (kV b) v) (e:isI a=isI b) (q:Q (lt1 a b) s):wpAny (model prog w) A (oneLt' false u v) Q E s:=by
 refine PySem.W.kat_one u v ?_
 cases a with
 | inl i =>
  cases b with
  | inr x=>cases e
  | inl j =>
   obtain ⟨t,rfl⟩:=ru
   obtain ⟨t',rfl⟩:=rv
   exact lt_int q
 | inr x =>
  cases b with
  | inl j=>cases e
  | inr y =>
   obtain ⟨t,rfl⟩:=ru
   obtain ⟨t',rfl⟩:=rv
   exact PySem.P.lt_str q
theorem Ay {a b:Key} {u v:Value} (ru:RelV (kV a) u) (rv:RelV (kV b) v) (e:isI a=isI b) (q:Q (decide (a=b)) s):wpAny (model prog w) A (eqBool u v) Q E s:=by
 cases a with
 | inl i =>
  cases b with
  | inr x=>cases e
  | inl j =>
   obtain ⟨t,rfl⟩:=ru
   obtain ⟨t',rfl⟩:=rv
   refine wpAny_eqBool_int ?_
   rw [<- key_ll]; exact q
 | inr x =>
  cases b with
  | inl j=>cases e
  | inr y =>
   obtain ⟨t,rfl⟩:=ru
   obtain ⟨t',rfl⟩:=rv
   refine wpAny_eqBool_str ?_
   rw [<- key_rr]; exact q
theorem wQ {fin:Bool} (k m:List Key) (us vs:List Value) (i:Nat) (ha:Vals (k.map kV) us) (hb:Vals (m.map kV) vs) (e:shOf k=shOf m) (hf:fin=false) (q:Q (ltK k m) s) :
  PySem.W.KatLex prog w A true fin Q (us.zip vs) i s:=by
 induction k generalizing m us vs i with
 | nil =>
  cases m with
  | cons b m=>simp [shOf] at e
  | nil =>
   rw [Paired.n0 ha,Paired.n0 hb]
   subst hf
   exact PySem.W.kat_nil q
 | cons a k ih =>
  cases m with
  | nil=>simp [shOf] at e
  | cons b m =>
   obtain ⟨u,us,rfl,ra,rk⟩:=Paired.c ha
   obtain ⟨v,vs,rfl,rb,rm⟩:=Paired.c hb
   simp only [shOf,xap,List.cons.injEq] at e
   rw [xa6]
   refine PySem.W.kat_cons (Ay ra rb e.1 (PySem.W.kat_go (fun h=>PySem.W.kat_yes ?_) (fun h=>PySem.W.kat_no ?_)))
   ·have h:=of_decide_eq_true h
    subst h
    unfold ltK at q
    rw [if_pos rfl] at q
    exact ih m _ _ (i+1) rk rm e.2 q
   ·have h:=of_decide_eq_false h
    unfold ltK at q
    rw [if_neg h] at q
    by_cases h0:i=0
    ·subst h0
     cases a with
     | inr x =>
      cases b with
      | inl j=>cases e.1
      | inr y =>
       obtain ⟨t,rfl⟩:=ra
       obtain ⟨t',rfl⟩:=rb
       exact oneLt_str q
     | inl i =>
      cases b with
      | inr x=>cases e.1
      | inl j =>
       obtain ⟨t,rfl⟩:=ra
       obtain ⟨t',rfl⟩:=rb
       exact oneLt_int q
    ·rw [show (true && i == 0)=false by simp [h0]]
     exact Ae ra rb e.1 q
end
section
variable {X:Cx} {pins:List (Addr × Obj)} {σ:St} {H:Hp} {s:Shared}
theorem Inv.tup {b:Addr} {xs:List V} (I:Inv X pins σ H s) (h:H b=some (.tup xs)):∃ its:List Value,Vals xs its/\IsTup s.heap b its.toArray:=(I.hok b _ h).2
theorem pD (I:Inv X pins σ H s) {s':Shared} (kp:∀ b o,s.heap.get? b=some o->s'.heap.get? b=some o) {A:Around} {L:List (List Key)} {b0:Bool} {sh:List Bool} :
  Tim.Cmp X.prog X.w A s' (tuples' true) (fun v=>rkK L (jn H v)) (fun v=>∃ b k,v=.ref b/\H b=some (.tup (k.map kV))/\shOf k=b0 :: sh/\k∈L):=by
 rintro x y ⟨b,k,rfl,hb,hk,mk⟩ ⟨c,m,rfl,hc,hm,mm⟩ Q E q
 obtain ⟨us,ru,o,e1,c1,n1,d1⟩:=I.tup hb
 obtain ⟨vs,rv,o',e2,c2,n2,d2⟩:=I.tup hc
 have sh':shOf k=shOf m:=hk.trans hm.symm
 simp only [bD hb,bD hc] at q
 rw [uN sh' mk] at q
 refine PySem.W.kat_lt (kp _ _ e1) d1 (kp _ _ e2) d2 (wQ k m us vs 0 ru rv sh' ?_ q)
 ·have h1:=ru.length
  have h2:=rv.length
  have h3:k.length=m.length:=by
   have:=congrArg List.length sh'
   simpa [shOf] using this
  simp only [xaf] at h1 h2
  exact decide_eq_false (by simp only [xaw]; lia)
theorem kat_tups (I:Inv X pins σ H s) {s':Shared} (kp:∀ b o,s.heap.get? b=some o->s'.heap.get? b=some o) {b0:Bool} {sh:List Bool} {ys:List V} {ks:List (List Key)} {vs:List Value} (ht:bu H ys ks) (hv:Vals ys vs) (hs:∀ k∈ks,shOf k=b0 :: sh) :
  ∃ fs:List Value,PySem.W.KatTups s'.heap vs fs/\fs.length=vs.length/\∀ f∈fs,(b0=true->∃ i t,f=Value.int i t)/\(b0=false->∃ x t,f=Value.str x t):=by
 induction ys generalizing ks vs with
 | nil =>
  rw [Paired.n0 hv]
  exact ⟨[],.nil,rfl,by simp⟩
 | cons y ys ih =>
  obtain ⟨k,ks,rfl,⟨b,rfl,hb⟩,t⟩:=Paired.c ht
  obtain ⟨v,vs,rfl,rfl,rs⟩:=Paired.c hv
  obtain ⟨fs,f1,f2,f3⟩:=ih t rs fun j hj=>hs j (xab _ hj)
  have hk:=hs k xac
  obtain ⟨us,ru,o,e1,c1,n1,d1⟩:=I.tup hb
  cases k with
  | nil=>simp [shOf] at hk
  | cons a k =>
   obtain ⟨u,us,rfl,ra,rr⟩:=Paired.c ru
   simp only [shOf,xap,List.cons.injEq] at hk
   refine ⟨u :: fs,.cons (kp _ _ e1) c1 d1 rfl f1,by simp [f2],fun f hf=>?_⟩
   rcases xag.mp hf with rfl | hf
   ·cases a with
    | inr x =>
     obtain ⟨tk,rfl⟩:=ra
     exact ⟨(fun z=>by rw [<- hk.1] at z; cases z),fun _=>⟨_,_,rfl⟩⟩
    | inl i =>
     obtain ⟨tk,rfl⟩:=ra
     exact ⟨fun _=>⟨_,_,rfl⟩,fun z=>by rw [<- hk.1] at z; cases z⟩
   ·exact f3 f hf
end
theorem bu.mem {H:Hp} {ys:List V} {ks:List (List Key)} (h:bu H ys ks) (y:V) (hy:y∈ys):∃ b k,y=.ref b/\H b=some (.tup (k.map kV))/\k∈ks:=by
 induction ys generalizing ks with
 | nil=>cases hy
 | cons z ys ih =>
  obtain ⟨k,ks,rfl,⟨b,rfl,g⟩,t⟩:=Paired.c h
  rcases xag.mp hy with rfl | hy
  ·exact ⟨b,_,rfl,g,xac⟩
  ·obtain ⟨b,k,e,g,m⟩:=ih t hy
   exact ⟨b,k,e,g,xab _ m⟩
theorem bu.keys {H:Hp} {ys:List V} {ks:List (List Key)} {vs:List Value} (h:bu H ys ks) (hv:Vals ys vs):vs.map (jn H)=ks/\∀ v∈vs,∃ b k,v=.ref b/\H b=some (.tup (k.map kV))/\k∈ks:=by
 induction ys generalizing ks vs with
 | nil=>rw [Paired.n0 hv,show ks=[] from Paired.n0 h]; exact ⟨rfl,by simp⟩
 | cons y ys ih =>
  obtain ⟨k,ks,rfl,⟨b,rfl,g⟩,t⟩:=Paired.c h
  obtain ⟨v,vs,rfl,rfl,rs⟩:=Paired.c hv
  obtain ⟨e,m⟩:=ih t rs
  refine ⟨by rw [xap,bD g,e],fun v hv=>?_⟩
  rcases xag.mp hv with rfl | hv
  ·exact ⟨b,k,rfl,g,xac⟩
  ·obtain ⟨b',k',e1,e2,e3⟩:=m v hv
   exact ⟨b',k',e1,e2,xab _ e3⟩
theorem bu.of {H:Hp} {ks:List (List Key)} (vs:List Value) (h:∀ v∈vs,∃ b k,v=Value.ref b/\H b=some (.tup (k.map kV))/\k∈ks):∃ zs,bu H zs (vs.map (jn H))/\Vals zs vs:=by
 induction vs with
 | nil=>exact ⟨[],.nil,.nil⟩
 | cons v vs ih =>
  obtain ⟨zs,a,c⟩:=ih fun u hu=>h u (xab _ hu)
  obtain ⟨b,k,rfl,e,_⟩:=h v xac
  exact ⟨.ref b :: zs,.cons ⟨b,rfl,by rw [bD e]; exact e⟩ a,.cons rfl c⟩
end L2
namespace Tim
open PySem PyProof.Rows
section
variable {prog:Program} {w:World} {A:Around} {E:Value->Shared->Prop} {s:Shared} {κ:SortKind} {r:Value->Int} {P:Value->Prop}
theorem lK {T:String} {r d:Addr} {n:Nat} {P:Nat->Value->Prop} {OK:Heap->Prop} {R:Result->Shared->Prop} (K:PySem.W.KdlSrc prog w T r d n P OK) (hh:A.handled=none) (hok:OK s.heap) (hn:n<=sizeLine)
  (hR:∀ h' tk acc c,(∀ b o,s.heap.get? b=some o->h'.get? b=some o)->h'.get? s.heap.objs.size=some { cls:=.type "list",data:=.seq acc c }->ItemsOf P acc n->R (.ok (.ret (.ref s.heap.objs.size))) { s with heap:=h',toks:=tk }) :
  codeAny (model prog w) A (.builtin "proto.collect" ⟨[.ref r],[]⟩) R s:=by
 have hth:=K.there _ hok
 have hS:(s.heap.push { cls:=.type "list",data:=.seq ([]:List Value).toArray }).get? s.heap.objs.size=some { cls:=.type "list",data:=.seq ([]:List Value).toArray }:=xao _ rfl
 refine codeAny_builtin F.entry_proto_collect ?_
 rw [Around.under_plainId F.plain_proto_collect _]
 show wpAny _ A.in1 (newList [] >>= fun l=>again (.builtin "list.__iadd__" ⟨[l,.ref r],[]⟩)) _ _ s
 refine xaa (wpAny_newObj_type ?_)
 refine xad ⟨plainId_quiet F.plain_list_iadd _,codeAny_builtin F.entry_list_iadd ?_⟩
 rw [Around.under_plainId F.plain_list_iadd _]
 show wpAny _ A.in1 (Builtin.List.listExtendWith (.ref s.heap.objs.size) (.ref r) (.ref s.heap.objs.size)) _ _ _
 exact PySem.W.kdl_extend (R:=R) (s:={ s with heap:=s.heap.push { cls:=.type "list",data:=.seq ([]:List Value).toArray } }) K hh (K.keep _ _ hok fun b _ o e=>xae _ e) s.heap.objs.size (xbW hth.1) (xbW hth.2) _ 0 hS
  (fun h' tk acc' c' kp eo ia=>hR h' tk acc' c' (fun b o e=>kp b o (xat (xan e)) (xae _ e)) eo ia) hn
theorem nZ {T:String} {r d:Addr} {n:Nat} {P:Nat->Value->Prop} {OK:Heap->Prop} {Q:List Value->Shared->Prop} (K:PySem.W.KdlSrc prog w T r d n P OK) (hh:A.handled=none) (hok:OK s.heap) (hn:n<=sizeLine)
  (hQ:∀ h' tk acc,(∀ b o,s.heap.get? b=some o->h'.get? b=some o)->s.heap.objs.size<=h'.objs.size->ItemsOf P acc n->Q acc.toList { s with heap:=h',toks:=tk }):wpAny (model prog w) A (collect (.ref r)) Q E s:=by
 unfold collect
 refine xaa (wpAny_runValue (lK K hh hok hn fun h' tk acc c kp eo ia=>?_))
 show wpAny _ A (load s.heap.objs.size >>= _) _ _ { s with heap:=h',toks:=tk }
 refine xaa (wpAny_load eo ?_)
 exact xad (hQ h' tk acc kp (xaP (xan eo)) ia)
theorem rC {v:Value} {R:List Value->Prop} {Q:Value->Shared->Prop}
  (hcol:∀ (A':Around) (E':Value->Shared->Prop) (Q':List Value->Shared->Prop),A'.handled=A.handled->(∀ vs h1 tk,R vs->(∀ b o,s.heap.get? b=some o->h1.get? b=some o)->s.heap.objs.size<=h1.objs.size->Q' vs { s with heap:=h1,toks:=tk })->wpAny (model prog w) A' (collect v) Q' E' s)
  (hsz:∀ vs,R vs->vs.length<=63) (hP:∀ vs,R vs->∀ v∈vs,P v)
  (hk:∀ vs,R vs->2<=vs.length->∀ (A':Around) (E':Value->Shared->Prop) (s':Shared),(∀ b o,s.heap.get? b=some o->s'.heap.get? b=some o)->∀ (Q:SortKind->Shared->Prop),Q κ s'->wpAny (model prog w) A' (keyKind' vs.toArray) Q E' s')
  (C:∀ (s':Shared),(∀ b o,s.heap.get? b=some o->s'.heap.get? b=some o)->Cmp prog w A.in1.in1 s' κ r P)
  (h:∀ (vs:List Value) (h':Heap) (a:Addr) (out:List Value) (n tk:Nat),R vs->out.Perm vs->(out.Pairwise fun x y=>r x<=r y)->(∀ b o,s.heap.get? b=some o->h'.get? b=some o)->s.heap.objs.size<=a->h'.get? a=some (seqObj "list" out.toArray n)->Q (.ref a) { s with heap:=h',toks:=tk }) :
  wpAny (model prog w) A (call (.builtin "sorted") [v]) Q E s:=by
 refine Calls.call_function_entry kind_sorted plain_sorted entry_sorted (args_sorted1 _) ?_
 unfold Builtin.«sorted»
 refine xaa (m:=checkCount "sorted" 1 1 _) (xad ?_)
 refine xaa (hcol _ _ _ rfl fun vs h1 tk hR kp hz=>?_)
 have h63:=hsz vs hR
 have hsz':vs.length<=sizeLine:=xaq h63 (by rw [sizeLine_eq]; decide)
 refine xaa (wpAny_newList ?_ (by simpa using hsz'))
 have hoL:(h1.push (seqObj "list" vs.toArray 0)).get? h1.objs.size=some (seqObj "list" vs.toArray 0):=xao _ rfl
 have old:∀ b o,s.heap.get? b=some o->(bU (h1.push (seqObj "list" vs.toArray 0)) h1.objs.size vs).get? b=some o:=fun b o e=>by
  have hlt:b<h1.objs.size:=xan (kp b o e)
  rw [eN (xat hlt) (by rw [size_push']; exact xaI hlt)]
  exact xae _ (kp b o e)
 show wpAny _ _ _ _ _ { s with heap:=h1.push (seqObj "list" vs.toArray 0),toks:=tk }
 refine xaa (wpAny_holding (wpAny_call_entry slot_list_sort ⟨_,hoL,rfl⟩ entry_list_sort (dG (r:=r) (s:={ s with heap:=h1.push (seqObj "list" vs.toArray 0),toks:=tk }) hoL h63 (hP vs hR)
  (fun h2=>hk vs hR h2 _ _ _ old) (fun h2=>C _ old) fun out a1 a2=>⟨_,rfl,?_⟩) (args_list_sort _)))
 obtain ⟨n,e⟩:=sortedHeap_at (out:=out) hoL
 refine xad ⟨_,rfl,h vs _ h1.objs.size out.toList n tk hR a1 a2 (fun b o e=>?_) hz (by rw [xbP]; exact e)⟩
 have hlt:b<h1.objs.size:=xan (kp b o e)
 rw [sortedHeap_old (xat hlt) (by rw [size_push']; exact xaI hlt)]
 exact xae _ (kp b o e)
end
end Tim
namespace L2
open PySem PySem.Spec PyProof.Rows
end L2
namespace L2.Q
open PySem PySem.Spec PyProof.Rows
inductive D where
 | non | bl (b:Bool) | int (i:Int) | str (x:Str)
 | list (xs:List D) | tup (xs:List D) | dK (kvs:List (Key × D)) | dT (kvs:List (List Key × D))
mutual
/-- nothing in it can be changed -/
def D.flat:D->Bool
 | .list _=>false
 | .dK _=>false
 | .dT _=>false
 | .tup xs=>flats xs
 | _=>true
def flats:List D->Bool
 | []=>true
 | x :: xs=>x.flat && flats xs
end
theorem iw:∀ {xs:List D},flats xs=true↔∀ x∈xs,x.flat=true
 | []=>by simp [flats]
 | x :: xs=>by simp [flats,iw (xs:=xs)]
theorem cY {xs ys:List D}:flats (xs++ys)=(flats xs && flats ys):=by
 induction xs with
 | nil=>simp [flats]
 | cons x xs ih=>simp [flats,ih,Bool.and_assoc]
def kOk:Key->Bool
 | .inl _=>true
 | .inr x=>decide (x.length<=sizeLine)
def KsOk (kvs:List (Key × D)):Prop:=kvs.length<=sizeLine/\∀ p∈kvs,kOk p.1=true
def KtOk (kvs:List (List Key × D)):Prop:=kvs.length<=sizeLine/\∀ p∈kvs,p.1.length<=sizeLine/\∀ k∈p.1,kOk k=true
mutual
inductive Rep (K:PySem.W.Frag) (H:Hp):D->V->Prop
 | non:Rep K H .non .non
 | bl (b:Bool):Rep K H (.bl b) (.bl b)
 | int (i:Int):Rep K H (.int i) (.int i)
 | str {x:Str}:x.length<=sizeLine->Rep K H (.str x) (.str x)
 | list {a:Addr} {vs:List V} {ds:List D}:vs.length<=sizeLine->SqL K H a vs->Reps K H ds vs->Rep K H (.list ds) (.ref a)
 | tup {a:Addr} {vs:List V} {ds:List D}:vs.length<=sizeLine->H a=some (.tup vs)->Reps K H ds vs->Rep K H (.tup ds) (.ref a)
 | dK {a:Addr} {vs:List V} {kvs:List (Key × D)}:KsOk kvs->H a=some (.dK ((kvs.map (·.1)).zip vs))->Reps K H (kvs.map (·.2)) vs->Rep K H (.dK kvs) (.ref a)
 | dT {a:Addr} {vs:List V} {kvs:List (List Key × D)}:KtOk kvs->H a=some (.dT ((kvs.map (·.1)).zip vs))->Reps K H (kvs.map (·.2)) vs->Rep K H (.dT kvs) (.ref a)
inductive Reps (K:PySem.W.Frag) (H:Hp):List D->List V->Prop
 | nil:Reps K H [] []
 | cons {d:D} {v:V} {ds:List D} {vs:List V}:Rep K H d v->Reps K H ds vs->Reps K H (d :: ds) (v :: vs)
end
theorem Rep.ind {K:PySem.W.Frag} {H:Hp} {m1:D->V->Prop} {m2:List D->List V->Prop} (h0:m1 .non .non) (hb:∀ b,m1 (.bl b) (.bl b)) (hi:∀ i,m1 (.int i) (.int i)) (hs:∀ x,x.length<=sizeLine->m1 (.str x) (.str x))
  (hl:∀ a vs ds,vs.length<=sizeLine->SqL K H a vs->Reps K H ds vs->m2 ds vs->m1 (.list ds) (.ref a)) (ht:∀ a vs ds,vs.length<=sizeLine->H a=some (.tup vs)->Reps K H ds vs->m2 ds vs->m1 (.tup ds) (.ref a))
  (hk:∀ a vs kvs,KsOk kvs->H a=some (.dK ((kvs.map (·.1)).zip vs))->Reps K H (kvs.map (·.2)) vs->m2 (kvs.map (·.2)) vs->m1 (.dK kvs) (.ref a)) (hT:∀ a vs kvs,KtOk kvs->H a=some (.dT ((kvs.map (·.1)).zip vs))->Reps K H (kvs.map (·.2)) vs->m2 (kvs.map (·.2)) vs->m1 (.dT kvs) (.ref a))
  (hn:m2 [] []) (hc:∀ d v ds vs,Rep K H d v->Reps K H ds vs->m1 d v->m2 ds vs->m2 (d :: ds) (v :: vs)):(∀ {d v},Rep K H d v->m1 d v)/\∀ {ds vs},Reps K H ds vs->m2 ds vs :=
 ⟨fun r=>Rep.rec (motive_1:=fun d v _=>m1 d v) (motive_2:=fun ds vs _=>m2 ds vs) h0 hb hi (fun h=>hs _ h) (fun z s r ih=>hl _ _ _ z s r ih) (fun z s r ih=>ht _ _ _ z s r ih) (fun z s r ih=>hk _ _ _ z s r ih) (fun z s r ih=>hT _ _ _ z s r ih) hn (fun r s a b=>hc _ _ _ _ r s a b) r,
  fun r=>Reps.rec (motive_1:=fun d v _=>m1 d v) (motive_2:=fun ds vs _=>m2 ds vs) h0 hb hi (fun h=>hs _ h) (fun z s r ih=>hl _ _ _ z s r ih) (fun z s r ih=>ht _ _ _ z s r ih) (fun z s r ih=>hk _ _ _ z s r ih) (fun z s r ih=>hT _ _ _ z s r ih) hn (fun r s a b=>hc _ _ _ _ r s a b) r⟩
theorem Rep.Ag {K:PySem.W.Frag} {H H':Hp} (s:Same H H'):(∀ {d:D} {v:V},Rep K H d v->Rep K H' d v)/\∀ {ds:List D} {vs:List V},Reps K H ds vs->Reps K H' ds vs :=
 Rep.ind .non .bl .int (fun _ h=>.str h) (fun _ _ _ z h _ ih=>.list z (s.lst h) ih) (fun _ _ _ z h _ ih=>.tup z (s _ _ h) ih) (fun _ _ _ kk h _ ih=>.dK kk (s _ _ h) ih) (fun _ _ _ kk h _ ih=>.dT kk (s _ _ h) ih) .nil fun _ _ _ _ _ _ a b=>.cons a b
theorem Rep.same {K:PySem.W.Frag} {H H':Hp} (s:Same H H') {d:D} {v:V} (r:Rep K H d v):Rep K H' d v:=(Rep.Ag s).1 r
theorem Reps.same {K:PySem.W.Frag} {H H':Hp} (s:Same H H') {ds:List D} {vs:List V} (r:Reps K H ds vs):Reps K H' ds vs:=(Rep.Ag s).2 r
theorem Reps.ind {K:PySem.W.Frag} {H:Hp} {m:List D->List V->Prop} (hn:m [] []) (hc:∀ d v ds vs,Rep K H d v->Reps K H ds vs->m ds vs->m (d :: ds) (v :: vs)):∀ {ds vs},Reps K H ds vs->m ds vs :=
 fun r=>(Rep.ind (m1:=fun _ _=>True) (m2:=m) trivial (fun _=>trivial) (fun _=>trivial) (fun _ _=>trivial) (fun _ _ _ _ _ _ _=>trivial) (fun _ _ _ _ _ _ _=>trivial) (fun _ _ _ _ _ _ _=>trivial) (fun _ _ _ _ _ _ _=>trivial) hn fun d v ds vs r s _ b=>hc d v ds vs r s b).2 r
theorem Reps.length {K:PySem.W.Frag} {H:Hp} {ds:List D} {vs:List V} (r:Reps K H ds vs):ds.length=vs.length :=
 Reps.ind (m:=fun ds vs=>ds.length=vs.length) rfl (fun _ _ _ _ _ _ ih=>by rw [xaU,xaU,ih]) r
theorem Reps.append {K:PySem.W.Frag} {H:Hp} {ds es:List D} {vs ws:List V} (r:Reps K H ds vs) (t:Reps K H es ws):Reps K H (ds++es) (vs++ws) :=
 Reps.ind (m:=fun ds vs=>Reps K H (ds++es) (vs++ws)) t (fun _ _ _ _ h _ ih=>.cons h ih) r
theorem Reps.get {K:PySem.W.Frag} {H:Hp} {ds:List D} {vs:List V} {i:Nat} {d:D} (r:Reps K H ds vs) (e:ds[i]? = some d):∃ v,vs[i]? = some v/\Rep K H d v :=
 Reps.ind (m:=fun ds vs=>∀ i d,ds[i]? = some d->∃ v,vs[i]? = some v/\Rep K H d v) (fun i d e=>by simp at e) (fun _ _ _ _ h _ ih i d e=>by
  cases i with
  | zero=>simp at e; subst e; exact ⟨_,rfl,h⟩
  | succ i =>
   obtain ⟨v,e1,r⟩:=ih i d (by simpa using e)
   exact ⟨v,by simpa using e1,r⟩) r i d e
theorem Reps.getV {K:PySem.W.Frag} {H:Hp} {ds:List D} {vs:List V} {i:Nat} {v:V} (r:Reps K H ds vs) (e:vs[i]? = some v):∃ d,ds[i]? = some d/\Rep K H d v :=
 Reps.ind (m:=fun ds vs=>∀ i v,vs[i]? = some v->∃ d,ds[i]? = some d/\Rep K H d v) (fun i d e=>by simp at e) (fun _ _ _ _ h _ ih i d e=>by
  cases i with
  | zero=>simp at e; subst e; exact ⟨_,rfl,h⟩
  | succ i =>
   obtain ⟨v,e1,r⟩:=ih i d (by simpa using e)
   exact ⟨v,by simpa using e1,r⟩) r i v e
theorem Reps.drop {K:PySem.W.Frag} {H:Hp} {ds:List D} {vs:List V} (n:Nat) (r:Reps K H ds vs):Reps K H (ds.drop n) (vs.drop n) :=
 Reps.ind (m:=fun ds vs=>∀ n,Reps K H (ds.drop n) (vs.drop n)) (fun n=>by rw [List.drop_nil,List.drop_nil]; exact .nil) (fun _ _ _ _ h hs ih n=>by
  cases n with
  | zero=>exact .cons h hs
  | succ n=>exact ih n) r n
theorem Reps.n0 {K:PySem.W.Frag} {H:Hp} {vs:List V} (h:Reps K H [] vs):vs=[]:=by cases h; rfl
theorem Reps.c {K:PySem.W.Frag} {H:Hp} {d:D} {ds:List D} {vs:List V} (h:Reps K H (d :: ds) vs):∃ u us,vs=u :: us/\Rep K H d u/\Reps K H ds us:=by
 cases h with
 | cons r rs=>exact ⟨_,_,rfl,r,rs⟩
theorem Reps.take {K:PySem.W.Frag} {H:Hp} {ds:List D} {vs:List V} (n:Nat) (r:Reps K H ds vs):Reps K H (ds.take n) (vs.take n) :=
 Reps.ind (m:=fun ds vs=>∀ n,Reps K H (ds.take n) (vs.take n)) (fun n=>by rw [List.take_nil,List.take_nil]; exact .nil) (fun _ _ _ _ h hs ih n=>by
  cases n with
  | zero=>exact .nil
  | succ n=>exact .cons h (ih n)) r n
mutual
/-- what is owned: a tree whose lists and dicts stand at As,nobody else's; its leaves shared (fl: and flat) -/
inductive RepO (K:PySem.W.Frag) (Hs H:Hp) (fl:Bool):D->V->List Addr->Prop
 | sh {d:D} {v:V}:(fl=true->d.flat=true)->Rep K Hs d v->RepO K Hs H fl d v []
 | list {a:Addr} {vs:List V} {ds:List D} {As:List Addr}:vs.length<=sizeLine->H a=some (.lst vs)->ak K Hs H fl ds vs As->RepO K Hs H fl (.list ds) (.ref a) (a :: As)
 | tup {a:Addr} {vs:List V} {ds:List D} {As:List Addr}:vs.length<=sizeLine->Hs a=some (.tup vs)->flats ds=false->ak K Hs H fl ds vs As->RepO K Hs H fl (.tup ds) (.ref a) As
 | dK {a:Addr} {vs:List V} {kvs:List (Key × D)} {As:List Addr}:KsOk kvs->H a=some (.dK ((kvs.map (·.1)).zip vs))->ak K Hs H fl (kvs.map (·.2)) vs As->RepO K Hs H fl (.dK kvs) (.ref a) (a :: As)
 | dT {a:Addr} {vs:List V} {kvs:List (List Key × D)} {As:List Addr}:KtOk kvs->H a=some (.dT ((kvs.map (·.1)).zip vs))->ak K Hs H fl (kvs.map (·.2)) vs As->RepO K Hs H fl (.dT kvs) (.ref a) (a :: As)
inductive ak (K:PySem.W.Frag) (Hs H:Hp) (fl:Bool):List D->List V->List Addr->Prop
 | nil:ak K Hs H fl [] [] []
 | cons {d:D} {v:V} {ds:List D} {vs:List V} {As Bs:List Addr}:RepO K Hs H fl d v As->ak K Hs H fl ds vs Bs->ak K Hs H fl (d :: ds) (v :: vs) (As++Bs)
end
def Own (H:Hp) (a:Addr):Prop:=(∃ vs,H a=some (.lst vs))\/(∃ kvs,H a=some (.dK kvs))\/∃ kvs,H a=some (.dT kvs)
section
variable {K:PySem.W.Frag} {Hs Hs' H H':Hp} {fl:Bool}
theorem Own.ne {a:Addr} (h:Own H a):H a≠none:=by
 rcases h with ⟨_,e⟩ | ⟨_,e⟩ | ⟨_,e⟩ <;> rw [e] <;> exact fun z=>nomatch z
theorem Own.tE {a:Addr} {vs:List V} (h:Own H a):H a≠some (.tup vs):=by
 rcases h with ⟨_,e⟩ | ⟨_,e⟩ | ⟨_,e⟩ <;> rw [e] <;> exact fun z=>nomatch z
theorem RepO.ind {m1:D->V->List Addr->Prop} {m2:List D->List V->List Addr->Prop} (hs:∀ d v,(fl=true->d.flat=true)->Rep K Hs d v->m1 d v [])
  (hl:∀ a vs ds As,vs.length<=sizeLine->H a=some (.lst vs)->ak K Hs H fl ds vs As->m2 ds vs As->m1 (.list ds) (.ref a) (a :: As)) (ht:∀ a vs ds As,vs.length<=sizeLine->Hs a=some (.tup vs)->flats ds=false->ak K Hs H fl ds vs As->m2 ds vs As->m1 (.tup ds) (.ref a) As)
  (hk:∀ a vs kvs As,KsOk kvs->H a=some (.dK ((kvs.map (·.1)).zip vs))->ak K Hs H fl (kvs.map (·.2)) vs As->m2 (kvs.map (·.2)) vs As->m1 (.dK kvs) (.ref a) (a :: As)) (hT:∀ a vs kvs As,KtOk kvs->H a=some (.dT ((kvs.map (·.1)).zip vs))->ak K Hs H fl (kvs.map (·.2)) vs As->m2 (kvs.map (·.2)) vs As->m1 (.dT kvs) (.ref a) (a :: As))
  (hn:m2 [] [] []) (hc:∀ d v ds vs As Bs,RepO K Hs H fl d v As->ak K Hs H fl ds vs Bs->m1 d v As->m2 ds vs Bs->m2 (d :: ds) (v :: vs) (As++Bs)):(∀ {d v As},RepO K Hs H fl d v As->m1 d v As)/\∀ {ds vs As},ak K Hs H fl ds vs As->m2 ds vs As :=
 ⟨fun r=>RepO.rec (motive_1:=fun d v As _=>m1 d v As) (motive_2:=fun ds vs As _=>m2 ds vs As) (fun f r=>hs _ _ f r) (fun z s r ih=>hl _ _ _ _ z s r ih) (fun z s n r ih=>ht _ _ _ _ z s n r ih) (fun z s r ih=>hk _ _ _ _ z s r ih) (fun z s r ih=>hT _ _ _ _ z s r ih) hn (fun r s a b=>hc _ _ _ _ _ _ r s a b) r,
  fun r=>ak.rec (motive_1:=fun d v As _=>m1 d v As) (motive_2:=fun ds vs As _=>m2 ds vs As) (fun f r=>hs _ _ f r) (fun z s r ih=>hl _ _ _ _ z s r ih) (fun z s n r ih=>ht _ _ _ _ z s n r ih) (fun z s r ih=>hk _ _ _ _ z s r ih) (fun z s r ih=>hT _ _ _ _ z s r ih) hn (fun r s a b=>hc _ _ _ _ _ _ r s a b) r⟩
theorem mem0 {a:Addr} {p:Prop} (h:a∈([]:List Addr)):p:=absurd h xbR
theorem RepO.own2:(∀ {d:D} {v:V} {As:List Addr},RepO K Hs H fl d v As->∀ a∈As,Own H a)/\∀ {ds:List D} {vs:List V} {As:List Addr},ak K Hs H fl ds vs As->∀ a∈As,Own H a :=
 RepO.ind (m1:=fun _ _ As=>∀ a∈As,Own H a) (m2:=fun _ _ As=>∀ a∈As,Own H a) (fun _ _ _ _ a h=>mem0 h) (fun _ _ _ _ _ e _ ih a h=>(xag.mp h).elim (fun z=>z ▸ .inl ⟨_,e⟩) (ih a)) (fun _ _ _ _ _ _ _ _ ih=>ih)
  (fun _ _ _ _ _ e _ ih a h=>(xag.mp h).elim (fun z=>z ▸ .inr (.inl ⟨_,e⟩)) (ih a)) (fun _ _ _ _ _ e _ ih a h=>(xag.mp h).elim (fun z=>z ▸ .inr (.inr ⟨_,e⟩)) (ih a)) (fun a h=>mem0 h) fun _ _ _ _ _ _ _ _ i1 i2 a h=>(xal.mp h).elim (i1 a) (i2 a)
theorem RepO.own {d:D} {v:V} {As:List Addr} (r:RepO K Hs H fl d v As):∀ a∈As,Own H a:=RepO.own2.1 r
theorem ak.own {ds:List D} {vs:List V} {As:List Addr} (r:ak K Hs H fl ds vs As):∀ a∈As,Own H a:=RepO.own2.2 r
theorem RepO.Bq (s:Same Hs Hs'):(∀ {d:D} {v:V} {As:List Addr},RepO K Hs H fl d v As->(∀ a∈As,H' a=H a)->RepO K Hs' H' fl d v As)/\∀ {ds:List D} {vs:List V} {As:List Addr},ak K Hs H fl ds vs As->(∀ a∈As,H' a=H a)->ak K Hs' H' fl ds vs As :=
 RepO.ind (m1:=fun d v As=>(∀ a∈As,H' a=H a)->RepO K Hs' H' fl d v As) (m2:=fun ds vs As=>(∀ a∈As,H' a=H a)->ak K Hs' H' fl ds vs As) (fun _ _ f r _=>.sh f (r.same s))
  (fun _ _ _ _ z e _ ih k=>.list z ((k _ xac).trans e) (ih fun a h=>k a (xab _ h))) (fun _ _ _ _ z e n _ ih k=>.tup z (s _ _ e) n (ih k)) (fun _ _ _ _ z e _ ih k=>.dK z ((k _ xac).trans e) (ih fun a h=>k a (xab _ h)))
  (fun _ _ _ _ z e _ ih k=>.dT z ((k _ xac).trans e) (ih fun a h=>k a (xab _ h))) (fun _=>.nil) fun _ _ _ _ _ _ _ _ i1 i2 k=>.cons (i1 fun a h=>k a (xay _ h)) (i2 fun a h=>k a (xai _ h))
theorem RepO.stay (s:Same Hs Hs') {d:D} {v:V} {As:List Addr} (r:RepO K Hs H fl d v As) (k:∀ a∈As,H' a=H a):RepO K Hs' H' fl d v As:=(RepO.Bq s).1 r k
theorem ak.stay (s:Same Hs Hs') {ds:List D} {vs:List V} {As:List Addr} (r:ak K Hs H fl ds vs As) (k:∀ a∈As,H' a=H a):ak K Hs' H' fl ds vs As:=(RepO.Bq s).2 r k
theorem RepO.grow {d:D} {v:V} {As:List Addr} (s:Same Hs Hs') (t:Same H H') (r:RepO K Hs H fl d v As):RepO K Hs' H' fl d v As :=
 r.stay s fun a h=>by
  cases e:H a with
  | none=>exact absurd e (r.own a h).ne
  | some o=>exact t a o e
theorem ak.grow {ds:List D} {vs:List V} {As:List Addr} (s:Same Hs Hs') (t:Same H H') (r:ak K Hs H fl ds vs As):ak K Hs' H' fl ds vs As :=
 r.stay s fun a h=>by
  cases e:H a with
  | none=>exact absurd e (r.own a h).ne
  | some o=>exact t a o e
theorem RepO.rep2 {G:Hp} (s:Same Hs G):(∀ {d:D} {v:V} {As:List Addr},RepO K Hs H fl d v As->(∀ a∈As,G a=H a)->Rep K G d v)/\∀ {ds:List D} {vs:List V} {As:List Addr},ak K Hs H fl ds vs As->(∀ a∈As,G a=H a)->Reps K G ds vs :=
 RepO.ind (m1:=fun d v As=>(∀ a∈As,G a=H a)->Rep K G d v) (m2:=fun ds vs As=>(∀ a∈As,G a=H a)->Reps K G ds vs) (fun _ _ _ r _=>r.same s)
  (fun _ _ _ _ z e _ ih k=>.list z (.inl (.inl ((k _ xac).trans e))) (ih fun a h=>k a (xab _ h))) (fun _ _ _ _ z e n _ ih k=>.tup z (s _ _ e) (ih k)) (fun _ _ _ _ z e _ ih k=>.dK z ((k _ xac).trans e) (ih fun a h=>k a (xab _ h)))
  (fun _ _ _ _ z e _ ih k=>.dT z ((k _ xac).trans e) (ih fun a h=>k a (xab _ h))) (fun _=>.nil) fun _ _ _ _ _ _ _ _ i1 i2 k=>.cons (i1 fun a h=>k a (xay _ h)) (i2 fun a h=>k a (xai _ h))
theorem RepO.rep {G:Hp} (s:Same Hs G) {d:D} {v:V} {As:List Addr} (r:RepO K Hs H fl d v As) (k:∀ a∈As,G a=H a):Rep K G d v:=(RepO.rep2 s).1 r k
theorem ak.reps {G:Hp} (s:Same Hs G) {ds:List D} {vs:List V} {As:List Addr} (r:ak K Hs H fl ds vs As) (k:∀ a∈As,G a=H a):Reps K G ds vs:=(RepO.rep2 s).2 r k
theorem Rep.uW {G:Hp} (t:∀ a vs,H a=some (.tup vs)->G a=some (.tup vs)):(∀ {d:D} {v:V},Rep K H d v->d.flat=true->Rep K G d v)/\∀ {ds:List D} {vs:List V},Reps K H ds vs->flats ds=true->Reps K G ds vs :=
 Rep.ind (m1:=fun d v=>d.flat=true->Rep K G d v) (m2:=fun ds vs=>flats ds=true->Reps K G ds vs) (fun _=>.non) (fun b _=>.bl b) (fun i _=>.int i) (fun _ h _=>.str h) (fun _ _ _ _ _ _ _ f=>by simp [D.flat] at f) (fun _ _ _ z e _ ih f=>.tup z (t _ _ e) (ih (by simpa [D.flat] using f)))
  (fun _ _ _ _ _ _ _ f=>by simp [D.flat] at f) (fun _ _ _ _ _ _ _ f=>by simp [D.flat] at f) (fun _=>.nil) fun _ _ _ _ _ _ i1 i2 f=>by
   simp only [flats,xaA] at f
   exact .cons (i1 f.1) (i2 f.2)
theorem Rep.fH {G:Hp} (t:∀ a vs,H a=some (.tup vs)->G a=some (.tup vs)) {d:D} {v:V} (r:Rep K H d v) (f:d.flat=true):Rep K G d v:=(Rep.uW t).1 r f
theorem Reps.fH {G:Hp} (t:∀ a vs,H a=some (.tup vs)->G a=some (.tup vs)) {ds:List D} {vs:List V} (r:Reps K H ds vs) (f:flats ds=true):Reps K G ds vs:=(Rep.uW t).2 r f
theorem Reps.owned {ds:List D} {vs:List V} (r:Reps K Hs ds vs) (f:flats ds=true):ak K Hs H fl ds vs [] :=
 Reps.ind (m:=fun ds vs=>flats ds=true->ak K Hs H fl ds vs []) (fun _=>.nil) (fun _ _ _ _ h _ ih f=>by
  simp only [flats,xaA] at f
  exact .cons (As:=[]) (.sh (fun _=>f.1) h) (ih f.2)) r f
theorem Reps.Bw {ds:List D} {vs:List V} (r:Reps K Hs ds vs):ak K Hs H false ds vs [] :=
 Reps.ind (m:=fun ds vs=>ak K Hs H false ds vs []) .nil (fun _ _ _ _ h _ ih=>.cons (As:=[]) (.sh (fun z=>Bool.noConfusion z) h) ih) r
theorem RepO.fls2:(∀ {d:D} {v:V} {As:List Addr},RepO K Hs H fl d v As->RepO K Hs H false d v As)/\∀ {ds:List D} {vs:List V} {As:List Addr},ak K Hs H fl ds vs As->ak K Hs H false ds vs As :=
 RepO.ind (fun _ _ _ r=>.sh (fun z=>Bool.noConfusion z) r) (fun _ _ _ _ z e _ ih=>.list z e ih) (fun _ _ _ _ z e n _ ih=>.tup z e n ih) (fun _ _ _ _ z e _ ih=>.dK z e ih) (fun _ _ _ _ z e _ ih=>.dT z e ih) .nil fun _ _ _ _ _ _ _ _ a b=>.cons a b
theorem RepO.fls {d:D} {v:V} {As:List Addr} (r:RepO K Hs H fl d v As):RepO K Hs H false d v As:=RepO.fls2.1 r
theorem ak.fls {ds:List D} {vs:List V} {As:List Addr} (r:ak K Hs H fl ds vs As):ak K Hs H false ds vs As:=RepO.fls2.2 r
theorem RepO.yp {G:Hp} (t:∀ a vs,Hs a=some (.tup vs)->G a=some (.tup vs)):(∀ {d:D} {v:V} {As:List Addr},RepO K Hs H true d v As->RepO K G H true d v As)/\∀ {ds:List D} {vs:List V} {As:List Addr},ak K Hs H true ds vs As->ak K G H true ds vs As :=
 RepO.ind (fun _ _ f r=>.sh f (r.fH t (f rfl))) (fun _ _ _ _ z e _ ih=>.list z e ih) (fun _ _ _ _ z e n _ ih=>.tup z (t _ _ e) n ih) (fun _ _ _ _ z e _ ih=>.dK z e ih) (fun _ _ _ _ z e _ ih=>.dT z e ih) .nil fun _ _ _ _ _ _ _ _ a b=>.cons a b
theorem RepO.leaves {G:Hp} (t:∀ a vs,Hs a=some (.tup vs)->G a=some (.tup vs)) {d:D} {v:V} {As:List Addr} (r:RepO K Hs H true d v As):RepO K G H true d v As:=(RepO.yp t).1 r
theorem ak.ind {m:List D->List V->List Addr->Prop} (hn:m [] [] []) (hc:∀ d v ds vs As Bs,RepO K Hs H fl d v As->ak K Hs H fl ds vs Bs->m ds vs Bs->m (d :: ds) (v :: vs) (As++Bs)):∀ {ds vs As},ak K Hs H fl ds vs As->m ds vs As :=
 fun r=>(RepO.ind (m1:=fun _ _ _=>True) (m2:=m) (fun _ _ _ _=>trivial) (fun _ _ _ _ _ _ _ _=>trivial) (fun _ _ _ _ _ _ _ _ _=>trivial) (fun _ _ _ _ _ _ _ _=>trivial) (fun _ _ _ _ _ _ _ _=>trivial) hn fun d v ds vs As Bs r s _ b=>hc d v ds vs As Bs r s b).2 r
theorem ak.append {ds es:List D} {vs ws:List V} {As Bs:List Addr} (r:ak K Hs H fl ds vs As) (t:ak K Hs H fl es ws Bs):ak K Hs H fl (ds++es) (vs++ws) (As++Bs) :=
 ak.ind (m:=fun ds vs As=>ak K Hs H fl (ds++es) (vs++ws) (As++Bs)) t (fun _ _ _ _ _ _ h _ ih=>by
  rw [xbZ]
  exact .cons h ih) r
theorem ak.n0 {vs:List V} {As:List Addr} (h:ak K Hs H fl [] vs As):vs=[]/\As=[]:=by cases h; exact ⟨rfl,rfl⟩
theorem ak.c {d:D} {ds:List D} {vs:List V} {As:List Addr} (h:ak K Hs H fl (d :: ds) vs As):∃ u us A B,vs=u :: us/\As=A++B/\RepO K Hs H fl d u A/\ak K Hs H fl ds us B:=by
 cases h with
 | cons r rs=>exact ⟨_,_,_,_,rfl,rfl,r,rs⟩
theorem ak.length {ds:List D} {vs:List V} {As:List Addr} (r:ak K Hs H fl ds vs As):ds.length=vs.length :=
 ak.ind (m:=fun ds vs _=>ds.length=vs.length) rfl (fun _ _ _ _ _ _ _ _ ih=>by rw [xaU,xaU,ih]) r
end
inductive Sl where
 /-- shared; owned; owned and walked by a loop just now (at a) -/
 | sh (d:D) | ow (fl:Bool) (d:D) | lk (a:Addr) (fl:Bool) (d:D)
 /-- an exception,at a -/
 | xc (a:Addr)
abbrev Env:=List (Option Sl)
inductive SR (K:PySem.W.Frag) (Hs H:Hp):Env->St->List Addr->Prop
 | nil:SR K Hs H [] [] []
 | non {ρ:Env} {σ:St} {tot:List Addr} {o:Option V}:SR K Hs H ρ σ tot->SR K Hs H (none :: ρ) (o :: σ) tot
 | sh {ρ:Env} {σ:St} {tot:List Addr} {d:D} {v:V}:Rep K Hs d v->SR K Hs H ρ σ tot->SR K Hs H (some (.sh d) :: ρ) (some v :: σ) tot
 | xc {ρ:Env} {σ:St} {tot:List Addr} {a:Addr}:SR K Hs H ρ σ tot->SR K Hs H (some (.xc a) :: ρ) (some (.ref a) :: σ) tot
 | ow {ρ:Env} {σ:St} {tot As:List Addr} {fl:Bool} {d:D} {v:V}:As≠[]->RepO K Hs H fl d v As->SR K Hs H ρ σ tot->SR K Hs H (some (.ow fl d) :: ρ) (some v :: σ) (As++tot)
 | lk {ρ:Env} {σ:St} {tot As:List Addr} {a:Addr} {fl:Bool} {d:D}:As≠[]->RepO K Hs H fl d (.ref a) As->SR K Hs H ρ σ tot->SR K Hs H (some (.lk a fl d) :: ρ) (some (.ref a) :: σ) (As++tot)
structure Wf (Hs H:Hp):Prop where
 sub:Same Hs H
 tups:∀ a vs,H a=some (.tup vs)->Hs a=some (.tup vs)
structure SRel (K:PySem.W.Frag) (Hs:Hp) (ρ:Env) (σ:St) (H:Hp) (tot:List Addr):Prop where
 sr:SR K Hs H ρ σ tot
 wf:Wf Hs H
 nod:tot.Nodup
 own:∀ a∈tot,Hs a=none
structure Grow (Hs H Hs' H':Hp):Prop where
 all:Same H H'
 sh:Same Hs Hs'
 wf:Wf Hs' H'
 new:∀ a,Hs' a≠none->Hs a≠none\/H a=none
section
variable {K:PySem.W.Frag} {Hs H Hs' H' Hs'' H'':Hp}
theorem Grow.refl (w:Wf Hs H):Grow Hs H Hs H:=⟨Same.refl _,Same.refl _,w,fun _ h=>.inl h⟩
theorem Grow.trans (a:Grow Hs H Hs' H') (b:Grow Hs' H' Hs'' H''):Grow Hs H Hs'' H'' :=
 ⟨a.all.trans b.all,a.sh.trans b.sh,b.wf,fun c h=>by
  rcases b.new c h with h | h
  ·exact a.new c h
  ·exact .inr (a.all.free h)⟩
theorem Grow.hsn (g:Grow Hs H Hs' H') {a:Addr} (h:Hs a=none) (h':H a≠none):Hs' a=none:=by
 cases e:Hs' a with
 | none=>rfl
 | some o =>
  rcases g.new a (by rw [e]; exact fun z=>nomatch z) with z | z
  ·exact absurd h z
  ·exact absurd z h'
theorem SR.own {ρ:Env} {σ:St} {tot:List Addr} (s:SR K Hs H ρ σ tot):∀ a∈tot,Own H a:=by
 induction s with
 | nil=>exact fun a h=>mem0 h
 | non _ ih=>exact ih
 | sh _ _ ih=>exact ih
 | xc _ ih=>exact ih
 | ow _ r _ ih=>exact fun a h=>(xal.mp h).elim (r.own a) (ih a)
 | lk _ r _ ih=>exact fun a h=>(xal.mp h).elim (r.own a) (ih a)
theorem SR.stay (s:Same Hs Hs') {ρ:Env} {σ:St} {tot:List Addr} (r:SR K Hs H ρ σ tot):(∀ a∈tot,H' a=H a)->SR K Hs' H' ρ σ tot:=by
 induction r with
 | nil=>exact fun _=>.nil
 | non _ ih=>exact fun k=>.non (ih k)
 | sh h _ ih=>exact fun k=>.sh (h.same s) (ih k)
 | xc _ ih=>exact fun k=>.xc (ih k)
 | ow ne h _ ih=>exact fun k=>.ow ne (h.stay s fun a m=>k a (xay _ m)) (ih fun a m=>k a (xai _ m))
 | lk ne h _ ih=>exact fun k=>.lk ne (h.stay s fun a m=>k a (xay _ m)) (ih fun a m=>k a (xai _ m))
theorem SRel.grow {ρ:Env} {σ:St} {tot:List Addr} (r:SRel K Hs ρ σ H tot) (g:Grow Hs H Hs' H'):SRel K Hs' ρ σ H' tot :=
 ⟨r.sr.stay g.sh fun a h=>by
  cases e:H a with
  | none=>exact absurd e (r.sr.own a h).ne
  | some o=>exact g.all a o e,g.wf,r.nod,fun a h=>g.hsn (r.own a h) (r.sr.own a h).ne⟩
theorem SR.length {ρ:Env} {σ:St} {tot:List Addr} (s:SR K Hs H ρ σ tot):ρ.length=σ.length:=by
 induction s with
 | nil=>rfl
 | non _ ih=>exact congrArg (· + 1) ih
 | sh _ _ ih=>exact congrArg (· + 1) ih
 | xc _ ih=>exact congrArg (· + 1) ih
 | ow _ _ _ ih=>exact congrArg (· + 1) ih
 | lk _ _ _ ih=>exact congrArg (· + 1) ih
def w6 (K:PySem.W.Frag) (Hs H:Hp) (tot:List Addr) (sl:Sl) (v:V):Prop:=match sl with
 | .sh d=>Rep K Hs d v
 | .ow fl d=>∃ As,As≠[]/\RepO K Hs H fl d v As/\∀ a∈As,a∈tot
 | .lk a fl d=>∃ As,As≠[]/\RepO K Hs H fl d v As/\v=.ref a/\∀ a∈As,a∈tot
 | .xc a=>v=.ref a
theorem w6.mono {tot tot':List Addr} {sl:Sl} {v:V} (h:w6 K Hs H tot sl v) (m:∀ a∈tot,a∈tot'):w6 K Hs H tot' sl v:=by
 cases sl with
 | sh d=>exact h
 | xc a=>exact h
 | ow fl d =>
  obtain ⟨As,ne,r,q⟩:=h
  exact ⟨As,ne,r,fun a ha=>m a (q a ha)⟩
 | lk a fl d =>
  obtain ⟨As,ne,r,e,q⟩:=h
  exact ⟨As,ne,r,e,fun a ha=>m a (q a ha)⟩
theorem SR.get {ρ:Env} {σ:St} {tot:List Addr} {i:Nat} {sl:Sl} (s:SR K Hs H ρ σ tot) (e:ρ[i]? = some (some sl)):∃ v,σ[i]? = some (some v)/\w6 K Hs H tot sl v:=by
 induction s generalizing i with
 | nil=>simp at e
 | non s ih =>
  cases i with
  | zero=>simp at e
  | succ i=>exact ih e
 | sh r s ih =>
  cases i with
  | zero=>simp at e; subst e; exact ⟨_,rfl,r⟩
  | succ i=>exact ih e
 | xc s ih =>
  cases i with
  | zero=>simp at e; subst e; exact ⟨_,rfl,rfl⟩
  | succ i=>exact ih e
 | ow ne r s ih =>
  cases i with
  | zero=>simp at e; subst e; exact ⟨_,rfl,_,ne,r,fun a m=>xay _ m⟩
  | succ i =>
   obtain ⟨v,e1,h⟩:=ih e
   exact ⟨v,e1,h.mono fun a m=>xai _ m⟩
 | lk ne r s ih =>
  cases i with
  | zero=>simp at e; subst e; exact ⟨_,rfl,_,ne,r,rfl,fun a m=>xay _ m⟩
  | succ i =>
   obtain ⟨v,e1,h⟩:=ih e
   exact ⟨v,e1,h.mono fun a m=>xai _ m⟩
end
inductive Md where
 | sh | ow (fl:Bool) | bo
def RM (K:PySem.W.Frag) (Hs H:Hp):Md->D->V->List Addr->Prop
 | .sh,d,v,As=>As=[]/\Rep K Hs d v
 | .ow fl,d,v,As=>RepO K Hs H fl d v As/\As≠[]
 | .bo,d,v,As=>As=[]/\Rep K H d v
inductive RMs (K:PySem.W.Frag) (Hs H:Hp):List (Md × D)->List V->List Addr->Prop
 | nil:RMs K Hs H [] [] []
 | cons {m:Md} {d:D} {v:V} {ps:List (Md × D)} {vs:List V} {As Bs:List Addr}:RM K Hs H m d v As->RMs K Hs H ps vs Bs->RMs K Hs H ((m,d) :: ps) (v :: vs) (As++Bs)
section
variable {K:PySem.W.Frag} {Hs H Hs' H':Hp}
theorem RM.own {m:Md} {d:D} {v:V} {As:List Addr} (r:RM K Hs H m d v As):∀ a∈As,Own H a:=by
 cases m with
 | sh=>obtain ⟨rfl,_⟩:=r; exact fun a h=>mem0 h
 | ow fl=>exact RepO.own r.1
 | bo=>obtain ⟨rfl,_⟩:=r; exact fun a h=>mem0 h
theorem RM.grow {m:Md} {d:D} {v:V} {As:List Addr} (r:RM K Hs H m d v As) (g:Grow Hs H Hs' H'):RM K Hs' H' m d v As:=by
 cases m with
 | sh=>exact ⟨r.1,r.2.same g.sh⟩
 | ow fl=>exact ⟨RepO.grow g.sh g.all r.1,r.2⟩
 | bo=>exact ⟨r.1,r.2.same g.all⟩
theorem RM.rep {m:Md} {d:D} {v:V} {As:List Addr} (w:Wf Hs H) (r:RM K Hs H m d v As):Rep K H d v:=by
 cases m with
 | sh=>exact r.2.same w.sub
 | ow fl=>exact RepO.rep w.sub r.1 fun _ _=>rfl
 | bo=>exact r.2
theorem RM.flat {m:Md} {d:D} {v:V} {As:List Addr} (w:Wf Hs H) (r:RM K Hs H m d v As) (f:d.flat=true):Rep K Hs d v:=(r.rep w).fH w.tups f
theorem RMs.own {ps:List (Md × D)} {vs:List V} {As:List Addr} (r:RMs K Hs H ps vs As):∀ a∈As,Own H a:=by
 induction r with
 | nil=>exact fun a h=>mem0 h
 | cons r _ ih=>exact fun a h=>(xal.mp h).elim (r.own a) (ih a)
theorem RMs.grow (g:Grow Hs H Hs' H') {ps:List (Md × D)} {vs:List V} {As:List Addr} (r:RMs K Hs H ps vs As):RMs K Hs' H' ps vs As:=by
 induction r with
 | nil=>exact .nil
 | cons r _ ih=>exact .cons (r.grow g) ih
theorem RMs.reps (w:Wf Hs H) {ps:List (Md × D)} {vs:List V} {As:List Addr} (r:RMs K Hs H ps vs As):Reps K H (ps.map (·.2)) vs:=by
 induction r with
 | nil=>exact .nil
 | cons r _ ih=>exact .cons (r.rep w) ih
end
abbrev WE:=Env->(Md->D->Prop)->Prop
abbrev WT:=Env->(Bool->Prop)->Prop
abbrev WA:=Env->(List (Md × D)->Prop)->Prop
structure jf where
 nx:Env->Prop
 rt:Md->D->Prop
 bk:Env->Prop:=fun _=>False
 ct:Env->Prop:=fun _=>False
abbrev WS:=jf->Env->Prop
def bK (Hs' H:Hp) (As:List Addr):Prop:=As.Nodup/\∀ a∈As,Hs' a=none/\H a=none
def tpE (K:PySem.W.Frag) (t:WE):TE:=fun σ H Qv=>∃ Hs ρ tot Q,SRel K Hs ρ σ H tot/\t ρ Q /\
 ∀ v H' Hs' m d As,Grow Hs H Hs' H'->RM K Hs' H' m d v As->bK Hs' H As->Q m d->Qv v H'
def tpT (K:PySem.W.Frag) (t:WT):TT:=fun σ H Qv=>∃ Hs ρ tot Q,SRel K Hs ρ σ H tot/\t ρ Q/\∀ b H' Hs',Grow Hs H Hs' H'->Q b->Qv b H'
def tpA (K:PySem.W.Frag) (t:WA):TA:=fun σ H Qv=>∃ Hs ρ tot Q,SRel K Hs ρ σ H tot/\t ρ Q /\
 ∀ vs H' Hs' ps As,Grow Hs H Hs' H'->RMs K Hs' H' ps vs As->bK Hs' H As->Q ps->Qv vs H'
def tpS (K:PySem.W.Frag) (L:Str->Hp->Prop) (t:WS):TS:=fun D σ H=>∃ Hs ρ tot E,SRel K Hs ρ σ H tot/\t E ρ /\
 (∀ σ' H' Hs' ρ' tot',Same Hs Hs'->SRel K Hs' ρ' σ' H' tot'->E.nx ρ'->D.nx σ' H') /\
 (∀ σ' H' Hs' ρ' tot',Same Hs Hs'->SRel K Hs' ρ' σ' H' tot'->E.bk ρ'->D.bk σ' H') /\
 (∀ σ' H' Hs' ρ' tot',Same Hs Hs'->SRel K Hs' ρ' σ' H' tot'->E.ct ρ'->D.ct σ' H') /\
 (∀ v H' Hs' m d As,Same Hs Hs'->Wf Hs' H'->RM K Hs' H' m d v As->As.Nodup->(∀ a∈As,Hs' a=none)->E.rt m d->D.rt v H') /\
 ∀ n H',Same Hs H'->E.rt (.ow false) (.str n)->L n H'
theorem iY {K:PySem.W.Frag} {L:Str->Hp->Prop} {t:WS} {D:Ends} {σ:St} {H:Hp} {G:Prop} (x:tpS K L t D σ H) (k:∀ Hs ρ tot E,SRel K Hs ρ σ H tot->t E ρ ->
 (∀ σ' H' Hs' ρ' tot',Same Hs Hs'->SRel K Hs' ρ' σ' H' tot'->E.nx ρ'->D.nx σ' H') ->
 (∀ σ' H' Hs' ρ' tot',Same Hs Hs'->SRel K Hs' ρ' σ' H' tot'->E.bk ρ'->D.bk σ' H') ->
 (∀ σ' H' Hs' ρ' tot',Same Hs Hs'->SRel K Hs' ρ' σ' H' tot'->E.ct ρ'->D.ct σ' H') ->
 (∀ v H' Hs' m d As,Same Hs Hs'->Wf Hs' H'->RM K Hs' H' m d v As->As.Nodup->(∀ a∈As,Hs' a=none)->E.rt m d->D.rt v H') ->
 (∀ n H',Same Hs H'->E.rt (.ow false) (.str n)->L n H')->G):G :=
 by
 obtain ⟨Hs,ρ,tot,E,sr,h,k1,k2,k3,k4,kx⟩:=x
 exact k Hs ρ tot E sr h k1 k2 k3 k4 kx
theorem fj {K:PySem.W.Frag} {L:Str->Hp->Prop} {t:WS} {D:Ends} {σ:St} {H:Hp} {G:Prop} (x:tpS K L t D σ H) (k:∀ Hs ρ tot E,SRel K Hs ρ σ H tot->t E ρ ->
 (∀ σ' H' Hs' ρ' tot',Same Hs Hs'->SRel K Hs' ρ' σ' H' tot'->E.nx ρ'->D.nx σ' H') ->
 (∀ σ' H' Hs' ρ' tot',Same Hs Hs'->SRel K Hs' ρ' σ' H' tot'->E.bk ρ'->D.bk σ' H') ->
 (∀ σ' H' Hs' ρ' tot',Same Hs Hs'->SRel K Hs' ρ' σ' H' tot'->E.ct ρ'->D.ct σ' H') ->
 (∀ v H' Hs' m d As,Same Hs Hs'->Wf Hs' H'->RM K Hs' H' m d v As->As.Nodup->(∀ a∈As,Hs' a=none)->E.rt m d->D.rt v H')->G):G :=
 iY x fun Hs ρ tot E sr h k1 k2 k3 k4 _=>k Hs ρ tot E sr h k1 k2 k3 k4
theorem ex4 {α β γ δ:Type _} {A B C:α->β->γ->δ->Prop} {G:Prop} (x:∃ a b c d,A a b c d/\B a b c d/\C a b c d) (k:∀ a b c d,A a b c d->B a b c d->C a b c d->G):G :=
 by
 obtain ⟨a,b,c,d,p,q,r⟩:=x
 exact k a b c d p q r
abbrev QE (X:Cx) (K:PySem.W.Frag) (e:Expr) (t:WE):Prop:=PE X e (tpE K t)
abbrev QT (X:Cx) (K:PySem.W.Frag) (e:Expr) (t:WT):Prop:=PT X e (tpT K t)
abbrev QW (X:Cx) (K:PySem.W.Frag) (e:Expr) (t:WT):Prop:=PW X e (tpT K t)
abbrev QA (X:Cx) (K:PySem.W.Frag) (es:List Expr) (t:WA):Prop:=PA X es (tpA K t)
abbrev QS (X:Cx) (K:PySem.W.Frag) (L:Str->Hp->Prop) (st:Stmt) (t:WS):Prop:=PS X st (tpS K L t)
abbrev QSs (X:Cx) (K:PySem.W.Frag) (L:Str->Hp->Prop) (st:List Stmt) (t:WS):Prop:=PSs X st (tpS K L t)
abbrev L0:Str->Hp->Prop:=fun _ _=>True
end L2.Q
namespace L2.Q
open PySem PySem.Spec PyProof.Rows
structure Kt {α:Type} (f:α->Prop):Type where
def onK {α:Type} (a:α) {f:α->Prop} (_:Kt f):Prop:=f a
mutual
def D.py:D->PyData
 | .non=>.none
 | .bl b=>.bool b
 | .int i=>.int i
 | .str x=>.str x
 | .list xs=>.list (pys xs)
 | .tup xs=>.tuple (pys xs)
 | .dK _=>.none
 | .dT _=>.none
def pys:List D->List PyData
 | []=>[]
 | x :: xs=>x.py :: pys xs
end
def okD:Nat->D->Bool
 | _,.non=>true
 | _,.bl _=>true
 | _,.int _=>true
 | _,.str x=>PyData.strOk x
 | n+1,.list xs=>xs.all (okD n)
 | n+1,.tup xs=>xs.all (okD n)
 | _,_=>false
def eqD (x y:D):Bool:=PyData.eqv x.py y.py
def D.ty:D->String
 | .non => "NoneType"
 | .bl _ => "bool"
 | .int _ => "int"
 | .str _ => "str"
 | .list _ => "list"
 | .tup _ => "tuple"
 | .dK _ => "dict"
 | .dT _ => "dict"
def D.key1:D->Option Key
 | .int i=>some (.inl i)
 | .str x=>some (.inr x)
 | _=>none
def dO:List D->Option (List Key)
 | []=>some []
 | x :: xs=>match x.key1,dO xs with
  | some k,some ks=>some (k :: ks)
  | _,_=>none
section
variable {κ:Type} [DecidableEq κ] {β:Type}
def getG (kvs:List (κ × β)) (k:κ):Option β:=(kvs.find? fun kv=>decide (kv.1=k)).map (·.2)
def putG (kvs:List (κ × β)) (k:κ) (v:β):List (κ × β) :=
 if (kvs.any fun kv=>decide (kv.1=k))=true then kvs.map (fun kv=>if kv.1=k then (kv.1,v) else kv) else kvs++[(k,v)]
end
theorem Rep.l22 {K:PySem.W.Frag} {H:Hp}:(∀ {d:D} {v:V},Rep K H d v->∀ n,okD n d=true->L2.Rep K H d.py v)/\∀ {ds:List D} {vs:List V},Reps K H ds vs->∀ n,(∀ d∈ds,okD n d=true)->L2.Reps K H (pys ds) vs :=
 Rep.ind (m1:=fun d v=>∀ n,okD n d=true->L2.Rep K H d.py v) (m2:=fun ds vs=>∀ n,(∀ d∈ds,okD n d=true)->L2.Reps K H (pys ds) vs) (fun _ _=>.none) (fun b _ _=>.bool b) (fun i _ _=>.int i) (fun _ _ _ _=>.str _)
  (fun _ _ _ _ h _ ih n o=>by
   cases n with
   | zero=>simp [okD] at o
   | succ n=>exact .list h (ih n (by simpa [okD] using o)))
  (fun _ _ _ _ h _ ih n o=>by
   cases n with
   | zero=>simp [okD] at o
   | succ n=>exact .tuple (.inl (.inl h)) (ih n (by simpa [okD] using o)))
  (fun _ _ _ _ _ _ _ n o=>by cases n <;> simp [okD] at o) (fun _ _ _ _ _ _ _ n o=>by cases n <;> simp [okD] at o) (fun _ _=>.nil)
  fun _ _ _ _ _ _ i1 i2 n o=>.cons (i1 n (o _ xac)) (i2 n fun d m=>o d (xab _ m))
theorem Rep.l2 {K:PySem.W.Frag} {H:Hp} {n:Nat} {d:D} {v:V} (r:Rep K H d v) (o:okD n d=true):L2.Rep K H d.py v:=Rep.l22.1 r n o
theorem sG {n:Nat} (ih:∀ d,okD n d=true->d.py.canLay0=true/\d.py.depth<=n) (xs:List D) (h:∀ x∈xs,okD n x=true):PyData.canLayAll0 (pys xs)=true/\PyData.depthAll (pys xs)<=n:=by
 induction xs with
 | nil=>exact ⟨rfl,xaz _⟩
 | cons x xs ih2 =>
  have h1:=ih x (h x xac)
  have h2:=ih2 fun y hy=>h y (xab _ hy)
  simp only [pys,PyData.canLayAll0,PyData.depthAll,h1.1,h2.1,Bool.and_self,true_and]
  lia
theorem dW (n:Nat):∀ (d:D),okD n d=true->d.py.canLay0=true/\d.py.depth<=n:=by
 have st:∀ (n:Nat) (x:Str),okD n (.str x)=true->(D.str x).py.canLay0=true/\(D.str x).py.depth<=n:=fun n x h=>by
  have h:PyData.strOk x=true:=by cases n <;> simpa [okD] using h
  exact ⟨by simpa [D.py,PyData.canLay0] using h,xaz _⟩
 induction n with
 | zero =>
  intro d h
  cases d with
  | str x=>exact st _ x h
  | non=>exact ⟨rfl,xaz _⟩
  | bl _=>exact ⟨rfl,xaz _⟩
  | int _=>exact ⟨rfl,xaz _⟩
  | _=>simp [okD] at h
 | succ n ih =>
  intro d h
  cases d with
  | str x=>exact st _ x h
  | non=>exact ⟨rfl,xaz _⟩
  | bl _=>exact ⟨rfl,xaz _⟩
  | int _=>exact ⟨rfl,xaz _⟩
  | list xs =>
   have h:∀ x∈xs,okD n x=true:=by simpa [okD] using h
   have:=sG ih xs h
   simp only [D.py,PyData.canLay0,PyData.depth]
   exact ⟨this.1,by lia⟩
  | tup xs =>
   have h:∀ x∈xs,okD n x=true:=by simpa [okD] using h
   have:=sG ih xs h
   simp only [D.py,PyData.canLay0,PyData.depth]
   exact ⟨this.1,by lia⟩
  | dK _=>simp [okD] at h
  | dT _=>simp [okD] at h
mutual
def D.nb:D->Bool
 | .bl _=>false
 | .list xs=>nbs xs
 | .tup xs=>nbs xs
 | .dK _=>false
 | .dT _=>false
 | _=>true
def nbs:List D->Bool
 | []=>true
 | x :: xs=>x.nb && nbs xs
end
mutual
theorem cZ:∀ (x y:D),x.nb=true->y.nb=true->(eqD x y=true↔x=y)
 | .non,y,_,hy=>by cases y <;> simp_all [eqD,D.py,PyData.eqv,D.nb]
 | .bl _,y,hx,_=>by simp [D.nb] at hx
 | .int i,y,_,hy=>by cases y <;> simp_all [eqD,D.py,PyData.eqv,D.nb]
 | .str i,y,_,hy=>by cases y <;> simp_all [eqD,D.py,PyData.eqv,D.nb]
 | .dK _,y,hx,_=>by simp [D.nb] at hx
 | .dT _,y,hx,_=>by simp [D.nb] at hx
 | .list xs,y,hx,hy=>by
  cases y with
  | list ys =>
   have:=kW xs ys (by simpa [D.nb] using hx) (by simpa [D.nb] using hy)
   simp only [eqD,D.py,PyData.eqv,D.list.injEq]
   exact this
  | _=>simp_all [eqD,D.py,PyData.eqv,D.nb]
 | .tup xs,y,hx,hy=>by
  cases y with
  | tup ys =>
   have:=kW xs ys (by simpa [D.nb] using hx) (by simpa [D.nb] using hy)
   simp only [eqD,D.py,PyData.eqv,D.tup.injEq]
   exact this
  | _=>simp_all [eqD,D.py,PyData.eqv,D.nb]
theorem kW:∀ (xs ys:List D),nbs xs=true->nbs ys=true->(PyData.eqvAll (pys xs) (pys ys)=true↔xs=ys)
 | [],[],_,_=>by simp [pys,PyData.eqvAll]
 | [],_ :: _,_,_=>by simp [pys,PyData.eqvAll]
 | _ :: _,[],_,_=>by simp [pys,PyData.eqvAll]
 | x :: xs,y :: ys,hx,hy=>by
  simp only [nbs,xaA] at hx hy
  have h1:=cZ x y hx.1 hy.1
  have h2:=kW xs ys hx.2 hy.2
  simp only [pys,PyData.eqvAll,xaA,List.cons.injEq]
  exact and_congr h1 h2
end
section
variable {K:PySem.W.Frag} {H:Hp}
theorem Rep.key {d:D} {v:V} {k:Key} (r:Rep K H d v) (h:d.key1=some k):v=kV k:=by
 cases r <;> simp [D.key1] at h <;> subst h <;> rfl
theorem Reps.keys {ds:List D} {vs:List V} {ks:List Key} (r:Reps K H ds vs) (h:dO ds=some ks):vs=ks.map kV:=by
 induction ds generalizing vs ks with
 | nil=>simp [dO] at h; subst h; exact r.n0
 | cons d ds ih =>
  obtain ⟨u,us,rfl,r,rs⟩:=r.c
  unfold dO at h
  cases e1:d.key1 with
  | none=>rw [e1] at h; simp at h
  | some k =>
   cases e2:dO ds with
   | none=>rw [e1,e2] at h; simp at h
   | some ks' =>
    rw [e1,e2] at h
    simp at h
    subst h
    rw [xap,r.key e1,ih rs e2]
theorem Rep.keyT {ds:List D} {v:V} {ks:List Key} (r:Rep K H (.tup ds) v) (h:dO ds=some ks):∃ b,v=.ref b/\H b=some (.tup (ks.map kV)):=by
 cases r with
 | tup _ e rs=>exact ⟨_,rfl,by rw [e,rs.keys h]⟩
end
section
variable {κ:Type} [DecidableEq κ] {K:PySem.W.Frag} {H:Hp}
theorem zip_get {k:κ} {kvs:List (κ × D)} {vs:List V} (h:Reps K H (kvs.map (·.2)) vs):match getG kvs k with
  | some d=>∃ v,valV ((kvs.map (·.1)).zip vs) k=some v/\Rep K H d v
  | none=>valV ((kvs.map (·.1)).zip vs) k=none:=by
 induction kvs generalizing vs with
 | nil=>rfl
 | cons p kvs ih =>
  obtain ⟨u,us,rfl,r,rs⟩:=Reps.c (d:=p.2) h
  by_cases e:p.1=k
  ·have e1:getG (p :: kvs) k=some p.2:=by simp [getG,e]
   rw [e1]
   exact ⟨_,by simp only [xap,xa6]; exact valV_pos e,r⟩
  ·have e1:getG (p :: kvs) k=getG kvs k:=by simp [getG,e]
   rw [e1]
   have:=ih rs
   simp only [xap,xa6,valV_neg (p:=(p.1,_)) e]
   exact this
theorem yL {k:κ} {kvs:List (κ × D)} {vs:List V} (h:kvs.length=vs.length):((kvs.map (·.1)).zip vs).any (fun kv=>decide (kv.1=k))=kvs.any fun kv=>decide (kv.1=k):=by
 induction kvs generalizing vs with
 | nil=>rfl
 | cons p kvs ih =>
  cases vs with
  | nil=>simp at h
  | cons v vs =>
   simp only [xap,xa6,xbp]
   rw [ih (vs:=vs) (by simpa using h)]
end
section
variable {K:PySem.W.Frag} {Hs H:Hp}
theorem newL {p:Addr} {o:HO} (w:Wf Hs H) (hp:H p=none) (ho:∀ vs,o≠.tup vs):Grow Hs H Hs (upd H p o) :=
 ⟨(Same.refl H).upd hp,Same.refl _,⟨w.sub.upd hp,fun a vs e=>by
  by_cases h:a=p
  ·subst h; rw [upd_same] at e; exact absurd (Option.some.inj e) (ho vs)
  ·rw [upd_ne h] at e; exact w.tups a vs e⟩,fun _ h=>.inl h⟩
theorem newT {p:Addr} {vs:List V} (w:Wf Hs H) (hp:H p=none):Grow Hs H (upd Hs p (.tup vs)) (upd H p (.tup vs)) :=
 ⟨(Same.refl H).upd hp,(Same.refl Hs).upd (w.sub.free hp),⟨fun a o e=>by
  by_cases h:a=p
  ·subst h; rw [upd_same] at e ⊢; exact e
  ·rw [upd_ne h] at e ⊢; exact w.sub a o e,fun a vs e=>by
  by_cases h:a=p
  ·subst h; rw [upd_same] at e ⊢; exact e
  ·rw [upd_ne h] at e ⊢; exact w.tups a vs e⟩,fun a h=>by
  by_cases e:a=p
  ·subst e; exact .inr hp
  ·rw [upd_ne e] at h; exact .inl h⟩
theorem bK.nil:bK Hs H []:=⟨xaQ,fun a h=>nomatch h⟩
theorem bK.of {H':Hp} {As:List Addr} (s:Same H H') (f:bK Hs H' As):bK Hs H As:=⟨f.1,fun a h=>⟨(f.2 a h).1,s.free (f.2 a h).2⟩⟩
abbrev Fin (K:PySem.W.Frag) (Hs H:Hp) (Qd:Md->D->Prop) (Qv:VK):Prop:=∀ v H' Hs' m d As,Grow Hs H Hs' H'->RM K Hs' H' m d v As->bK Hs' H As->Qd m d->Qv v H'
theorem Fin.after {Hs' H':Hp} {Qd:Md->D->Prop} {Qv:VK} (f:Fin K Hs H Qd Qv) (g:Grow Hs H Hs' H'):Fin K Hs' H' Qd Qv:=fun v H2 Hs2 m d As g2 r fr q=>f v H2 Hs2 m d As (g.trans g2) r (fr.of g.all) q
theorem Fin.sh {Qd:Md->D->Prop} {Qv:VK} {d:D} {v:V} (f:Fin K Hs H Qd Qv) (w:Wf Hs H) (r:Rep K Hs d v) (q:Qd .sh d):Qv v H:=f v H Hs .sh d [] (Grow.refl w) ⟨rfl,r⟩ bK.nil q
theorem Fin.flat {Qd:Md->D->Prop} {Qv:VK} {d:D} {v:V} (f:Fin K Hs H Qd Qv) (w:Wf Hs H) (r:Rep K H d v) (hf:d.flat=true) (q:Qd .sh d):Qv v H:=f.sh w (r.fH w.tups hf) q
theorem Fin.bo {Qd:Md->D->Prop} {Qv:VK} {d:D} {v:V} (f:Fin K Hs H Qd Qv) (w:Wf Hs H) (r:Rep K H d v) (q:Qd .bo d):Qv v H:=f v H Hs .bo d [] (Grow.refl w) ⟨rfl,r⟩ bK.nil q
def itm (m:Md) (d:D):Md:=match m with
 | .sh=>.sh
 | _=>bif d.flat then .sh else .bo
theorem Fin.itm {Qd:Md->D->Prop} {Qv:VK} {m:Md} {d:D} {v:V} (f:Fin K Hs H Qd Qv) (w:Wf Hs H) (r:Rep K H d v) (rs:m=.sh->Rep K Hs d v) (q:Qd (itm m d) d):Qv v H:=by
 cases m with
 | sh=>exact f.sh w (rs rfl) q
 | ow fl =>
  cases hf:d.flat with
  | true=>exact f.flat w r hf (by simpa [Q.itm,hf] using q)
  | false=>exact f.bo w r (by simpa [Q.itm,hf] using q)
 | bo =>
  cases hf:d.flat with
  | true=>exact f.flat w r hf (by simpa [Q.itm,hf] using q)
  | false=>exact f.bo w r (by simpa [Q.itm,hf] using q)
theorem Fin.lst {Qd:Md->D->Prop} {Qv:VK} {ds:List D} {vs:List V} (f:Fin K Hs H Qd Qv) (w:Wf Hs H) (hz:ds.length<=sizeLine) (r:Reps K H ds vs) (hf:flats ds=true) (q:Qd (.ow true) (.list ds)):∀ p,H p=none->Qv (.ref p) (upd H p (.lst vs)):=fun p hp =>
 f _ _ Hs (.ow true) (.list ds) [p] (newL w hp fun _ z=>nomatch z) ⟨.list (by rw [<- r.length]; exact hz) upd_same ((r.fH w.tups hf).owned hf),by simp⟩ ⟨by simp,fun a h=>by
  obtain rfl:a=p:=by simpa using h
  exact ⟨w.sub.free hp,hp⟩⟩ q
theorem Fin.lstS {Qd:Md->D->Prop} {Qv:VK} {ds:List D} {vs:List V} (f:Fin K Hs H Qd Qv) (w:Wf Hs H) (hz:ds.length<=sizeLine) (r:Reps K Hs ds vs) (q:Qd (.ow false) (.list ds)):∀ p,H p=none->Qv (.ref p) (upd H p (.lst vs)):=fun p hp =>
 f _ _ Hs (.ow false) (.list ds) [p] (newL w hp fun _ z=>nomatch z) ⟨.list (by rw [<- r.length]; exact hz) upd_same r.Bw,by simp⟩ ⟨by simp,fun a h=>by
  obtain rfl:a=p:=by simpa using h
  exact ⟨w.sub.free hp,hp⟩⟩ q
theorem Fin.tup {Qd:Md->D->Prop} {Qv:VK} {ds:List D} {vs:List V} (f:Fin K Hs H Qd Qv) (w:Wf Hs H) (hz:ds.length<=sizeLine) (r:Reps K H ds vs) (hf:flats ds=true) (q:Qd .sh (.tup ds)):∀ p,H p=none->Qv (.ref p) (upd H p (.tup vs)):=fun p hp =>
 f _ _ (upd Hs p (.tup vs)) .sh (.tup ds) [] (newT w hp) ⟨rfl,.tup (by rw [<- r.length]; exact hz) upd_same ((r.fH w.tups hf).same ((Same.refl Hs).upd (w.sub.free hp)))⟩ bK.nil q
end
section
variable {X:Cx} {K:PySem.W.Frag}
theorem PE.imp {e:Expr} {te te':TE} (h:PE X e te) (i:∀ σ H Q,te' σ H Q->te σ H Q):PE X e te':=fun pins s σ H Q I q=>h pins s σ H Q I (i σ H Q q)
theorem PT.imp {e:Expr} {te te':TT} (h:PT X e te) (i:∀ σ H Q,te' σ H Q->te σ H Q):PT X e te':=fun pins s σ H Q I q=>h pins s σ H Q I (i σ H Q q)
theorem PW.imp {e:Expr} {te te':TT} (h:PW X e te) (i:∀ σ H Q,te' σ H Q->te σ H Q):PW X e te':=fun wh pins s σ H Q I q=>h wh pins s σ H Q I (i σ H Q q)
theorem PA.imp {e:List Expr} {te te':TA} (h:PA X e te) (i:∀ σ H Q,te' σ H Q->te σ H Q):PA X e te':=fun p pins s σ H Q I q=>h p pins s σ H Q I (i σ H Q q)
def useS:Option (Option Sl)->(Md->D->Prop)->Prop
 | some (some (.sh d)),Q=>Q .sh d
 | some (some (.ow _ d)),Q=>Q .bo d
 | some (some (.lk _ _ d)),Q=>Q .bo d
 | _,_=>False
def wVar (i:Nat):WE:=fun ρ Q=>useS ρ[i]? Q
theorem DX {i:Nat} {e:Expr} (h:PE X e (tVar i)):QE X K e (wVar i):=by
 refine PE.imp h fun σ H Qv hx=>ex4 hx fun Hs ρ tot Q sr h f=>?_
 unfold wVar at h
 cases e:ρ[i]? with
 | none=>rw [e] at h; exact h.elim
 | some o =>
  cases o with
  | none=>rw [e] at h; exact h.elim
  | some sl =>
   obtain ⟨v,e1,r⟩:=sr.sr.get e
   rw [e] at h
   cases sl with
   | sh d=>exact ⟨v,e1,Fin.sh f sr.wf r h⟩
   | xc a=>exact h.elim
   | ow fl d =>
    obtain ⟨As,_,r,_⟩:=r
    exact ⟨v,e1,Fin.bo f sr.wf (r.rep sr.wf.sub fun _ _=>rfl) h⟩
   | lk a fl d =>
    obtain ⟨As,_,r,_⟩:=r
    exact ⟨v,e1,Fin.bo f sr.wf (r.rep sr.wf.sub fun _ _=>rfl) h⟩
theorem qv (i:Nat) {x:Str} {pos:Pos} (hN:X.N[i]? = some x:=by rfl) (hv:Vis X.env.scope x:=by first | exact Or.inl rfl | exact Or.inr (Or.inl rfl) | exact Or.inr (Or.inr rfl)) (hd:(x == ("__debug__" : Str))=false:=by decide)
  (hcd:(x == ("__classdict__" : Str))=false:=by decide):QE X K (.Name x pos) (wVar i):=DX (pe_var hN hv hd hcd)
def wC (d:D):WE:=fun _ Q=>Q .sh d
theorem yU {e:Expr} {v:V} {d:D} (h:PE X e (tC v)) (r:∀ H,Rep K H d v):QE X K e (wC d) :=
 PE.imp h fun σ H Qv hx=>ex4 hx fun Hs ρ tot Q sr h f=>Fin.sh f sr.wf (r _) h
theorem aq {i j pos}:QE X K (.Constant (.int i) j pos) (wC (.int i)):=yU pe_int fun _=>.int i
theorem qT {i j pos} (h:i.length<=sizeLine:=by decide):QE X K (.Constant (.str i) j pos) (wC (.str i)):=yU pe_str fun _=>.str h
theorem q_bl {i j pos}:QE X K (.Constant (.bool i) j pos) (wC (.bl i)):=yU pe_bl fun _=>.bl i
abbrev W2:=Md->D->Md->D->(Md->D->Prop)->Prop
abbrev W1:=Md->D->(Md->D->Prop)->Prop
def Br2 (K:PySem.W.Frag) (r:R2) (f:W2):Prop:=∀ Hs H m x v As n y u Bs Qd Qv,Wf Hs H->RM K Hs H m x v As->RM K Hs H n y u Bs->f m x n y Qd->Fin K Hs H Qd Qv->r v u H Qv
def Br1 (K:PySem.W.Frag) (r:V->Hp->VK->Prop) (f:W1):Prop:=∀ Hs H m x v As Qd Qv,Wf Hs H->RM K Hs H m x v As->f m x Qd->Fin K Hs H Qd Qv->r v H Qv
def wOp (f:W2) (ta tb:WE):WE:=fun ρ Q=>ta ρ fun m x=>tb ρ fun n y=>f m x n y Q
def wUn (f:W1) (ta:WE):WE:=fun ρ Q=>ta ρ fun m x=>f m x Q
variable {a b:Expr} {ta tb:WE} {pos:Pos}
theorem lB {r:R2} {f:W2} (br:Br2 K r f) (σ:St) (H:Hp) (Qv:VK) (h:tpE K (wOp f ta tb) σ H Qv):tOp r (tpE K ta) (tpE K tb) σ H Qv:=by
 obtain ⟨Hs,ρ,tot,Q,sr,h,fin⟩:=h
 refine ⟨Hs,ρ,tot,_,sr,h,fun v H1 Hs1 m x As g1 r1 f1 q1=>⟨Hs1,ρ,tot,_,sr.grow g1,q1,fun u H2 Hs2 n y Bs g2 r2 f2 q2=>?_⟩⟩
 exact br Hs2 H2 m x v As n y u Bs Q Qv g2.wf (r1.grow g2) r2 q2 (Fin.after fin (g1.trans g2))
theorem q_op {op:Operator} {r:R2} {f:W2} (ho:OpR X (binaryOp op) r) (br:Br2 K r f) (ha:QE X K a ta) (hb:QE X K b tb):QE X K (.BinOp a op b pos) (wOp f ta tb):=PE.imp (pe_op ho ha hb) (lB br)
theorem q_un {op:UnaryOp} {r:V->Hp->VK->Prop} {f:W1} (ho:UnR X (unaryOp op) r) (br:Br1 K r f) (ha:QE X K a ta):QE X K (.UnaryOp op a pos) (wUn f ta):=by
 refine PE.imp (pe_un ho ha) fun σ H Qv hx=>ex4 hx fun Hs ρ tot Q sr h fin=>?_
 exact ⟨Hs,ρ,tot,_,sr,h,fun v H1 Hs1 m x As g1 r1 f1 q1=>br Hs1 H1 m x v As Q Qv g1.wf r1 q1 (Fin.after fin g1)⟩
theorem uL {op:CmpOp} {r:R2} {f:W2} (ho:OpR X (compareOp op) r) (br:Br2 K r f) (ha:QE X K a ta) (hb:QE X K b tb) (hm:behindInMarks op b=false):QE X K (.Compare a [op] [b] pos) (wOp f ta tb):=PE.imp (pe_cmpR ho ha hb hm) (lB br)
def wB (t:WE):WT:=fun ρ Q=>t ρ fun _ x=>match x with
 | .bl b=>Q b
 | _=>False
theorem wX {t:WE} (σ:St) (H:Hp) (Qv:Bool->Hp->Prop) (h:tpT K (wB t) σ H Qv):tTest (tpE K t) σ H Qv:=by
 obtain ⟨Hs,ρ,tot,Q,sr,h,fin⟩:=h
 refine ⟨Hs,ρ,tot,_,sr,h,fun v H1 Hs1 m x As g1 r1 f1 q1=>?_⟩
 have r:=r1.rep g1.wf
 cases r with
 | bl b=>exact ⟨b,rfl,fin b H1 Hs1 g1 q1⟩
 | _=>exact q1.elim
theorem bY {op:CmpOp} {r:R2} {f:W2} (ho:OpR X (compareOp op) r) (br:Br2 K r f) (ha:QE X K a ta) (hb:QE X K b tb) (hm:behindInMarks op b=false):QT X K (.Compare a [op] [b] pos) (wB (wOp f ta tb)):=by
 refine PT.imp (pt_cmpR ho ha hb hm) fun σ H Qv h=>?_
 obtain ⟨Hs,ρ,tot,Q,sr,h,fin⟩:=h
 refine lB br σ H _ ⟨Hs,ρ,tot,_,sr,h,fun v H1 Hs1 m x As g1 r1 f1 q1=>?_⟩
 have r:=r1.rep g1.wf
 cases r with
 | bl b=>exact ⟨b,rfl,fin b H1 Hs1 g1 q1⟩
 | _=>exact q1.elim
theorem ju {t:WE} (h:QE X K a t) (he:∀ whole,isTrue a X.env whole=(do let v <- whole; standAt a.pos; holding [v] (truthy v)):=by intro _; rfl):QT X K a (wB t):=PT.imp (pt_val h he) wX
end
end L2.Q
namespace L2.Q
open PySem PySem.Spec PyProof.Rows
section
variable {X:Cx} {K:PySem.W.Frag} {a b c:Expr} {ta tb:WE} {pos:Pos}
def wOr (t u:WT):WT:=fun ρ Q=>t ρ fun c=>if c=true then Q true else u ρ Q
def wNot (t:WT):WT:=fun ρ Q=>t ρ fun c=>Q (!c)
variable {tA tB:WT} {rest:List Expr}
theorem pZ {t u:WT} {f:Bool->TT} {σ:St} {H:Hp} {Qv:Bool->Hp->Prop} {G:Bool->(Bool->Prop)->Env->Prop}
  (h:tpT K (fun ρ Q=>t ρ fun c=>G c Q ρ) σ H Qv)
  (i:∀ c H1 Hs1 ρ tot Q,SRel K Hs1 ρ σ H1 tot->G c Q ρ->(∀ b H' Hs',Grow Hs1 H1 Hs' H'->Q b->Qv b H')->f c σ H1 Qv):tpT K t σ H fun c H1=>f c σ H1 Qv:=by
 obtain ⟨Hs,ρ,tot,Q,sr,h,fin⟩:=h
 exact ⟨Hs,ρ,tot,_,sr,h,fun c H1 Hs1 g1 q1=>i c H1 Hs1 ρ tot Q (sr.grow g1) q1 fun b H' Hs' g2=>fin b H' Hs' (g1.trans g2)⟩
theorem lM (ha:QT X K a tA):QW X K (.BoolOp .Or [a] pos) tA:=pw_or1 ha
theorem um (ha:QT X K a tA) (hb:QW X K (.BoolOp .Or (b :: rest) pos) tB):QW X K (.BoolOp .Or (a :: b :: rest) pos) (wOr tA tB):=by
 refine PW.imp (pw_or ha hb) fun σ H Qv h=>?_
 refine pZ (u:=tB) (f:=fun c σ H1 Q=>if c=true then Q true H1 else tpT K tB σ H1 Q) h fun c H1 Hs1 ρ tot Q sr q fin=>?_
 cases c with
 | true=>exact fin true H1 Hs1 (Grow.refl sr.wf) q
 | false=>exact ⟨Hs1,ρ,tot,Q,sr,q,fin⟩
theorem qt_w (h:QW X K a tA):QT X K a tA:=h _
theorem nu (ha:QT X K a tA):QT X K (.UnaryOp .Not a pos) (wNot tA):=by
 refine PT.imp (pt_not ha) fun σ H Qv h=>?_
 exact pZ (u:=tA) (f:=fun c σ H1 Q=>Q (!c) H1) h fun c H1 Hs1 ρ tot Q sr q fin=>fin _ H1 Hs1 (Grow.refl sr.wf) q
def tL (ta tb:WE):WE:=fun ρ Q=>ta ρ fun _ x=>match x with
 | .bl c=>if c=true then tb ρ Q else Q .sh (.bl false)
 | _=>False
theorem Ed {op} (h:QE X K a ta):QE X K (.BoolOp op [a] pos) ta:=pe_one h
theorem Bk (ha:QE X K a ta) (hb:QE X K (.BoolOp .And (b :: rest) pos) tb):QE X K (.BoolOp .And (a :: b :: rest) pos) (tL ta tb):=by
 refine PE.imp (pe_and ha hb) fun σ H Qv hx=>ex4 hx fun Hs ρ tot Q sr h fin=>?_
 refine ⟨Hs,ρ,tot,_,sr,h,fun v H1 Hs1 m x As g1 r1 f1 q1=>?_⟩
 have r:=r1.rep g1.wf
 cases r with
 | bl c =>
  refine ⟨c,rfl,?_⟩
  cases c with
  | true=>exact ⟨Hs1,ρ,tot,Q,sr.grow g1,q1,Fin.after fin g1⟩
  | false=>exact Fin.sh (Fin.after fin g1) g1.wf (.bl false) q1
 | _=>exact q1.elim
def truD:D->Option Bool
 | .non=>some false
 | .bl b=>some b
 | .int i=>some (i != 0)
 | .str x=>some ((x.length:Int) != 0)
 | .list xs=>some !xs.isEmpty
 | .tup xs=>some !xs.isEmpty
 | .dK kvs=>some !kvs.isEmpty
 | .dT kvs=>none
end
def fAdd:W2:=fun m x n y Q=>match x,y with
 | .int i,.int j=>Q .sh (.int (i+j))
 | .str i,.str j=>i.length+j.length<=sizeLine/\Q .sh (.str (i++j))
 | .list xs,.list ys=>xs.length+ys.length<=sizeLine/\((flats xs=true/\flats ys=true/\Q (.ow true) (.list (xs++ys)))\/(m=.sh/\n=.sh/\Q (.ow false) (.list (xs++ys))))
 | .tup xs,.tup ys=>xs≠[]/\xs.length+ys.length<=sizeLine/\flats xs=true/\flats ys=true/\Q .sh (.tup (xs++ys))
 | _,_=>False
def int2 (P:Int->Int->(Md->D->Prop)->Prop):W2:=fun _ x _ y Q=>match x,y with
 | .int i,.int j=>P i j Q
 | _,_=>False
def is2 (P:Int->Int->(Md->D->Prop)->Prop) (S:Str->Str->(Md->D->Prop)->Prop):W2:=fun _ x _ y Q=>match x,y with
 | .int i,.int j=>P i j Q
 | .str i,.str j=>S i j Q
 | _,_=>False
def fSub:W2:=int2 fun i j Q=>Q .sh (.int (i - j))
def fMul:W2:=int2 fun i j Q=>CMul i j/\Q .sh (.int (i * j))
def fDiv:W2:=int2 fun i j Q=>(0<j/\j<1073741824)/\Q .sh (.int (i / j))
def fMod:W2:=int2 fun i j Q=>0<j/\Q .sh (.int (i % j))
def fLt:W2:=is2 (fun i j Q=>Q .sh (.bl (decide (i<j)))) fun i j Q=>Q .sh (.bl (ltS i j))
def fEq:W2:=fun _ x _ y Q=>match x,y with
 | .int i,.int j=>Q .sh (.bl (decide (i=j)))
 | .str i,.str j=>Q .sh (.bl (decide (i=j)))
 | .bl i,.bl j=>Q .sh (.bl (decide (i=j)))
 | _,_=>okD 12 x=true/\okD 12 y=true/\Q .sh (.bl (eqD x y))
def fNe:W2:=fun _ x _ y Q=>match x,y with
 | .int i,.int j=>Q .sh (.bl (!decide (i=j)))
 | .str i,.str j=>Q .sh (.bl (!decide (i=j)))
 | .bl i,.bl j=>Q .sh (.bl (!decide (i=j)))
 | _,_=>okD 12 x=true/\okD 12 y=true/\Q .sh (.bl (!eqD x y))
def D.isN:D->Bool
 | .non=>true
 | _=>false
def dB:D->Bool
 | .non=>true
 | .bl _=>true
 | .int _=>true
 | .str _=>true
 | _=>false
def inD (x:D) (ys:List D):Bool:=ys.any fun y=>eqD y x
def fIn (neg:Bool):W2:=fun _ x _ y Q=>match y with
 | .str j=>match x with
  | .str i=>Q .sh (.bl (if neg then !inS i j else inS i j))
  | _=>False
 | .list ys=>dB x=true/\ys.all dB=true/\Q .sh (.bl (if neg then !inD x ys else inD x ys))
 | .tup ys=>dB x=true/\ys.all dB=true/\Q .sh (.bl (if neg then !inD x ys else inD x ys))
 | .dK kvs=>∃ k,x.key1=some k/\Q .sh (.bl (if neg then !(getG kvs k).isSome else (getG kvs k).isSome))
 | .dT kvs=>match x with
  | .tup xs=>∃ ks,dO xs=some ks/\Q .sh (.bl (if neg then !(getG kvs ks).isSome else (getG kvs ks).isSome))
  | _=>False
 | _=>False
section
variable {K:PySem.W.Frag}
theorem Br2.flatV {r:R2} {f:W2} (h:∀ Hs H m x v As n y u Bs Qd Qv,Wf Hs H->RM K Hs H m x v As->RM K Hs H n y u Bs->f m x n y Qd->Fin K Hs H Qd Qv->r v u H Qv):Br2 K r f:=h
theorem yS {Hs H:Hp} {Qd:Md->D->Prop} {Qv:VK} (f:Fin K Hs H Qd Qv) (w:Wf Hs H) {x:Str} (h:x.length<=sizeLine) (q:Qd .sh (.str x)):Qv (.str x) H:=f.sh w (.str h) q
theorem b7 (i j:Str):(i++j).length=i.length+j.length:=by
 show ((i++j).cps.size)=_
 show (i.cps++j.cps).size=_
 simp [Str.length]
theorem Bx:Br2 K (fun x y H Q=>wg K x y H Q\/rCatT K x y H Q) fAdd:=by
 intro Hs H m x v As n y u Bs Qd Qv w rx ry h f
 have r1:=rx.rep w
 have r2:=ry.rep w
 unfold fAdd at h
 cases r1 with
 | int i=>cases r2 with
  | int j=>exact .inl (f.sh w (.int _) h)
  | _=>exact h.elim
 | str hi=>cases r2 with
  | str hj=>exact .inl ⟨h.1,yS f w (by rw [b7]; exact h.1) h.2⟩
  | _=>exact h.elim
 | list z1 s1 q1=>cases r2 with
  | list z2 s2 q2 =>
   have l1:=q1.length
   have l2:=q2.length
   have hz:=h.1
   rcases h.2 with ⟨f1,f2,q⟩ | ⟨rfl,rfl,q⟩
   ·refine .inl ⟨_,_,s1,s2,by lia,?_⟩
    exact f.lst w (by rw [xaL]; exact hz) (q1.append q2) (by rw [cY,f1,f2]; rfl) q
   ·obtain ⟨_,rx⟩:=rx
    obtain ⟨_,ry⟩:=ry
    cases rx with
    | list z1' s1' q1'=>cases ry with
     | list z2' s2' q2' =>
      have l1:=q1'.length
      have l2:=q2'.length
      refine .inl ⟨_,_,Same.seq w.sub s1',Same.seq w.sub s2',by lia,?_⟩
      exact f.lstS w (by rw [xaL]; exact hz) (q1'.append q2') q
  | _=>exact h.elim
 | tup t1 s1 q1=>cases r2 with
  | tup t2 s2 q2 =>
   have l1:=q1.length
   have l2:=q2.length
   obtain ⟨hne,hz,f1,f2,q⟩:=h
   refine .inr ⟨_,_,_,_,rfl,rfl,.inl (.inl s1),.inl (.inl s2),?_,by lia,?_⟩
   ·intro e
    subst e
    exact hne (xbH.mp l1)
   ·refine ⟨fun e=>?_,fun _=>f.tup w (by rw [xaL]; exact hz) (q1.append q2) (by rw [cY,f1,f2]; rfl) q⟩
    subst e
    cases q2
    rw [xaO] at q
    exact f.flat w (.tup t1 s1 q1) (by simpa [D.flat] using f1) q
  | _=>exact h.elim
 | _=>exact h.elim
theorem Az {H:Hp} {x y:D} {v u:V} {m n:Md} {P:Int->Int->(Md->D->Prop)->Prop} {S:Str->Str->(Md->D->Prop)->Prop} {Q:Md->D->Prop} {G:Prop} (r1:Rep K H x v) (r2:Rep K H y u) (h:is2 P S m x n y Q) (k:∀ i j,v=.int i->u=.int j->P i j Q->G) (ks:∀ i j,v=.str i->u=.str j->S i j Q->G):G:=by
 cases r1 with
 | int i=>cases r2 with
  | int j=>exact k i j rfl rfl h
  | _=>exact h.elim
 | str hi=>cases r2 with
  | str hj=>exact ks _ _ rfl rfl h
  | _=>exact h.elim
 | _=>exact h.elim
theorem kY {H:Hp} {x y:D} {v u:V} {m n:Md} {P:Int->Int->(Md->D->Prop)->Prop} {Q:Md->D->Prop} {G:Prop} (r1:Rep K H x v) (r2:Rep K H y u) (h:int2 P m x n y Q) (k:∀ i j,v=.int i->u=.int j->P i j Q->G):G:=by
 cases r1 with
 | int i=>cases r2 with
  | int j=>exact k i j rfl rfl h
  | _=>exact h.elim
 | _=>exact h.elim
theorem Bl:Br2 K zb fSub:=by
 intro Hs H m x v As n y u Bs Qd Qv w rx ry h f
 exact kY (rx.rep w) (ry.rep w) h fun i j e1 e2 q=>by
  subst e1 e2
  exact f.sh w (.int _) q
theorem Bv:Br2 K yt fMul:=by
 intro Hs H m x v As n y u Bs Qd Qv w rx ry h f
 exact kY (rx.rep w) (ry.rep w) h fun i j e1 e2 q=>by
  subst e1 e2
  exact ⟨q.1,f.sh w (.int _) q.2⟩
theorem Bo:Br2 K zP fDiv:=by
 intro Hs H m x v As n y u Bs Qd Qv w rx ry h f
 exact kY (rx.rep w) (ry.rep w) h fun i j e1 e2 q=>by
  subst e1 e2
  exact ⟨q.1,f.sh w (.int _) q.2⟩
theorem Br:Br2 K zq fMod:=by
 intro Hs H m x v As n y u Bs Qd Qv w rx ry h f
 exact kY (rx.rep w) (ry.rep w) h fun i j e1 e2 q=>by
  subst e1 e2
  exact ⟨q.1,f.sh w (.int _) q.2⟩
theorem Df:Br2 K rLtU fLt:=by
 intro Hs H m x v As n y u Bs Qd Qv w rx ry h f
 exact Az (rx.rep w) (ry.rep w) h (fun i j e1 e2 q=>by
  subst e1 e2
  exact f.sh w (.bl _) q) fun i j e1 e2 q=>by
  subst e1 e2
  exact f.sh w (.bl _) q
theorem eq_data {Hs H:Hp} {x y:D} {v u:V} {Qd:Md->D->Prop} {Qv:VK} (w:Wf Hs H) (rx:Rep K H x v) (ry:Rep K H y u) (f:Fin K Hs H Qd Qv) (h:okD 12 x=true/\okD 12 y=true/\Qd .sh (.bl (eqD x y))):rEqD K v u H Qv:=by
 obtain ⟨h1,h2,q⟩:=h
 have l1:=dW 12 x h1
 have l2:=dW 12 y h2
 exact ⟨x.py,y.py,rx.l2 h1,ry.l2 h2,l1.1,l2.1,by lia,f.sh w (.bl _) q⟩
theorem ne_data {Hs H:Hp} {x y:D} {v u:V} {Qd:Md->D->Prop} {Qv:VK} (w:Wf Hs H) (rx:Rep K H x v) (ry:Rep K H y u) (f:Fin K Hs H Qd Qv) (h:okD 12 x=true/\okD 12 y=true/\Qd .sh (.bl (!eqD x y))):rNeD K v u H Qv:=by
 obtain ⟨h1,h2,q⟩:=h
 have l1:=dW 12 x h1
 have l2:=dW 12 y h2
 exact ⟨x.py,y.py,rx.l2 h1,ry.l2 h2,l1.1,l2.1,by lia,f.sh w (.bl _) q⟩
theorem k_:Br2 K (rEqU K) fEq:=by
 intro Hs H m x v As n y u Bs Qd Qv w rx ry h f
 have r1:=rx.rep w
 have r2:=ry.rep w
 have d:=fun h=>eq_data (Qd:=Qd) (Qv:=Qv) w r1 r2 f h
 cases r1 with
 | int i=>cases r2 with
  | int j=>exact f.sh w (.bl _) h
  | _=>exact d h
 | str i=>cases r2 with
  | str j=>exact f.sh w (.bl _) h
  | _=>exact d h
 | bl i=>cases r2 with
  | bl j=>exact f.sh w (.bl _) h
  | _=>exact d h
 | _=>exact d h
theorem rn:Br2 K (rNeU K) fNe:=by
 intro Hs H m x v As n y u Bs Qd Qv w rx ry h f
 have r1:=rx.rep w
 have r2:=ry.rep w
 have d:=fun h=>ne_data (Qd:=Qd) (Qv:=Qv) w r1 r2 f h
 cases r1 with
 | int i=>cases r2 with
  | int j=>exact f.sh w (.bl _) h
  | _=>exact d h
 | str i=>cases r2 with
  | str j=>exact f.sh w (.bl _) h
  | _=>exact d h
 | bl i=>cases r2 with
  | bl j=>exact f.sh w (.bl _) h
  | _=>exact d h
 | _=>exact d h
theorem iM {H:Hp} {x:D} {v:V} (r:Rep K H x v) (h:dB x=true):flatV v=true:=by
 cases r <;> first | rfl | (simp [dB] at h)
theorem zx {H:Hp} {x y:D} {v u:V} (r:Rep K H x v) (s:Rep K H y u) (h:dB x=true) (g:dB y=true):eqV v u=eqD x y:=by
 cases r <;> simp [dB] at h <;> cases s <;> simp [dB] at g <;> rfl
theorem Bc {H:Hp} {x:D} {v:V} (r:Rep K H x v) (h:dB x=true) {ys:List D} {us:List V} (rs:Reps K H ys us) (g:ys.all dB=true):us.all flatV=true/\inV v us=inD x ys:=by
 induction ys generalizing us with
 | nil=>rw [rs.n0]; exact ⟨rfl,rfl⟩
 | cons y ys ih =>
  obtain ⟨u,us,rfl,s,ss⟩:=rs.c
  simp only [xbo,xaA] at g
  obtain ⟨e1,e2⟩:=ih ss g.2
  refine ⟨by simp only [xbo,iM s g.1,e1,Bool.and_self],?_⟩
  unfold inV inD at *
  rw [xbp,xbp,e2,zx s r g.1 h]
theorem mW {κ:Type} [DecidableEq κ] {H:Hp} {k:κ} {kvs:List (κ × D)} {vs:List V} (r:Reps K H (kvs.map (·.2)) vs):(valV ((kvs.map (·.1)).zip vs) k).isSome=(getG kvs k).isSome:=by
 have:=zip_get (k:=k) r
 split at this
 ·rename_i e
  obtain ⟨v,e1,_⟩:=this
  rw [e1,e]; rfl
 ·rename_i e
  rw [this,e]; rfl
theorem DP {neg:Bool}:Br2 K (rInU K neg) (fIn neg):=by
 intro Hs H m x v As n y u Bs Qd Qv w rx ry h f
 have r1:=rx.rep w
 have r2:=ry.rep w
 cases r2 with
 | str j=>cases r1 with
  | str i=>exact f.sh w (.bl _) h
  | _=>exact h.elim
 | list z s q =>
  obtain ⟨h1,h2,h3⟩:=h
  obtain ⟨e1,e2⟩:=Bc r1 h1 q h2
  have h4:=iM r1 h1
  have g:rIn K neg v (.ref _) H Qv:=⟨_,_,rfl,.inl s,h4,e1,by rw [e2]; exact f.sh w (.bl _) h3⟩
  cases r1 <;> exact .inr g
 | tup _ s q =>
  obtain ⟨h1,h2,h3⟩:=h
  obtain ⟨e1,e2⟩:=Bc r1 h1 q h2
  have h4:=iM r1 h1
  have g:rIn K neg v (.ref _) H Qv:=⟨_,_,rfl,.inr (.inl (.inl s)),h4,e1,by rw [e2]; exact f.sh w (.bl _) h3⟩
  cases r1 <;> exact .inr g
 | dK kk e q =>
  obtain ⟨k,hk,h3⟩:=h
  have ev:=r1.key hk
  subst ev
  have eg:=mW (k:=k) q
  cases k <;> exact .inl ⟨_,DGet.k e,by rw [eg]; exact f.sh w (.bl _) h3⟩
 | dT kk e q =>
  cases r1 with
  | tup t1 e1 q1 =>
   obtain ⟨ks,hk,h3⟩:=h
   obtain ⟨b,eb,e2⟩:=Rep.keyT (.tup t1 e1 q1) hk
   cases eb
   have eg:=mW (k:=ks) q
   exact .inl ⟨_,DGet.t e e2,by rw [eg]; exact f.sh w (.bl _) h3⟩
  | _=>exact h.elim
 | _=>exact h.elim
end
section
variable {X:Cx} {K:PySem.W.Frag} {a b:Expr} {ta tb:WE} {pos:Pos}
theorem CV (hK:X.K=K:=by rfl):OpR X (binaryOp .Add) (fun x y H Q=>wg K x y H Q\/rCatT K x y H Q):=by subst hK; exact zV.or op_catT
theorem eG (ha:QE X K a ta) (hb:QE X K b tb) (hK:X.K=K:=by rfl):QE X K (.BinOp a .Add b pos) (wOp fAdd ta tb):=q_op (CV hK) Bx ha hb
theorem CP (ha:QE X K a ta) (hb:QE X K b tb):QE X K (.BinOp a .Sub b pos) (wOp fSub ta tb):=q_op zX Bl ha hb
theorem yW (ha:QE X K a ta) (hb:QE X K b tb):QE X K (.BinOp a .Mult b pos) (wOp fMul ta tb):=q_op za Bv ha hb
theorem lR (ha:QE X K a ta) (hb:QE X K b tb):QE X K (.BinOp a .FloorDiv b pos) (wOp fDiv ta tb):=q_op yE Bo ha hb
theorem cR (ha:QE X K a ta) (hb:QE X K b tb):QE X K (.BinOp a .Mod b pos) (wOp fMod ta tb):=q_op yZ Br ha hb
def fNeg:W1:=fun _ x Q=>match x with
 | .int i=>Q .sh (.int (-i))
 | _=>False
theorem BR:Br1 K (rU fun i=>.int (-i)) fNeg:=by
 intro Hs H m x v As Qd Qv w rx h f
 have r1:=rx.rep w
 cases r1 with
 | int i=>exact ⟨i,rfl,f.sh w (.int _) h⟩
 | _=>exact h.elim
theorem wz (ha:QE X K a ta):QE X K (.UnaryOp .USub a pos) (wUn fNeg ta):=q_un un_neg BR ha
end
def wNil:WA:=fun _ Q=>Q []
def aB (te:WE) (t:WA):WA:=fun ρ Q=>te ρ fun m x=>t ρ fun ps=>Q ((m,x) :: ps)
def okSh:Md × D->Bool
 | (.sh,_)=>true
 | (_,d)=>d.flat
def okOw:Md × D->Bool
 | (.bo,d)=>d.flat
 | _=>true
def okFl:Md × D->Bool
 | (.ow true,_)=>true
 | (_,d)=>d.flat
def zJ (ps:List (Md × D)):Md:=bif ps.all okSh then .sh else bif ps.all okOw then .ow (ps.all okFl) else .bo
def yh (ps:List (Md × D)):Md:=bif ps.all okOw then .ow (ps.all okFl) else .bo
def wTup (t:WA):WE:=fun ρ Q=>t ρ fun ps=>ps.length<=sizeLine/\Q (zJ ps) (.tup (ps.map (·.2)))
def wLst (t:WA):WE:=fun ρ Q=>t ρ fun ps=>ps.length<=sizeLine/\Q (yh ps) (.list (ps.map (·.2)))
section
variable {X:Cx} {K:PySem.W.Frag} {e:Expr} {es:List Expr} {te:WE} {t:WA} {pos:Pos} {Hs H:Hp}
theorem aA:QA X K [] wNil:=PA.imp pa_nil fun σ H Qv hx=>ex4 hx fun Hs ρ tot Q sr h f=>f [] H Hs [] [] (Grow.refl sr.wf) .nil bK.nil h
theorem bK.app {Hs1 Hs2 H1:Hp} {As Bs:List Addr} (f1:bK Hs1 H As) (o:∀ a∈As,H1 a≠none) (f2:bK Hs2 H1 Bs) (s:Same H H1) (k:∀ a,Hs1 a=none->H1 a≠none->Hs2 a=none):bK Hs2 H (As++Bs) :=
 ⟨xar.mpr ⟨f1.1,f2.1,fun a ha b hb e=>by subst e; exact o a ha (f2.2 a hb).2⟩,fun a h=>by
  rcases xal.mp h with h | h
  ·exact ⟨k a (f1.2 a h).1 (o a h),(f1.2 a h).2⟩
  ·exact ⟨(f2.2 a h).1,s.free (f2.2 a h).2⟩⟩
theorem aj (ha:QE X K e te) (hr:QA X K es t) (hs:starEach (e :: es) X.env=(false,eval e X.env) :: starEach es X.env:=by rfl):QA X K (e :: es) (aB te t):=by
 refine PA.imp (pa_cons ha hr hs) fun σ H Qv hx=>ex4 hx fun Hs ρ tot Q sr h f=>?_
 refine ⟨Hs,ρ,tot,_,sr,h,fun v H1 Hs1 m x As g1 r1 f1 q1=>⟨Hs1,ρ,tot,_,sr.grow g1,q1,fun vs H2 Hs2 ps Bs g2 r2 f2 q2=>?_⟩⟩
 exact f (v :: vs) H2 Hs2 _ _ (g1.trans g2) (.cons (r1.grow g2) r2) (f1.app (fun a h=>(r1.own a h).ne) f2 g1.all fun a h1 h2=>g2.hsn h1 h2) q2
theorem RMs.sh (w:Wf Hs H) {ps:List (Md × D)} {vs:List V} {As:List Addr} (r:RMs K Hs H ps vs As):ps.all okSh=true->Reps K Hs (ps.map (·.2)) vs:=by
 induction r with
 | nil=>exact fun _=>.nil
 | @cons m d v ps vs As Bs r rs ih =>
  intro h
  simp only [xbo,xaA] at h
  refine .cons ?_ (ih h.2)
  cases m with
  | sh=>exact r.2
  | ow fl=>exact r.flat w h.1
  | bo=>exact r.flat w h.1
theorem RMs.ow {fl:Bool} (w:Wf Hs H) {ps:List (Md × D)} {vs:List V} {As:List Addr} (r:RMs K Hs H ps vs As):ps.all okOw=true->(fl=true->ps.all okFl=true)->∃ Bs,Bs.Sublist As/\(ps.all okSh=false->Bs≠[])/\ak K Hs H fl (ps.map (·.2)) vs Bs:=by
 induction r with
 | nil=>exact fun _ _=>⟨[],xbd _,(fun z=>Bool.noConfusion z),.nil⟩
 | @cons m d v ps vs A1 Cs r rs ih =>
  intro h hf
  simp only [xbo,xaA] at h hf
  obtain ⟨Bs,sb,ne,q⟩:=ih h.2 fun z=>(hf z).2
  have sk:([]++Bs).Sublist (A1++Cs):=by simpa using sb.trans (xas _ _)
  have flt:d.flat=true->okSh (m,d)=true->∃ Bs,Bs.Sublist (A1++Cs)/\(((m,d) :: ps).all okSh=false->Bs≠[])/\ak K Hs H fl (((m,d) :: ps).map (·.2)) (v :: vs) Bs:=fun hd ho =>
   ⟨[]++Bs,sk,fun z=>ne (by rw [xbo,ho] at z; simpa using z),.cons (.sh (fun _=>hd) (r.flat w hd)) q⟩
  cases m with
  | sh=>exact ⟨[]++Bs,sk,fun z=>ne (by simpa [okSh] using z),.cons (.sh (fun z=>(hf z).1) r.2) q⟩
  | bo=>exact flt h.1 h.1
  | ow b =>
   cases hd:d.flat with
   | true=>exact flt hd hd
   | false =>
    refine ⟨A1++Bs,sb.append_left _,fun _ z=>r.2 (xbs.mp z).1,.cons ?_ q⟩
    cases fl with
    | false=>exact RepO.fls r.1
    | true =>
     have:=(hf rfl).1
     cases b with
     | true=>exact r.1
     | false=>simp [okFl,hd] at this
theorem pA:∀ {ps:List (Md × D)},flats (ps.map (·.2))=true->ps.all okSh=true
 | [],_=>rfl
 | (m,d) :: ps,h=>by
  simp only [xap,flats,xaA] at h
  simp only [xbo,xaA]
  exact ⟨by cases m <;> simp [okSh,h.1],pA h.2⟩
theorem qX {x1} (h:QA X K es t):QE X K (.Tuple es x1 pos) (wTup t):=by
 refine PE.imp (pe_tup h) fun σ H Qv hx=>ex4 hx fun Hs ρ tot Q sr h f=>?_
 refine ⟨Hs,ρ,tot,_,sr,h,fun vs H1 Hs1 ps As g1 r1 f1 q1=>?_⟩
 obtain ⟨hz,q⟩:=q1
 have rl:=(r1.reps g1.wf)
 have hl:=rl.length
 rw [xaf] at hl
 refine ⟨by lia,fun p hp=>?_⟩
 have g2:=newT (vs:=vs) g1.wf hp
 have fin:=Fin.after f g1
 unfold zJ at q
 cases h1:ps.all okSh with
 | true =>
  rw [h1] at q
  exact fin _ _ _ .sh _ [] g2 ⟨rfl,.tup (by lia) upd_same ((r1.sh g1.wf h1).same g2.sh)⟩ bK.nil q
 | false =>
  rw [h1] at q
  cases h2:ps.all okOw with
  | false =>
   rw [h2] at q
   exact fin _ _ _ .bo _ [] g2 ⟨rfl,.tup (by lia) upd_same (rl.same g2.all)⟩ bK.nil q
  | true =>
   rw [h2] at q
   obtain ⟨Bs,sb,nz,ro⟩:=r1.ow (fl:=ps.all okFl) g1.wf h2 fun z=>z
   have hne:flats (ps.map (·.2))=false:=by
    cases hf:flats (ps.map (·.2)) with
    | false=>rfl
    | true=>rw [pA hf] at h1; cases h1
   have own:=ro.own
   refine f _ _ _ (.ow _) _ Bs (g1.trans g2) ⟨.tup (by lia) upd_same hne (ro.grow g2.sh g2.all),nz h1⟩ ⟨sb.nodup f1.1,fun a ha=>⟨?_,(f1.2 a (sb.subset ha)).2⟩⟩ q
   exact g2.hsn (f1.2 a (sb.subset ha)).1 (own a ha).ne
theorem gJ (h:QA X K es t):QE X K (.List es pos) (wLst t):=by
 refine PE.imp (pe_lst h) fun σ H Qv hx=>ex4 hx fun Hs ρ tot Q sr h f=>?_
 refine ⟨Hs,ρ,tot,_,sr,h,fun vs H1 Hs1 ps As g1 r1 f1 q1=>?_⟩
 obtain ⟨hz,q⟩:=q1
 have rl:=(r1.reps g1.wf)
 have hl:=rl.length
 rw [xaf] at hl
 refine ⟨by lia,fun p hp=>?_⟩
 have g2:=newL (o:=.lst vs) g1.wf hp fun _ z=>nomatch z
 have fin:=Fin.after f g1
 unfold yh at q
 cases h2:ps.all okOw with
 | false =>
  rw [h2] at q
  exact fin _ _ _ .bo _ [] g2 ⟨rfl,.list (by lia) (.inl (.inl upd_same)) (rl.same g2.all)⟩ bK.nil q
 | true =>
  rw [h2] at q
  obtain ⟨Bs,sb,nz,ro⟩:=r1.ow (fl:=ps.all okFl) g1.wf h2 fun z=>z
  have own:=ro.own
  refine f _ _ _ (.ow _) _ (p :: Bs) (g1.trans g2) ⟨.list (by lia) upd_same (ro.grow g2.sh g2.all),by simp⟩ ⟨xaD.mpr ⟨fun m=>(own p m).ne hp,sb.nodup f1.1⟩,fun a ha=>?_⟩ q
  rcases xag.mp ha with rfl | ha
  ·exact ⟨g1.wf.sub.free hp,g1.all.free hp⟩
  ·exact ⟨g2.hsn (f1.2 a (sb.subset ha)).1 (own a ha).ne,(f1.2 a (sb.subset ha)).2⟩
end
theorem Reps.atI {K:PySem.W.Frag} {H:Hp} {ds:List D} {vs:List V} {i:Int} {d:D} (r:Reps K H ds vs) (h:atI ds i=some d):∃ v,L2.atI vs i=some v/\Rep K H d v:=by
 unfold L2.atI at *
 rw [<- r.length]
 cases e:ixN ds.length i with
 | none=>rw [e] at h; cases h
 | some j =>
  rw [e] at h
  exact r.get h
def fIx:W2:=fun m x _ y Q=>match x with
 | .list xs=>match y with
  | .int i=>∃ d,atI xs i=some d/\onK d (f:=fun d=>Q (itm m d) d) ⟨⟩
  | _=>False
 | .tup xs=>match y with
  | .int i=>∃ d,atI xs i=some d/\onK d (f:=fun d=>Q (itm m d) d) ⟨⟩
  | _=>False
 | .str z=>match y with
  | .int i=>∃ c,atI z.cps.toList i=some c/\Q .sh (.str ⟨#[c]⟩)
  | _=>False
 | .dK kvs=>∃ k d,y.key1=some k/\getG kvs k=some d/\onK d (f:=fun d=>Q (itm m d) d) ⟨⟩
 | .dT kvs=>match y with
  | .tup ys=>∃ ks d,dO ys=some ks/\getG kvs ks=some d/\onK d (f:=fun d=>Q (itm m d) d) ⟨⟩
  | _=>False
 | _=>False
def rIxD (K:PySem.W.Frag):R2:=fun x y H Q=>rIxU K x y H Q\/∃ a v,x=.ref a/\DGet H a y (some v)/\Q v H
theorem yf (c:Nat):(⟨#[c]⟩:Str).length<=sizeLine:=by show 1<=sizeLine; decide
theorem RM.here {K:PySem.W.Frag} {Hs H:Hp} {m:Md} {d:D} {v:V} {As:List Addr} (w:Wf Hs H) (r:RM K Hs H m d v As):(m=.sh/\Rep K Hs d v)\/(m≠.sh/\Rep K H d v):=by
 cases m with
 | sh=>exact .inl ⟨rfl,r.2⟩
 | ow fl=>exact .inr ⟨(fun z=>nomatch z),r.rep w⟩
 | bo=>exact .inr ⟨(fun z=>nomatch z),r.2⟩
section
variable {X:Cx} {K:PySem.W.Frag}
theorem DY:Br2 K (rIxD K) fIx:=by
 intro Hs H m x v As n y u Bs Qd Qv w rx ry h f
 have r2:=ry.rep w
 have core:∀ G:Hp,Same G H->(∀ d v,Rep K G d v->Rep K H d v/\(m=.sh->Rep K Hs d v))->Rep K G x v->rIxD K v u H Qv:=by
  intro G sg up r1
  cases r1 with
  | list z s q =>
   cases r2 with
   | int i =>
    obtain ⟨d,e,h⟩:=h
    obtain ⟨v',e',r'⟩:=q.atI e
    obtain ⟨u1,u2⟩:=up _ _ r'
    exact .inl (.inl ⟨_,v',Same.seq sg s,e',f.itm w u1 u2 h⟩)
   | _=>exact h.elim
  | tup _ s q =>
   cases r2 with
   | int i =>
    obtain ⟨d,e,h⟩:=h
    obtain ⟨v',e',r'⟩:=q.atI e
    obtain ⟨u1,u2⟩:=up _ _ r'
    exact .inl (.inr ⟨_,v',.inl (.inl (sg _ _ s)),e',f.itm w u1 u2 h⟩)
   | _=>exact h.elim
  | str hz =>
   cases r2 with
   | int i =>
    obtain ⟨c,e,h⟩:=h
    exact .inl ⟨hz,c,e,f.sh w (.str (yf c)) h⟩
   | _=>exact h.elim
  | dK kk s q =>
   obtain ⟨k,d,hk,hg,h⟩:=h
   have ev:=r2.key hk
   subst ev
   have z:=zip_get (k:=k) q
   rw [hg] at z
   obtain ⟨v',e',r'⟩:=z
   obtain ⟨u1,u2⟩:=up _ _ r'
   exact .inr ⟨_,v',rfl,by rw [<- e']; exact DGet.k (sg _ _ s),f.itm w u1 u2 h⟩
  | dT kk s q =>
   cases r2 with
   | tup t2 e2 q2 =>
    obtain ⟨ks,d,hk,hg,h⟩:=h
    obtain ⟨b,eb,e3⟩:=Rep.keyT (.tup t2 e2 q2) hk
    cases eb
    have z:=zip_get (k:=ks) q
    rw [hg] at z
    obtain ⟨v',e',r'⟩:=z
    obtain ⟨u1,u2⟩:=up _ _ r'
    exact .inr ⟨_,v',rfl,by rw [<- e']; exact DGet.t (sg _ _ s) e3,f.itm w u1 u2 h⟩
   | _=>exact h.elim
  | _=>exact h.elim
 rcases rx.here w with ⟨hm,r⟩ | ⟨hm,r⟩
 ·exact core Hs w.sub (fun d v q=>And.intro (q.same w.sub) fun _=>q) r
 ·exact core H (Same.refl H) (fun d v q=>And.intro q fun z=>absurd z hm) r
theorem kIxD (hu:X.A.units+64<cLine) (hK:X.K=K:=by rfl):IxR X (rIxD K):=by
 subst hK
 refine IxR.or xF ?_
 intro value slice pins s σ H x y v u Q I rx ry h hs
 obtain ⟨a,w,rfl,g,q⟩:=h
 cases rx
 exact tail_any (dict_typeIs I g) F.slot_dict_getitem.lookup (d_getItem (by lia) I g ry fun w' s3 I3 rw'=>⟨w,H,I3,rw',q⟩) hs
variable {a b:Expr} {ta tb:WE} {pos:Pos}
theorem q_ix (hu:X.A.units+64<cLine) (ha:QE X K a ta) (hb:QE X K b tb) (hs:PlainIx b:=by exact fun _ _=>rfl) (hK:X.K=K:=by rfl):QE X K (.Subscript a b pos) (wOp fIx ta tb):=PE.imp (pe_ix (kIxD hu hK) ha hb hs) (lB DY)
end
def cutG {α:Type} (xs:List α) (lo hi:Option Int):List α:=(xs.drop (HT.sIx xs.length 0 lo)).take (HT.sIx xs.length xs.length hi - HT.sIx xs.length 0 lo)
abbrev WO:=Env->(Option Int->Prop)->Prop
def nU:WO:=fun _ Q=>Q none
def jo (t:WE):WO:=fun ρ Q=>t ρ fun _ x=>match x with
 | .int i=>Q (some i)
 | _=>False
def fSl (m:Md) (x:D) (lo hi:Option Int) (Q:Md->D->Prop):Prop:=match x with
 | .str z=>Q .sh (.str (cutS z lo hi))
 | .list xs=>(flats xs=true/\Q (.ow true) (.list (cutG xs lo hi)))\/(m=.sh/\Q (.ow false) (.list (cutG xs lo hi)))
 | .tup xs=>flats xs=true/\¬ (HT.sIx xs.length 0 lo=0/\HT.sIx xs.length xs.length hi=xs.length)/\Q .sh (.tup (cutG xs lo hi))
 | _=>False
def wSl (te:WE) (tl th:WO):WE:=fun ρ Q=>te ρ fun m x=>tl ρ fun lo=>th ρ fun hi=>fSl m x lo hi Q
def tpO (K:PySem.W.Frag) (t:WO):TO:=fun σ H Qv=>∃ Hs ρ tot Q,SRel K Hs ρ σ H tot/\t ρ Q/\∀ o H' Hs',Grow Hs H Hs' H'->Q o->Qv o H'
abbrev QO (X:Cx) (K:PySem.W.Frag) (e:Option Expr) (t:WO):Prop:=PO X e (tpO K t)
theorem vO (z:Str) (lo hi:Option Int):(cutS z lo hi).length<=z.length:=by
 unfold cutS Str.length
 simp only [xaw,xaT,xbk,xa0]
 lia
theorem gW {α:Type} (xs:List α) (lo hi:Option Int):(cutG xs lo hi).length<=xs.length:=by
 unfold cutG
 rw [xaT,xbk]
 lia
theorem lZ {xs:List D} {lo hi:Option Int} (h:flats xs=true):flats (cutG xs lo hi)=true:=by
 rw [iw] at *
 intro x hx
 exact h x (xb9 (xbA hx))
section
variable {X:Cx} {K:PySem.W.Frag} {e:Expr} {lo hi:Option Expr} {te:WE} {tl th:WO} {pos p2:Pos}
theorem yz:QO X K none nU:=fun pins s σ H Q I h=>po_none pins s σ H Q I (by
 obtain ⟨Hs,ρ,tot,Qd,sr,h,f⟩:=h
 exact f none H Hs (Grow.refl sr.wf) h)
theorem eF (h:QE X K e te):QO X K (some e) (jo te):=fun pins s σ H Q I hh=>po_some h pins s σ H Q I (by
 obtain ⟨Hs,ρ,tot,Qd,sr,h,f⟩:=hh
 refine ⟨Hs,ρ,tot,_,sr,h,fun v H1 Hs1 m x As g1 r1 f1 q1=>?_⟩
 have r:=r1.rep g1.wf
 cases r with
 | int i=>exact ⟨i,rfl,f _ H1 Hs1 g1 q1⟩
 | _=>exact q1.elim)
theorem fC {H:Hp} {ds:List D} {vs:List V} {lo hi:Option Int} (r:Reps K H ds vs):Reps K H (cutG ds lo hi) (cutV vs lo hi):=by
 unfold cutG cutV
 rw [r.length]
 exact (r.drop _).take _
theorem kSl2 (hK:X.K=K:=by rfl):SlR X (fun x lo hi H Q=>rSlS K x lo hi H Q\/rSlT K x lo hi H Q):=by
 subst hK
 intro pins s σ H x v vl vu lo hi sl Q I rx hs pl pu h
 rcases h with h | h
 ·exact Ce pins s σ H x v vl vu lo hi sl Q I rx hs pl pu h
 ·exact sl_tup pins s σ H x v vl vu lo hi sl Q I rx hs pl pu h
theorem uC (he:QE X K e te) (hl:QO X K lo tl) (hh:QO X K hi th) (hK:X.K=K:=by rfl):QE X K (.Subscript e (.Slice lo hi none p2) pos) (wSl te tl th):=by
 refine PE.imp (pe_slice (kSl2 hK) he hl hh) fun σ H Qv hx=>ex4 hx fun Hs ρ tot Q sr h f=>?_
 refine ⟨Hs,ρ,tot,_,sr,h,fun v H1 Hs1 m x As g1 r1 f1 q1=>⟨Hs1,ρ,tot,_,sr.grow g1,q1,fun l H2 Hs2 g2 q2=>⟨Hs2,ρ,tot,_,(sr.grow g1).grow g2,q2,fun u H3 Hs3 g3 q3=>?_⟩⟩⟩
 have r3:=(r1.grow g2).grow g3
 have fin:Fin K Hs3 H3 Q Qv:=Fin.after f ((g1.trans g2).trans g3)
 have rr:=r3.rep g3.wf
 cases rr with
 | str hz=>exact .inl ⟨hz,fin.sh g3.wf (.str (xaq (vO _ _ _) hz)) q3⟩
 | list z s q =>
  have hz:=q.length
  rcases q3 with ⟨hf,q3⟩ | ⟨rfl,q3⟩
  ·exact .inl ⟨_,s,fin.lst g3.wf (xaq (gW _ _ _) (by lia)) (fC q) (lZ hf) q3⟩
  ·obtain ⟨_,r3⟩:=r3
   cases r3 with
   | list z' s' q' =>
    have hz:=q'.length
    exact .inl ⟨_,Same.seq g3.wf.sub s',fin.lstS g3.wf (xaq (gW _ _ _) (by lia)) (fC q') q3⟩
 | tup z s q =>
  have hz:=q.length
  obtain ⟨hf,hn,q3⟩:=q3
  exact .inr ⟨_,_,rfl,.inl (.inl s),by rw [<- hz]; exact hn,fin.tup g3.wf (xaq (gW _ _ _) (by lia)) (fC q) (lZ hf) q3⟩
 | _=>exact q3.elim
end
def fLen:W1:=fun _ x Q=>match x with
 | .str z=>Q .sh (.int z.length)
 | .list xs=>Q .sh (.int xs.length)
 | .tup xs=>Q .sh (.int xs.length)
 | .dK kvs=>Q .sh (.int kvs.length)
 | .dT kvs=>Q .sh (.int kvs.length)
 | _=>False
def fIsi (T:String):W1:=fun _ x Q=>Q .sh (.bl (isiT x.ty T))
def BrC (K:PySem.W.Frag) (r:List V->Hp->VK->Prop) (f:W1):Prop:=∀ Hs H m x v As Qd Qv,Wf Hs H->RM K Hs H m x v As->f m x Qd->Fin K Hs H Qd Qv->r [v] H Qv
section
variable {X:Cx} {K:PySem.W.Frag} {e:Expr} {te:WE} {pos p:Pos} {x:Str} {id T:String}
theorem jt {r:List V->Hp->VK->Prop} {f:W1} (br:BrC K r f) (σ:St) (H:Hp) (Qv:VK) (h:tpE K (wUn f te) σ H Qv):tCB r (tCons (tpE K te) tNil) σ H Qv:=by
 obtain ⟨Hs,ρ,tot,Q,sr,h,fin⟩:=h
 exact ⟨Hs,ρ,tot,_,sr,h,fun v H1 Hs1 m x As g1 r1 f1 q1=>br Hs1 H1 m x v As Q Qv g1.wf r1 q1 (Fin.after fin g1)⟩
theorem dh {r:List V->Hp->VK->Prop} {f:W1} (hc:CallR X (.builtin id) r) (br:BrC K r f) (hg:Gl X x) (hm:X.mg x=none) (hv:bootBuiltins x=some (.builtin id)) (he:QE X K e te)
  (hs:starEach [e] X.env=(false,eval e X.env) :: starEach [] X.env:=by rfl) (hn:x ≠ "__name__" := by decide) (hdb:(x == ("__debug__" : Str))=false:=by decide):QE X K (.Call (.Name x p) [e] [] pos) (wUn f te) :=
 PE.imp (pe_callB hc hg hm hv (pa_cons he pa_nil hs) hn hdb hs) (jt br)
theorem gY {r:List V->Hp->VK->Prop} {f:W1} (hc:CallR X (.type T) r) (br:BrC K r f) (hg:Gl X x) (hm:X.mg x=none) (hv:bootBuiltins x=some (.type T)) (he:QE X K e te)
  (hs:starEach [e] X.env=(false,eval e X.env) :: starEach [] X.env:=by rfl) (hn:x ≠ "__name__" := by decide) (hdb:(x == ("__debug__" : Str))=false:=by decide):QE X K (.Call (.Name x p) [e] [] pos) (wUn f te) :=
 PE.imp (pe_callTy hc hg hm hv (pa_cons he pa_nil hs) hn hdb hs) (jt br)
theorem yw {prog:Program} {w:World} {A:Around} {E:Value->Shared->Prop} {s:Shared} {d:Addr} {es:Ents} {ep:Nat} {Q:Value->Shared->Prop} (hd:(d == sysModules)=false) (x:RawD s.heap d es ep) (hfit:(es.size:Int)<2 ^ 63)
  (h:∀ t t',Q (.int es.size t) { s with toks:=t' }):wpAny (model prog w) A (call (.builtin "len") [.ref d]) Q E s:=by
 refine Calls.call_function_entry kind_len plain_len entry_len (args_len1 _) ?_
 have mt:MeetsIn prog w (Builtin.«dict.__len__» ⟨[.ref d],[]⟩) (fun _ R s=>RawD s.heap d es ep/\R (.ok (.ret (.int es.size s.toks))) { s with toks:=s.toks+1 }):=.of_wp fun A R s hx9=>by
  obtain ⟨hm,h⟩:=hx9
  obtain ⟨o,ho,hc,hdat⟩:=hm
  show wpAny _ _ (dictSize d >>= _) _ _ s
  unfold dictSize
  refine xaa (xaa (wpAny_dictEntries ho hdat (xad ?_)))
  show wpAny _ _ (Builtin.Dict.pendingCount d >>= _) _ _ s
  refine xaa (wpAny_pendingCount_other hd ?_)
  refine wpAny_ret_mkInt ?_
  rw [xcr]; exact h
 unfold Builtin.«len»
 refine xaa (m:=oneArg "len" _) (xad ?_)
 refine xaa (m:=callSpecial? (.ref d) (Str.ofString "__len__")) (wpAny_callSpecial?_slot (name:=Str.ofString "__len__") x.typ F.slot_dict_len
  (call_meetsIn F.slot_dict_len x.typ F.entry_dict_len (F.args_dict_len_1 _) mt ⟨x,?_⟩))
 show wpAny _ _ _ _ _ { s with toks:=s.toks+1 }
 refine xaa (wpAny_holding (xad ?_))
 refine xaa (wpAny_letGo ?_)
 show wpAny _ _ (if ((es.size:Nat):Int)<0 then _ else _) _ _ _
 rw [if_neg (by lia)]
 show wpAny _ _ (if ((es.size:Nat):Int) >= 2 ^ 63 then _ else _) _ _ _
 rw [if_neg (by lia)]
 exact xaa (wpAny_mkInt (xad ⟨_,rfl,h _ _⟩))
theorem bN (hK:X.K=K:=by rfl):CallR X (.builtin "len") (fun xs H Q=>rLen K xs H Q\/∃ a kvs,xs=[.ref a]/\H a=some (.dT kvs)/\Q (.int kvs.length) H):=by
 subst hK
 intro pins s σ H xs us Q I r h
 rcases h with h | ⟨a,kvs,rfl,ha,q⟩
 ·exact sJ pins s σ H xs us Q I r h
 ·obtain ⟨u,rfl,ru⟩:=Vals.one r
  cases ru
  obtain ⟨z,hd,ys,rel,o,es,ep,h1,h2,h3,h4,h5⟩:=(show ObjOk X.prog X.w H s.heap a (.dT kvs) from I.hok a _ ha)
  have hl:es.size=kvs.length:=by
   have:=congrArg List.length h4
   rw [xa0,xaf] at this
   rw [this]; exact rel.length.symm
  exact yw hd ⟨o,h1,h2,h3⟩ (by rw [sizeLine_eq] at z; lia) fun t t'=>⟨.int kvs.length,H,I.tok _,⟨t,by rw [hl]⟩,q⟩
theorem jE:BrC K (fun xs H Q=>rLen K xs H Q\/∃ a kvs,xs=[.ref a]/\H a=some (.dT kvs)/\Q (.int kvs.length) H) fLen:=by
 intro Hs H m x v As Qd Qv w rx h f
 have r1:=rx.rep w
 cases r1 with
 | str hz=>exact .inl ⟨hz,f.sh w (.int _) h⟩
 | list z s q=>exact .inl (.inl ⟨_,s,by rw [<- q.length]; exact f.sh w (.int _) h⟩)
 | tup _ s q=>exact .inl (.inr (.inl ⟨_,.inl (.inl s),by rw [<- q.length]; exact f.sh w (.int _) h⟩))
 | dK kk s q=>exact .inl (.inr (.inr ⟨_,s,by
   have:=q.length
   rw [xaf] at this
   rw [xbU,xaf,<- this,xce]
   exact f.sh w (.int _) h⟩))
 | dT kk s q=>exact .inr ⟨_,_,rfl,s,by
   have:=q.length
   rw [xaf] at this
   rw [xbU,xaf,<- this,xce]
   exact f.sh w (.int _) h⟩
 | _=>exact h.elim
end
section
variable {X:Cx} {K:PySem.W.Frag} {e e2:Expr} {te:WE} {pos p:Pos} {T:String}
theorem tQ (hK:X.K=K:=by rfl):CallR X (.builtin "isinstance") (fun xs H Q=>∃ x d T,xs=[x,.ty T]/\Rep K H d x/\okTy T=true/\Q (.bl (isiT d.ty T)) H):=by
 subst hK
 intro pins s σ H xs us Q I r h
 obtain ⟨x,d,T,rfl,rd,hT,q⟩:=h
 obtain ⟨u,v,rfl,ru,rv⟩:=Vals.two r
 obtain rfl:v=Value.type T:=rv
 have hb:T∈["str", "int", "bool", "list", "tuple", "dict"]:=by simpa [okTy] using hT
 have fin:∀ tk,EP X pins σ Q (.bool (isiT d.ty T)) { s with toks:=tk }:=fun tk=>⟨.bl (isiT d.ty T),H,I.tok tk,rfl,q⟩
 cases rd with
 | non=>exact isinst_ok I ru .non (gD X.K _ T (by simp) hb) fin
 | bl b=>exact isinst_ok I ru (.bl b) (gD X.K _ T (by simp) hb) fin
 | int i=>exact isinst_ok I ru (.int i) (gD X.K _ T (by simp) hb) fin
 | str y=>exact isinst_ok I ru (.str _) (gD X.K _ T (by simp) hb) fin
 | list z s' q' =>
  cases ru
  obtain ⟨its,_,pl,_⟩:=I.list s'
  obtain ⟨o,h1,h2,_⟩:=pl.isList
  exact PySem.W.kia_one PySem.W.kitx_list I.kIn ⟨o,h1,h2⟩ (gD X.K "list" T (by simp) hb) (fun z=>nomatch z) fin
 | tup _ s' q'=>exact isinst_ok I ru (.tup s') (gD X.K _ T (by simp) hb) fin
 | dK _ s' q'=>exact isinst_ok I ru (.dK s') (gD X.K _ T (by simp) hb) fin
 | dT _ s' q'=>exact isinst_ok I ru (.dT s') (gD X.K _ T (by simp) hb) fin
theorem xm (hm:X.mg "isinstance" = none) (he:QE X K e te) (ht:PE X e2 (tC (.ty T))) (hT:okTy T=true:=by rfl) (hg:Gl X "isinstance" := by rfl) (hK:X.K=K:=by rfl)
  (hs:starEach (e :: [e2]) X.env=(false,eval e X.env) :: starEach [e2] X.env:=by rfl) (hs2:starEach (e2 :: []) X.env=(false,eval e2 X.env) :: starEach [] X.env:=by rfl) (hpl:(backTo pos (starEach [e2] X.env)).any (·.1)=false:=by rfl) :
  QE X K (.Call (.Name "isinstance" p) [e,e2] [] pos) (wUn (fIsi T) te):=by
 refine PE.imp (pe_callB (tQ hK) hg hm jU (pa_cons he (pa_cons ht pa_nil hs2) hs) (by decide) (by decide) hs hpl) fun σ H Qv hx=>ex4 hx fun Hs ρ tot Q sr h f=>?_
 refine ⟨Hs,ρ,tot,_,sr,h,fun v H1 Hs1 m x As g1 r1 f1 q1=>⟨v,x,T,rfl,r1.rep g1.wf,hT,Fin.sh (Fin.after f g1) g1.wf (.bl _) q1⟩⟩
end
def keyD:Key->D
 | .inl i=>.int i
 | .inr x=>.str x
def qP:W1:=fun m x Q=>match x with
 | .list xs=>(flats xs=true/\Q (.ow true) (.list xs))\/(m=.sh/\Q (.ow false) (.list xs))
 | .tup xs=>(flats xs=true/\Q (.ow true) (.list xs))\/(m=.sh/\Q (.ow false) (.list xs))
 | .dT kvs=>Q (.ow true) (.list (kvs.map fun kv=>.tup (kv.1.map keyD)))
 | _=>False
section
variable {X:Cx} {K:PySem.W.Frag}
theorem pO {H:Hp}:∀ {ks:List Key},(∀ k∈ks,kOk k=true)->Reps K H (ks.map keyD) (ks.map kV)
 | [],_=>.nil
 | k :: ks,h=>by
  refine .cons ?_ (pO fun j m=>h j (xab _ m))
  have:=h k xac
  cases k with
  | inl i=>exact .int i
  | inr x=>exact .str (by simpa [kOk] using this)
theorem mY:∀ (ks:List Key),flats (ks.map keyD)=true
 | []=>rfl
 | k :: ks=>by simp only [xap,flats,mY ks,xcm]; cases k <;> rfl
theorem jP {H:Hp} {ks:List (List Key)} {ys:List V} (t:bu H ys ks) (h:∀ l∈ks,l.length<=sizeLine/\∀ k∈l,kOk k=true):Reps K H (ks.map fun l=>.tup (l.map keyD)) ys:=by
 induction ys generalizing ks with
 | nil=>rw [show ks=[] from Paired.n0 t]; exact .nil
 | cons y ys ih =>
  obtain ⟨k,ks,rfl,⟨b,rfl,e⟩,t2⟩:=Paired.c t
  exact .cons (.tup (by rw [xaf]; exact (h _ xac).1) e (pO (h _ xac).2)) (ih t2 fun l m=>h l (xab _ m))
theorem eV:∀ (ks:List (List Key)),flats (ks.map fun l=>.tup (l.map keyD))=true
 | []=>rfl
 | l :: ks=>by simp only [xap,flats,eV ks,xcm,D.flat,mY]
theorem jC (hc:X.calm=true:=by rfl) (hK:X.K=K:=by rfl):CallR X (.type "list") (fun xs H Q=>(∃ p ys,xs=[.ref p]/\(SqL K H p ys\/SqT K H p ys)/\∀ l,H l=none->Q (.ref l) (upd H l (.lst ys)))\/oU xs H Q):=by
 subst hK; exact call_list_of.or (qx hc)
theorem vd:BrC K (fun xs H Q=>(∃ p ys,xs=[.ref p]/\(SqL K H p ys\/SqT K H p ys)/\∀ l,H l=none->Q (.ref l) (upd H l (.lst ys)))\/oU xs H Q) qP:=by
 intro Hs H m x v As Qd Qv w rx h f
 have r1:=rx.rep w
 cases r1 with
 | list z s q =>
  have hl:=q.length
  rcases h with ⟨hf,h⟩ | ⟨rfl,h⟩
  ·exact .inl ⟨_,_,rfl,.inl s,f.lst w (by lia) q hf h⟩
  ·obtain ⟨_,rx⟩:=rx
   cases rx with
   | list z' s' q' =>
    have hl:=q'.length
    exact .inl ⟨_,_,rfl,.inl (Same.seq w.sub s'),f.lstS w (by lia) q' h⟩
 | tup z s q =>
  have hl:=q.length
  rcases h with ⟨hf,h⟩ | ⟨rfl,h⟩
  ·exact .inl ⟨_,_,rfl,.inr (.inl (.inl s)),f.lst w (by lia) q hf h⟩
  ·obtain ⟨_,rx⟩:=rx
   cases rx with
   | tup z' s' q' =>
    have hl:=q'.length
    exact .inl ⟨_,_,rfl,.inr (.inl (.inl (w.sub _ _ s'))),f.lstS w (by lia) q' h⟩
 | @dT _ vs kvs kk s q =>
  refine .inr ⟨_,s,fun ys l ht hl=>?_⟩
  have hlen:=q.length
  rw [xaf] at hlen
  have e:((kvs.map (·.1)).zip vs).map (·.1)=kvs.map (·.1):=xb5 (by rw [xaf]; exact xbG hlen)
  rw [e] at ht
  have rr:=jP (K:=K) ht (fun l m=>by
   obtain ⟨p,hp,rfl⟩:=xak.mp m
   exact kk.2 p hp)
  have ff:=eV (kvs.map (·.1))
  rw [xaG] at rr ff
  exact f.lst w (by rw [xaf]; exact kk.1) rr ff h l hl
 | _=>exact h.elim
end
section
variable {K:PySem.W.Frag} {Hs H:Hp}
theorem SR.uc {d:D} {v:V} (r:Rep K Hs d v) {ρ:Env} {σ:St} {tot:List Addr} (i:Nat) (s:SR K Hs H ρ σ tot):∃ tot',tot'.Sublist tot/\SR K Hs H (ρ.set i (some (.sh d))) (σ.set i (some v)) tot':=by
 induction s generalizing i with
 | nil=>exact ⟨[],xbd _,.nil⟩
 | non s ih =>
  cases i with
  | zero=>exact ⟨_,List.Sublist.refl _,.sh r s⟩
  | succ i=>obtain ⟨t,a,b⟩:=ih i; exact ⟨t,a,.non b⟩
 | sh q s ih =>
  cases i with
  | zero=>exact ⟨_,List.Sublist.refl _,.sh r s⟩
  | succ i=>obtain ⟨t,a,b⟩:=ih i; exact ⟨t,a,.sh q b⟩
 | xc s ih =>
  cases i with
  | zero=>exact ⟨_,List.Sublist.refl _,.sh r s⟩
  | succ i=>obtain ⟨t,a,b⟩:=ih i; exact ⟨t,a,.xc b⟩
 | ow ne q s ih =>
  cases i with
  | zero=>exact ⟨_,xas _ _,.sh r s⟩
  | succ i=>obtain ⟨t,a,b⟩:=ih i; exact ⟨_,a.append_left _,.ow ne q b⟩
 | lk ne q s ih =>
  cases i with
  | zero=>exact ⟨_,xas _ _,.sh r s⟩
  | succ i=>obtain ⟨t,a,b⟩:=ih i; exact ⟨_,a.append_left _,.lk ne q b⟩
theorem mK {As tot:List Addr} (nd:As.Nodup) (n:tot.Nodup) (dj:∀ a∈As,a∉tot):(As++tot).Nodup:=xar.mpr ⟨nd,n,fun a ha b hb e=>dj a ha (e ▸ hb)⟩
theorem dN {As tot B t:List Addr} (n:(B++tot).Nodup) (dj:∀ a∈As,a∉B++tot) (a:t.Nodup) (b:∀ x∈t,x∈tot\/x∈As):(B++t).Nodup/\∀ x∈B++t,x∈B++tot\/x∈As:=by
 obtain ⟨n1,n2,n3⟩:=xar.mp n
 refine ⟨xar.mpr ⟨n1,a,fun x hx y hy e=>?_⟩,fun x hx=>?_⟩
 ·subst e
  rcases b x hy with z | z
  ·exact n3 x hx x z rfl
  ·exact dj x z (xay _ hx)
 ·rcases xal.mp hx with z | z
  ·exact .inl (xay _ z)
  ·exact (b x z).imp (fun z=>xai _ z) fun z=>z
theorem SR.Ba {d:D} {v:V} {fl:Bool} {As:List Addr} (ne:As≠[]) (r:RepO K Hs H fl d v As) (nd:As.Nodup) {ρ:Env} {σ:St} {tot:List Addr} (i:Nat) (s:SR K Hs H ρ σ tot):tot.Nodup->(∀ a∈As,a∉tot) ->
  ∃ tot',tot'.Nodup/\(∀ a∈tot',a∈tot\/a∈As)/\SR K Hs H (ρ.set i (some (.ow fl d))) (σ.set i (some v)) tot':=by
 induction s generalizing i with
 | nil=>exact fun n _=>⟨[],xaQ,(fun a h=>mem0 h),.nil⟩
 | non s ih =>
  intro n dj
  cases i with
  | zero=>exact ⟨_,mK nd n dj,fun a h=>(xal.mp h).symm,.ow ne r s⟩
  | succ i=>obtain ⟨t,a,b,c⟩:=ih i n dj; exact ⟨t,a,b,.non c⟩
 | sh q s ih =>
  intro n dj
  cases i with
  | zero=>exact ⟨_,mK nd n dj,fun a h=>(xal.mp h).symm,.ow ne r s⟩
  | succ i=>obtain ⟨t,a,b,c⟩:=ih i n dj; exact ⟨t,a,b,.sh q c⟩
 | xc s ih =>
  intro n dj
  cases i with
  | zero=>exact ⟨_,mK nd n dj,fun a h=>(xal.mp h).symm,.ow ne r s⟩
  | succ i=>obtain ⟨t,a,b,c⟩:=ih i n dj; exact ⟨t,a,b,.xc c⟩
 | ow ne' q s ih =>
  intro n dj
  obtain ⟨n1,n2,n3⟩:=xar.mp n
  have dj':=fun a ha m=>dj a ha (xai _ m)
  cases i with
  | zero=>exact ⟨_,mK nd n2 dj',fun a h=>(xal.mp h).symm.imp (fun z=>xai _ z) fun z=>z,.ow ne r s⟩
  | succ i=>obtain ⟨t,a,b,c⟩:=ih i n2 dj'; exact ⟨_,(dN n dj a b).1,(dN n dj a b).2,.ow ne' q c⟩
 | lk ne' q s ih =>
  intro n dj
  obtain ⟨n1,n2,n3⟩:=xar.mp n
  have dj':=fun a ha m=>dj a ha (xai _ m)
  cases i with
  | zero=>exact ⟨_,mK nd n2 dj',fun a h=>(xal.mp h).symm.imp (fun z=>xai _ z) fun z=>z,.ow ne r s⟩
  | succ i=>obtain ⟨t,a,b,c⟩:=ih i n2 dj'; exact ⟨_,(dN n dj a b).1,(dN n dj a b).2,.lk ne' q c⟩
def asg:Md->D->Option Sl
 | .sh,d=>some (.sh d)
 | .ow fl,d=>some (.ow fl d)
 | .bo,d=>bif d.flat then some (.sh d) else none
theorem SRel.set {ρ:Env} {σ:St} {tot As:List Addr} {m:Md} {d:D} {v:V} {sl:Sl} (i:Nat) (s:SRel K Hs ρ σ H tot) (r:RM K Hs H m d v As) (nd:As.Nodup) (dj:∀ a∈As,Hs a=none/\a∉tot) (e:asg m d=some sl) :
  ∃ tot',SRel K Hs (ρ.set i (some sl)) (σ.set i (some v)) H tot':=by
 have shc:Rep K Hs d v->∃ tot',SRel K Hs (ρ.set i (some (.sh d))) (σ.set i (some v)) H tot':=fun r=>by
  obtain ⟨t,a,b⟩:=s.sr.uc r i
  exact ⟨t,b,s.wf,a.nodup s.nod,fun x hx=>s.own x (a.subset hx)⟩
 cases m with
 | sh=>cases e; exact shc r.2
 | ow fl =>
  cases e
  obtain ⟨t,a,b,c⟩:=SR.Ba r.2 r.1 nd i s.sr s.nod fun a ha=>(dj a ha).2
  exact ⟨t,c,s.wf,a,fun x hx=>(b x hx).elim (s.own x) fun z=>(dj x z).1⟩
 | bo =>
  cases hf:d.flat with
  | true =>
   simp only [asg,hf,cond_true,Option.some.injEq] at e
   subst e
   exact shc (r.flat s.wf hf)
  | false=>simp [asg,hf] at e
end
section
variable {X:Cx} {K:PySem.W.Frag} {e c:Expr} {te:WE} {tc:WT} {pos:Pos} {st:Stmt} {a b rest:List Stmt} {t u:WS}
theorem PS.imp {te te':TS} (h:PS X st te) (i:∀ D σ H,te' D σ H->te D σ H):PS X st te':=fun pins s σ H D I q=>h pins s σ H D I (i D σ H q)
theorem PSs.imp {te te':TS} (h:PSs X a te) (i:∀ D σ H,te' D σ H->te D σ H):PSs X a te':=fun pins s σ H D I q=>h pins s σ H D I (i D σ H q)
def dX:WS:=fun E ρ=>E.nx ρ
def wSeq (t u:WS):WS:=fun E ρ=>t { E with nx:=u E } ρ
def wRet (te:WE):WS:=fun E ρ=>te ρ E.rt
def wSet (i:Nat) (te:WE):WS:=fun E ρ=>te ρ fun m d=>match asg m d with
 | some sl=>E.nx (ρ.set i (some sl))
 | none=>False
def wIfS (c:WT) (t u:WS):WS:=fun E ρ=>c ρ fun b=>if b=true then t E ρ else u E ρ
theorem bC:QSs X K L [] dX:=PSs.imp pss_nil fun D σ H hx=>fj hx fun Hs ρ tot E sr h k1 _ _ _=>k1 σ H Hs ρ tot (Same.refl _) sr h
theorem vC {D:Ends} {σ:St} {H:Hp} (h:tpS K L (wSeq t u) D σ H):tSeq (tpS K L t) (tpS K L u) D σ H:=by
 obtain ⟨Hs,ρ,tot,E,sr,h,k1,k2,k3,k4,kx⟩:=h
 refine ⟨Hs,ρ,tot,{ E with nx:=u E },sr,h,fun σ' H' Hs' ρ' tot' s sr' q=>?_,k2,k3,k4,kx⟩
 exact ⟨Hs',ρ',tot',E,sr',q,fun σ2 H2 Hs2 ρ2 tot2 s2=>k1 σ2 H2 Hs2 ρ2 tot2 (s.trans s2),fun σ2 H2 Hs2 ρ2 tot2 s2=>k2 σ2 H2 Hs2 ρ2 tot2 (s.trans s2),fun σ2 H2 Hs2 ρ2 tot2 s2=>k3 σ2 H2 Hs2 ρ2 tot2 (s.trans s2),
  fun v H2 Hs2 m d As s2=>k4 v H2 Hs2 m d As (s.trans s2),fun n H2 s2=>kx n H2 (s.trans s2)⟩
theorem aa (h1:QS X K L st t) (h2:QSs X K L rest u):QSs X K L (st :: rest) (wSeq t u):=PSs.imp (pss_cons h1 h2) fun D σ H h=>vC h
theorem ao (h1:QS X K L st t):QSs X K L [st] t:=pss_one h1
theorem bZ (he:QE X K e te):QS X K L (.Return (some e) pos) (wRet te):=PS.imp (ps_ret he) fun D σ H hx=>fj hx fun Hs ρ tot E sr h k1 k2 k3 k4 =>
 ⟨Hs,ρ,tot,_,sr,h,fun v H1 Hs1 m d As g1 r1 f1 q1=>k4 v H1 Hs1 m d As g1.sh g1.wf r1 f1.1 (fun a ha=>(f1.2 a ha).1) q1⟩
def uX (i:Nat):WS:=fun E ρ=>match ρ[i]? with
 | some (some (.sh d))=>E.rt .sh d
 | some (some (.ow fl d))=>E.rt (.ow fl) d
 | _=>False
theorem SR.at {ρ:Env} {σ:St} {tot:List Addr} {i:Nat} {fl:Bool} {d:D} {Hs H:Hp} (s:SR K Hs H ρ σ tot) (e:ρ[i]? = some (some (.ow fl d))):∃ v As,σ[i]? = some (some v)/\As≠[]/\RepO K Hs H fl d v As/\As.Sublist tot:=by
 induction s generalizing i with
 | nil=>simp at e
 | non s ih =>
  cases i with
  | zero=>simp at e
  | succ i=>exact ih e
 | sh r s ih =>
  cases i with
  | zero=>simp at e
  | succ i=>exact ih e
 | xc s ih =>
  cases i with
  | zero=>simp at e
  | succ i=>exact ih e
 | ow ne r s ih =>
  cases i with
  | zero=>simp at e; obtain ⟨rfl,rfl⟩:=e; exact ⟨_,_,rfl,ne,r,xbc _ _⟩
  | succ i =>
   obtain ⟨v,As,a,b,c,d⟩:=ih e
   exact ⟨v,As,a,b,c,d.trans (xas _ _)⟩
 | lk ne r s ih =>
  cases i with
  | zero=>simp at e
  | succ i =>
   obtain ⟨v,As,a,b,c,d⟩:=ih e
   exact ⟨v,As,a,b,c,d.trans (xas _ _)⟩
theorem u_ {i:Nat} (he:PE X e (tVar i)):QS X K L (.Return (some e) pos) (uX i):=PS.imp (ps_ret he) fun D σ H hx=>fj hx fun Hs ρ tot E sr h k1 k2 k3 k4=>by
 unfold uX at h
 split at h
 ·rename_i d e1
  obtain ⟨v,e2,r⟩:=sr.sr.get e1
  exact ⟨v,e2,k4 v H Hs .sh d [] (Same.refl _) sr.wf ⟨rfl,r⟩ xaQ (fun a ha=>nomatch ha) h⟩
 ·rename_i fl d e1
  obtain ⟨v,As,e2,ne,r,sb⟩:=sr.sr.at e1
  exact ⟨v,e2,k4 v H Hs (.ow fl) d As (Same.refl _) sr.wf ⟨r,ne⟩ (sb.nodup sr.nod) (fun a ha=>sr.own a (sb.subset ha)) h⟩
 ·exact h.elim
theorem aN {i:Nat} {x:Str} {pos':Pos} (hN:X.N.Nodup) (hi:X.N[i]? = some x) (hx:Loc X.env.scope x) (he:QE X K e te) (hs:swapsWith e (some (.Name x pos')) pos.line X.env=pure false:=by rfl)
  (hf:X.fn x=true\/X.env.scope.names.lookup x=some .local:=by first | exact .inl rfl | exact .inr rfl | assumption):QS X K L (.Assign [.Name x pos'] e pos) (wSet i te):=PS.imp (ps_set hN hi hx he hs hf) fun D σ H hx=>fj hx fun Hs ρ tot E sr h k1 k2 k3 k4=>by
 refine ⟨Hs,ρ,tot,_,sr,h,fun v H1 Hs1 m d As g1 r1 f1 q1=>?_⟩
 have q1:match asg m d with
  | some sl=>E.nx (ρ.set i (some sl))
  | none=>False:=q1
 cases e:asg m d with
 | none=>rw [e] at q1; exact q1.elim
 | some sl =>
  rw [e] at q1
  obtain ⟨tot',s'⟩:=(sr.grow g1).set i r1 f1.1 (fun a ha=>⟨(f1.2 a ha).1,fun m=>(sr.sr.own a m).ne (f1.2 a ha).2⟩) e
  exact k1 _ H1 Hs1 _ tot' g1.sh s' q1
theorem fQ (hc:QT X K c tc) (ha:QSs X K L a t) (hb:QSs X K L b u):QS X K L (.If c a b pos) (wIfS tc t u):=PS.imp (ps_if hc ha hb) fun D σ H hx=>iY hx fun Hs ρ tot E sr h k1 k2 k3 k4 kx=>by
 refine ⟨Hs,ρ,tot,_,sr,h,fun k H1 Hs1 g1 q1=>?_⟩
 have k1':∀ σ' H' Hs' ρ' tot',Same Hs1 Hs'->SRel K Hs' ρ' σ' H' tot'->E.nx ρ'->D.nx σ' H':=fun σ2 H2 Hs2 ρ2 tot2 s2=>k1 σ2 H2 Hs2 ρ2 tot2 (g1.sh.trans s2)
 have k2':∀ σ' H' Hs' ρ' tot',Same Hs1 Hs'->SRel K Hs' ρ' σ' H' tot'->E.bk ρ'->D.bk σ' H':=fun σ2 H2 Hs2 ρ2 tot2 s2=>k2 σ2 H2 Hs2 ρ2 tot2 (g1.sh.trans s2)
 have k3':∀ σ' H' Hs' ρ' tot',Same Hs1 Hs'->SRel K Hs' ρ' σ' H' tot'->E.ct ρ'->D.ct σ' H':=fun σ2 H2 Hs2 ρ2 tot2 s2=>k3 σ2 H2 Hs2 ρ2 tot2 (g1.sh.trans s2)
 cases k with
 | true=>exact ⟨Hs1,ρ,tot,E,sr.grow g1,q1,k1',k2',k3',(fun v H2 Hs2 m d As s2=>k4 v H2 Hs2 m d As (g1.sh.trans s2)),fun n H2 s2=>kx n H2 (g1.sh.trans s2)⟩
 | false=>exact ⟨Hs1,ρ,tot,E,sr.grow g1,q1,k1',k2',k3',(fun v H2 Hs2 m d As s2=>k4 v H2 Hs2 m d As (g1.sh.trans s2)),fun n H2 s2=>kx n H2 (g1.sh.trans s2)⟩
def frzH (Hs H:Hp) (As:List Addr):Hp:=fun a=>if a∈As then H a else Hs a
theorem dJ {Hs H:Hp} {As:List Addr} (n:∀ a∈As,Hs a=none):Same Hs (frzH Hs H As):=fun a o e=>by
 unfold frzH
 rw [if_neg fun m=>by rw [n a m] at e; cases e]
 exact e
theorem ux {Hs H:Hp} {As:List Addr} (w:Wf Hs H) (o:∀ a∈As,Own H a):Wf (frzH Hs H As) H:=⟨fun a u e=>by
  unfold frzH at e
  by_cases m:a∈As
  ·rw [if_pos m] at e; exact e
  ·rw [if_neg m] at e; exact w.sub a u e,fun a vs e=>by
  unfold frzH
  rw [if_neg fun m=>(o a m).tE e]
  exact w.tups a vs e⟩
def shS:Sl->Sl
 | .sh d=>.sh d
 | .ow _ d=>.sh d
 | .lk a fl d=>.lk a fl d
 | .xc a=>.xc a
def shC:Sl->Sl
 | .sh d=>.sh d
 | .ow _ d=>.sh d
 | .lk _ _ d=>.sh d
 | .xc a=>.xc a
def frzE (i:Nat) (ρ:Env):Env:=match ρ[i]? with
 | some (some sl)=>ρ.set i (some (shS sl))
 | _=>ρ
theorem jZ {As tot B t:List Addr} (n:(B++tot).Nodup) (a:As.Sublist tot) (c:∀ x∈As,x∉t):∀ x∈As,x∉B++t:=fun x hx m=>by
 obtain ⟨n1,n2,n3⟩:=xar.mp n
 rcases xal.mp m with z | z
 ·exact n3 x z x (a.subset hx) rfl
 ·exact c x hx z
theorem SR.frz {Hs H:Hp} {ρ:Env} {σ:St} {tot:List Addr} (i:Nat) {fl:Bool} {d:D} (s:SR K Hs H ρ σ tot):ρ[i]? = some (some (.ow fl d))->tot.Nodup ->
  ∃ (As tot':List Addr),As.Sublist tot/\tot'.Sublist tot/\(∀ a∈As,a∉tot')/\∀ Hs',Same Hs Hs'->(∀ a∈As,Hs' a=H a)->SR K Hs' H (ρ.set i (some (.sh d))) σ tot':=by
 induction s generalizing i with
 | nil=>intro e; simp at e
 | non q ih =>
  intro e n
  cases i with
  | zero=>simp at e
  | succ i =>
   obtain ⟨As,t,a,b,c,d⟩:=ih i e n
   exact ⟨As,t,a,b,c,fun Hs' s k=>.non (d Hs' s k)⟩
 | sh r q ih =>
  intro e n
  cases i with
  | zero=>simp at e
  | succ i =>
   obtain ⟨As,t,a,b,c,d⟩:=ih i e n
   exact ⟨As,t,a,b,c,fun Hs' s k=>.sh (r.same s) (d Hs' s k)⟩
 | xc q ih =>
  intro e n
  cases i with
  | zero=>simp at e
  | succ i =>
   obtain ⟨As,t,a,b,c,d⟩:=ih i e n
   exact ⟨As,t,a,b,c,fun Hs' s k=>.xc (d Hs' s k)⟩
 | ow ne r q ih =>
  intro e n
  obtain ⟨n1,n2,n3⟩:=xar.mp n
  cases i with
  | zero =>
   simp at e
   obtain ⟨rfl,rfl⟩:=e
   exact ⟨_,_,xbc _ _,xas _ _,fun a h m=>n3 a h a m rfl,fun Hs' s k=>.sh (r.rep s k) (q.stay s fun _ _=>rfl)⟩
  | succ i =>
   obtain ⟨As,t,a,b,c,d⟩:=ih i e n2
   exact ⟨As,_,a.trans (xas _ _),b.append_left _,jZ n a c,fun Hs' s k=>.ow ne (r.stay s fun _ _=>rfl) (d Hs' s k)⟩
 | lk ne r q ih =>
  intro e n
  obtain ⟨n1,n2,n3⟩:=xar.mp n
  cases i with
  | zero=>simp at e
  | succ i =>
   obtain ⟨As,t,a,b,c,d⟩:=ih i e n2
   exact ⟨As,_,a.trans (xas _ _),b.append_left _,jZ n a c,fun Hs' s k=>.lk ne (r.stay s fun _ _=>rfl) (d Hs' s k)⟩
theorem SRel.frz {ρ:Env} {σ:St} {tot:List Addr} {Hs H:Hp} (i:Nat) (s:SRel K Hs ρ σ H tot):∃ Hs' tot',Same Hs Hs'/\SRel K Hs' (frzE i ρ) σ H tot':=by
 unfold frzE
 split
 ·rename_i sl e
  have keep:shS sl=sl->∃ Hs' tot',Same Hs Hs'/\SRel K Hs' (ρ.set i (some (shS sl))) σ H tot':=fun hs=>by
   have e2:ρ.set i (some (shS sl))=ρ:=by
    apply xbg
    intro j
    rw [List.getElem?_set]
    by_cases h:i=j
    ·subst h
     rw [if_pos rfl,e]
     have:i<ρ.length:=(xaj.mp e).1
     simp [this,hs]
    ·rw [if_neg h]
   rw [e2]
   exact ⟨Hs,tot,Same.refl _,s⟩
  cases sl with
  | sh d=>exact keep rfl
  | xc a=>exact keep rfl
  | lk a fl d=>exact keep rfl
  | ow fl d =>
   obtain ⟨As,t,a,b,c,g⟩:=SR.frz i s.sr e s.nod
   have hn:∀ a∈As,Hs a=none:=fun x hx=>s.own x (a.subset hx)
   have ho:∀ a∈As,Own H a:=fun x hx=>s.sr.own x (a.subset hx)
   refine ⟨frzH Hs H As,t,dJ hn,g _ (dJ hn) fun x hx=>by unfold frzH; rw [if_pos hx],ux s.wf ho,b.nodup s.nod,fun x hx=>?_⟩
   unfold frzH
   rw [if_neg fun m=>c x m hx]
   exact s.own x (b.subset hx)
 ·exact ⟨Hs,tot,Same.refl _,s⟩
def wFrz (i:Nat) (t:WS):WS:=fun E ρ=>t E (frzE i ρ)
theorem vh {i:Nat} {D:Ends} {σ:St} {H:Hp} (h:tpS K L (wFrz i t) D σ H):tpS K L t D σ H:=by
 obtain ⟨Hs,ρ,tot,E,sr,h,k1,k2,k3,k4,kx⟩:=h
 obtain ⟨Hs',tot',s,sr'⟩:=sr.frz i
 exact ⟨Hs',_,tot',E,sr',h,fun σ2 H2 Hs2 ρ2 tot2 s2=>k1 σ2 H2 Hs2 ρ2 tot2 (s.trans s2),fun σ2 H2 Hs2 ρ2 tot2 s2=>k2 σ2 H2 Hs2 ρ2 tot2 (s.trans s2),fun σ2 H2 Hs2 ρ2 tot2 s2=>k3 σ2 H2 Hs2 ρ2 tot2 (s.trans s2),
  fun v H2 Hs2 m d As s2=>k4 v H2 Hs2 m d As (s.trans s2),fun n H2 s2=>kx n H2 (s.trans s2)⟩
theorem bw (i:Nat) (h:QS X K L st t):QS X K L st (wFrz i t):=PS.imp h fun D σ H h=>vh h
def il (Hs1 H1 Hs' H':Hp):Hp:=fun a=>match H' a with
 | some (.tup vs)=>some (.tup vs)
 | _=>match H1 a with
  | none=>Hs' a
  | some _=>Hs1 a
theorem dq {Hs1 H1 Hs' H':Hp} (w:Wf Hs1 H1) (s:Same H1 Hs') (w':Wf Hs' H'):Grow Hs1 H1 (il Hs1 H1 Hs' H') H':=by
 have sa:Same H1 H':=s.trans w'.sub
 have tp:∀ a vs,H' a=some (.tup vs)->il Hs1 H1 Hs' H' a=some (.tup vs):=fun a vs e=>by unfold il; rw [e]
 have nt:∀ a,(∀ vs,H' a≠some (.tup vs))->il Hs1 H1 Hs' H' a=match H1 a with
  | none=>Hs' a
  | some _=>Hs1 a:=fun a h=>by
  unfold il
  split
  ·rename_i vs e; exact absurd e (h vs)
  ·rfl
 refine ⟨sa,fun a o e=>?_,⟨fun a o e=>?_,tp⟩,fun a h=>?_⟩
 ·have e1:=w.sub a o e
  have e2:=sa a o e1
  by_cases ht:∃ vs,o=.tup vs
  ·obtain ⟨vs,rfl⟩:=ht
   exact tp a vs e2
  ·rw [nt a fun vs z=>ht ⟨vs,by rw [e2] at z; exact Option.some.inj z⟩,e1]
   exact e
 ·by_cases ht:∃ vs,H' a=some (.tup vs)
  ·obtain ⟨vs,z⟩:=ht
   rw [tp a vs z] at e
   rw [z]; exact e
  ·rw [nt a fun vs z=>ht ⟨vs,z⟩] at e
   cases q:H1 a with
   | none=>rw [q] at e; exact w'.sub a o e
   | some u =>
    rw [q] at e
    have:=w.sub a o e
    exact sa a o this
 ·cases q:H1 a with
  | none=>exact .inr rfl
  | some u =>
   refine .inl ?_
   by_cases ht:∃ vs,H' a=some (.tup vs)
   ·obtain ⟨vs,z⟩:=ht
    have:=sa a u q
    rw [z] at this
    cases this
    rw [w.tups a vs q]
    exact fun z=>nomatch z
   ·rw [nt a fun vs z=>ht ⟨vs,z⟩,q] at h
    exact h
theorem tR {Hs1 H1 Hs' H':Hp} {a:Addr} (s:Same H1 Hs') (h:Hs' a=none) (o:Own H' a):il Hs1 H1 Hs' H' a=none/\H1 a=none:=by
 have h1:=s.free h
 refine ⟨?_,h1⟩
 unfold il
 split
 ·rename_i vs e; exact absurd e o.tE
 ·rw [h1]; exact h
def retM:Md->D->Md
 | .ow true,_=>.ow true
 | _,d=>bif d.flat then .sh else .bo
theorem lA {Hs1 H1 Hs' H':Hp} {m:Md} {d:D} {v:V} {As:List Addr} (w:Wf Hs1 H1) (s:Same H1 Hs') (w':Wf Hs' H') (r:RM K Hs' H' m d v As) (nd:As.Nodup) (own:∀ a∈As,Hs' a=none) :
  ∃ As',RM K (il Hs1 H1 Hs' H') H' (retM m d) d v As'/\bK (il Hs1 H1 Hs' H') H1 As':=by
 have g:=dq w s w'
 have other:∃ As',RM K (il Hs1 H1 Hs' H') H' (bif d.flat then .sh else .bo) d v As'/\bK (il Hs1 H1 Hs' H') H1 As':=by
  cases hf:d.flat with
  | true=>exact ⟨[],⟨rfl,(r.rep w').fH g.wf.tups hf⟩,bK.nil⟩
  | false=>exact ⟨[],⟨rfl,r.rep w'⟩,bK.nil⟩
 cases m with
 | sh=>exact other
 | bo=>exact other
 | ow fl =>
  cases fl with
  | false=>exact other
  | true=>exact ⟨As,⟨RepO.leaves (fun a vs e=>g.wf.tups a vs (w'.sub _ _ e)) r.1,r.2⟩,nd,fun a h=>tR s (own a h) (r.own a h)⟩
abbrev SpD:=List D->(Md->D->Prop)->Prop
def au (K:PySem.W.Frag) (sp:SpD):Sp:=fun vs H Qv _=>∃ ds Qd,Reps K H ds vs/\sp ds Qd /\
 ∀ v H' Hs' m d As,Same H Hs'->Wf Hs' H'->RM K Hs' H' m d v As->As.Nodup->(∀ a∈As,Hs' a=none)->Qd m d->Qv v H'
def bH (n:Nat) (ds:List D):Env:=ds.map (fun d=>some (.sh d))++List.replicate (n - ds.length) none
theorem SR.start {H:Hp} {ds:List D} {vs:List V} {n:Nat} (r:Reps K H ds vs):SR K H H (ds.map (fun d=>some (.sh d))++List.replicate n none) (vs.map some++List.replicate n none) []:=by
 induction ds generalizing vs with
 | nil =>
  rw [r.n0]
  induction n with
  | zero=>exact .nil
  | succ n ih=>exact .non ih
 | cons d ds ih =>
  obtain ⟨u,us,rfl,r,rs⟩:=r.c
  exact .sh r (ih rs)
theorem rJ {sp:SpD} {N:List Str} {vs:List V} {H:Hp} {Qv:VK} {E:XK} (h:au K sp vs H Qv E) (hp:∀ ds Q,sp ds Q->t { nx:=fun _=>Q .sh .non,rt:=Q } (bH N.length ds)) :
  tpS K L0 t { nx:=fun _ H'=>Qv .non H',rt:=Qv } (start N vs) H:=by
 obtain ⟨ds,Qd,rs,hs,fin⟩:=h
 have hl:=rs.length
 refine ⟨H,bH N.length ds,[],{ nx:=fun _=>Qd .sh .non,rt:=Qd },⟨?_,⟨Same.refl _,fun _ _ e=>e⟩,xaQ,fun a h=>nomatch h⟩,hp ds Qd hs,?_,?_,?_,?_,fun _ _ _ _=>trivial⟩
 ·unfold bH start
  rw [hl]
  exact SR.start rs
 ·exact fun σ' H' Hs' ρ' tot' s sr q=>fin .non H' Hs' .sh .non [] s sr.wf ⟨rfl,.non⟩ xaQ (fun a h=>nomatch h) q
 ·exact fun σ' H' Hs' ρ' tot' s sr q=>q.elim
 ·exact fun σ' H' Hs' ρ' tot' s sr q=>q.elim
 ·exact fun v H' Hs' m d As s w r nd own q=>fin v H' Hs' m d As s w r nd own q
theorem FunQ.ok {P:Program} {w:World} {mg:Str->Option Value} {base:Heap} {x qual:Str} {st:Stmt} {f:Addr} {fd:FuncData} {N ps:List Str} {k:Nat} {sp:SpD} {t:WS} (F:Fun K x qual st f fd) (S:FnScope N ps (defScope st)) (len:∀ ds Q,sp ds Q->ds.length=ps.length)
  (hbody:∀ (cdv:Value) (A:Around) (outer:List PySem.Env) (s:Shared) (H:Hp) (E:XK),Room k (A.deeper (envOfC qual (defScope st) s.heap.objs.size f cdv))->QSs (cxOf CX0 P w K mg base N qual (defScope st) f cdv A outer s H E).nox K L0 (defBody st) t)
  (hp:∀ ds Q,sp ds Q->t { nx:=fun _=>Q .sh .non,rt:=Q } (bH N.length ds)):FnOk P w K mg base CX0 (k+1) f fd ps (au K sp) :=
 F.ok S (fun vs H Q E ⟨ds,Qd,rs,hs,_⟩=>by rw [<- rs.length]; exact len ds Qd hs) fun cdv A outer s H vs Q E hr hs=>⟨_,hbody cdv A outer s H E hr,rJ hs hp⟩
def cA (sp:SpD) (t:WA):WE:=fun ρ Q=>t ρ fun ps=>sp (ps.map (·.2)) fun m d=>onK (m,d) (f:=fun p=>Q (retM p.1 p.2) p.2) ⟨⟩
theorem uQ {sp:SpD} {t:WA} {σ:St} {H:Hp} {Qv:VK} {E:XK} (h:tpE K (cA sp t) σ H Qv):tCall (au K sp) [] E (tpA K t) σ H Qv:=by
 obtain ⟨Hs,ρ,tot,Q,sr,h,f⟩:=h
 refine ⟨Hs,ρ,tot,_,sr,h,fun vs H1 Hs1 ps As g1 r1 f1 q1=>?_⟩
 refine ⟨_,_,by rw [xaO]; exact r1.reps g1.wf,q1,fun v H' Hs' m d As s w r nd own q=>?_⟩
 obtain ⟨As',r',fr⟩:=lA g1.wf s w r nd own
 exact Fin.after f g1 v H' _ (retM m d) d As' (dq g1.wf s w) r' fr q
theorem cU {k:Nat} {x:Str} {ps:List Str} {sp:SpD} {p:Pos} {es:List Expr} {t:WA} (C:Cal X.prog X.w X.K X.mg X.base k x ps (au K sp)) (hr:Room k X.A) (ha:QA X K (e :: es) t) (hg:Gl X x:=by rfl) (hdb:(x == ("__debug__" : Str))=false:=by decide) (he:starEach (e :: es) X.env=(false,eval e X.env) :: starEach es X.env:=by rfl)
  (hpl:(backTo pos (starEach es X.env)).any (·.1)=false:=by rfl):QE X K (.Call (.Name x p) (e :: es) [] pos) (cA sp t):=PE.imp (Bt C hr ha hg hdb he hpl) fun σ H Qv h=>uQ h
end
abbrev WG:=D->Env->(Env->Prop)->Prop
def tpG (K:PySem.W.Frag) (g:WG):TG:=fun v σ H Qv=>∃ Hs ρ tot d Q,SRel K Hs ρ σ H tot/\Rep K Hs d v/\g d ρ Q/\∀ σ' ρ' tot',SRel K Hs ρ' σ' H tot'->(∀ a∈tot',a∈tot)->Q ρ'->Qv σ' H
abbrev QG (X:Cx) (K:PySem.W.Frag) (e:Expr) (g:WG):Prop:=PG X e (tpG K g)
def gN (i:Nat):WG:=fun d ρ Q=>Q (ρ.set i (some (.sh d)))
abbrev WGs:=List D->Env->(Env->Prop)->Prop
def tpGs (K:PySem.W.Frag) (g:WGs):TGs:=fun vs σ H Qv=>∃ Hs ρ tot ds Q,SRel K Hs ρ σ H tot/\Reps K Hs ds vs/\g ds ρ Q/\∀ σ' ρ' tot',SRel K Hs ρ' σ' H tot'->(∀ a∈tot',a∈tot)->Q ρ'->Qv σ' H
abbrev QGs (X:Cx) (K:PySem.W.Frag) (es:List Expr) (g:WGs):Prop:=PGs X es (tpGs K g)
def qj:WGs:=fun ds ρ Q=>ds=[]/\Q ρ
def dU (g:WG) (gs:WGs):WGs:=fun ds ρ Q=>match ds with
 | d :: ds=>g d ρ fun ρ'=>gs ds ρ' Q
 | []=>False
def gT (n:Nat) (gs:WGs):WG:=fun d ρ Q=>match d with
 | .tup ds=>ds.length=n/\gs ds ρ Q
 | _=>False
section
variable {X:Cx} {K:PySem.W.Frag} {e:Expr} {es:List Expr} {g:WG} {gs:WGs} {pos:Pos}
theorem PG.imp {t t':TG} (h:PG X e t) (i:∀ v σ H Q,t' v σ H Q->t v σ H Q):PG X e t':=fun pins s σ H v u Q I r q=>h pins s σ H v u Q I r (i v σ H Q q)
theorem PGs.imp {t t':TGs} (h:PGs X es t) (i:∀ v σ H Q,t' v σ H Q->t v σ H Q):PGs X es t':=fun pins s σ H v u Q I r q=>h pins s σ H v u Q I r (i v σ H Q q)
theorem SRel.Du {ρ:Env} {σ:St} {tot:List Addr} {Hs H:Hp} {d:D} {v:V} (i:Nat) (s:SRel K Hs ρ σ H tot) (r:Rep K Hs d v):∃ tot',(∀ a∈tot',a∈tot)/\SRel K Hs (ρ.set i (some (.sh d))) (σ.set i (some v)) H tot':=by
 obtain ⟨t,a,b⟩:=s.sr.uc r i
 exact ⟨t,fun x hx=>a.subset hx,b,s.wf,a.nodup s.nod,fun x hx=>s.own x (a.subset hx)⟩
theorem aD {i:Nat} {x:Str} (hN:X.N.Nodup) (hi:X.N[i]? = some x) (hx:Loc X.env.scope x) (hf:X.fn x=true\/X.env.scope.names.lookup x=some .local:=by first | exact .inl rfl | exact .inr rfl | assumption):QG X K (.Name x pos) (gN i) :=
 PG.imp (pg_name hN hi hx hf) fun v σ H Qv hx9=>by
  obtain ⟨Hs,ρ,tot,d,Q,sr,r,h,k⟩:=hx9
  obtain ⟨t,m,s⟩:=sr.Du i r
  exact k _ _ t s m h
theorem n6:QGs X K [] qj:=PGs.imp pgs_nil fun v σ H Qv hx9=>by
 obtain ⟨Hs,ρ,tot,ds,Q,sr,r,h,k⟩:=hx9
 obtain ⟨rfl,h⟩:=h
 cases r
 exact ⟨rfl,k σ ρ tot sr (fun _ z=>z) h⟩
theorem cg (h1:QG X K e g) (h2:QGs X K es gs) (hs:(assignEach (e :: es) X.env).map (·.2)=assign e X.env :: (assignEach es X.env).map (·.2):=by rfl):QGs X K (e :: es) (dU g gs) :=
 PGs.imp (pgs_cons h1 h2 hs) fun v σ H Qv hx9=>by
  obtain ⟨Hs,ρ,tot,ds,Q,sr,r,h,k⟩:=hx9
  cases r with
  | nil=>exact h.elim
  | cons r rs=>exact ⟨_,_,rfl,Hs,ρ,tot,_,_,sr,r,h,fun σ2 ρ2 tot2 sr2 m2 q2=>⟨Hs,ρ2,tot2,_,Q,sr2,rs,q2,fun σ3 ρ3 tot3 sr3 m3=>k σ3 ρ3 tot3 sr3 fun a h=>m2 a (m3 a h)⟩⟩
theorem rQ {k n:Nat} (hc:X.calm=true) (h:QGs X K es gs) (hn:(assignEach es X.env).length=n:=by rfl) (hst:(assignEach es X.env).findIdx? (·.1)=none:=by rfl):QG X K (.Tuple es k pos) (gT n gs) :=
 PG.imp (pg_tup hc h hn hst) fun v σ H Qv hx9=>by
  obtain ⟨Hs,ρ,tot,d,Q,sr,r,h,k⟩:=hx9
  cases r with
  | tup z e rs=>exact ⟨_,_,rfl,.inl (.inl (sr.wf.sub _ _ e)),by rw [<- rs.length]; exact h.1,Hs,ρ,tot,_,Q,sr,rs,h.2,k⟩
  | _=>exact h.elim
end
abbrev WI:=Env->(List D->Prop)->Prop
structure jd (K:PySem.W.Frag) (J:It) (ds:List D) (C:Hp->Hp->Prop):Prop where
 go:∀ i Hs H,C Hs H->Wf Hs H->i<ds.length->J.go i H
 yld:∀ i Hs H x H' d,C Hs H->Wf Hs H->ds[i]? = some d->J.yld i H x H'->∃ Hs',Grow Hs H Hs' H'/\Rep K Hs' d x
 stop:∀ Hs H,C Hs H->Wf Hs H->J.stop ds.length H
abbrev uA (K:PySem.W.Frag) (Hs:Hp) (J:It) (ds:List D):Prop:=jd K J ds fun G _=>Same Hs G
def zipD (xs ys:List D):List D:=List.zipWith (fun x y=>.tup [x,y]) xs ys
section
variable {K:PySem.W.Frag} {Hs:Hp} {J:It} {ds es:List D} {C C':Hp->Hp->Prop} {a b:Addr}
theorem jd.imp (S:jd K J ds C) (h:∀ Hs H,C' Hs H->C Hs H):jd K J ds C':=⟨fun i Hs H c=>S.go i Hs H (h _ _ c),fun i Hs H x H' d c=>S.yld i Hs H x H' d (h _ _ c),fun Hs H c=>S.stop Hs H (h _ _ c)⟩
theorem jd.seq {vs:List V} (rs:Reps K Hs ds vs) (S:mq J vs fun H=>Same Hs H):uA K Hs J ds where
 go:=fun i G H s w h=>S.go i H (s.trans w.sub) (by rw [<- rs.length]; exact h)
 yld:=fun i G H x H' d s w h y=>by
  have hi:i<ds.length:=by
   rcases xbX i ds.length with q | q
   ·exact q
   ·rw [xaF q] at h; cases h
  obtain ⟨e,z⟩:=S.yld i H x H' (s.trans w.sub) (by rw [<- rs.length]; exact hi) y
  subst e
  obtain ⟨d',ed,rd⟩:=rs.getV z
  rw [h] at ed; cases ed
  exact ⟨G,Grow.refl w,rd.same s⟩
 stop:=fun G H s w=>by rw [rs.length]; exact S.stop H (s.trans w.sub)
abbrev pK (K:PySem.W.Frag) (a:Addr) (ds:List D) (C:Hp->Hp->Prop):Prop:=∀ Hs H,C Hs H->Wf Hs H->∃ vs,SqL K H a vs/\Reps K Hs ds vs
theorem jd.list (h:pK K a ds C):jd K (Itl K a) ds C where
 go:=fun i G H c w hi=>by
  obtain ⟨vs,q,rs⟩:=h G H c w
  exact ⟨vs,vs[i]'(by rw [<- rs.length]; exact hi),q,by simp⟩
 yld:=fun i G H x H' d c w hd y=>by
  obtain ⟨vs,q,rs⟩:=h G H c w
  obtain ⟨rfl,y⟩:=y
  obtain ⟨d',ed,rd⟩:=rs.getV (y vs q)
  rw [hd] at ed; cases ed
  exact ⟨G,Grow.refl w,rd⟩
 stop:=fun G H c w=>by
  obtain ⟨vs,q,rs⟩:=h G H c w
  exact ⟨vs,q,by rw [rs.length]; exact xah _⟩
theorem jd.zip (h:pK K a ds C) (h2:pK K b es C):jd K (Itz K a b) (zipD ds es) C where
 go:=fun i G H c w hi=>by
  obtain ⟨vs,q,rs⟩:=h G H c w
  obtain ⟨us,q2,rs2⟩:=h2 G H c w
  rw [zipD,List.length_zipWith] at hi
  have:=rs.length
  have:=rs2.length
  exact ⟨vs,us,vs[i]'(by lia),us[i]'(by lia),q,q2,by simp,by simp⟩
 yld:=fun i G H x H' d c w hd y=>by
  obtain ⟨vs,q,rs⟩:=h G H c w
  obtain ⟨us,q2,rs2⟩:=h2 G H c w
  obtain ⟨p,u,v,rfl,hp,rfl,y,y2⟩:=y
  obtain ⟨d1,ed,rd⟩:=rs.getV (y vs q)
  obtain ⟨d2,ed2,rd2⟩:=rs2.getV (y2 us q2)
  have:d=.tup [d1,d2]:=by
   simp only [zipD,List.getElem?_zipWith,ed,ed2] at hd
   cases hd; rfl
  subst this
  have g:=newT (vs:=[u,v]) w hp
  exact ⟨_,g,.tup (vs:=[u,v]) Bj upd_same (.cons (rd.same g.sh) (.cons (rd2.same g.sh) .nil))⟩
 stop:=fun G H c w=>by
  obtain ⟨vs,q,rs⟩:=h G H c w
  obtain ⟨us,q2,rs2⟩:=h2 G H c w
  have:=rs.length
  have:=rs2.length
  exact ⟨vs,us,q,q2,by rw [zipD,List.length_zipWith]; lia⟩
theorem lQ {vs:List V} (s:SqL K Hs a vs) (rs:Reps K Hs ds vs):pK K a ds fun G _=>Same Hs G:=fun G H c w=>⟨vs,Same.seq (c.trans w.sub) s,rs.same c⟩
end
def tpI (K:PySem.W.Frag) (wi:WI):TI:=fun σ H R=>∃ Hs ρ tot Q,SRel K Hs ρ σ H tot/\wi ρ Q/\∀ J H' Hs' ds,Grow Hs H Hs' H'->uA K Hs' J ds->ds.length<=sizeLine->Q ds->R J H'
abbrev QI (X:Cx) (K:PySem.W.Frag) (tg iter:Expr) (wi:WI):Prop:=PI X tg iter (tpI K wi)
def qW:Md->Prop
 | .bo=>False
 | _=>True
def eX (te:WE):WI:=fun ρ Q=>te ρ fun m d=>qW m/\match d with
 | .list xs=>Q xs
 | _=>False
def ik (lo:Int) (n:Nat):List D:=(List.range n).map fun i=>.int (lo+(i:Nat))
def cQ (te:WE):WI:=fun ρ Q=>te ρ fun _ d=>match d with
 | .int j=>j<=16777216/\-(2 ^ 62)<=j/\Q (ik 0 j.toNat)
 | _=>False
section
variable {X:Cx} {K:PySem.W.Frag} {e e2 tg:Expr} {te te2:WE} {pos p:Pos}
theorem PI.imp {iter:Expr} {t t':TI} (h:PI X tg iter t) (i:∀ σ H R,t' σ H R->t σ H R):PI X tg iter t':=fun pins s σ H R I q=>h pins s σ H R I (i σ H R q)
theorem mq.imp {J:It} {vs:List V} {c c':Hp->Prop} (s:mq J vs c) (h:∀ H,c' H->c H):mq J vs c':=⟨fun i H q=>s.go i H (h H q),fun i H x H' q=>s.yld i H x H' (h H q),fun H q=>s.stop H (h H q)⟩
theorem RM.zK {Hs H Hs1 H1:Hp} {m:Md} {d:D} {v:V} {As:List Addr} (g:Grow Hs H Hs1 H1) (r:RM K Hs1 H1 m d v As) (f:bK Hs1 H As) (h:qW m):∃ Hs2,Grow Hs H Hs2 H1/\Rep K Hs2 d v:=by
 cases m with
 | sh=>exact ⟨Hs1,g,r.2⟩
 | bo=>exact h.elim
 | ow fl =>
  have n:∀ a∈As,Hs1 a=none:=fun a ha=>(f.2 a ha).1
  have o:=r.own
  refine ⟨frzH Hs1 H1 As,⟨g.all,g.sh.trans (dJ n),ux g.wf o,fun a h=>?_⟩,RepO.rep (dJ n) r.1 fun a ha=>by unfold frzH; rw [if_pos ha]⟩
  unfold frzH at h
  by_cases m:a∈As
  ·exact .inr (f.2 a m).2
  ·rw [if_neg m] at h; exact g.new a h
theorem gk (he:QE X K e te) (hK:X.K=K:=by rfl):QI X K tg e (eX te):=by
 subst hK
 refine PI.imp (pi_list he) fun σ H R hx=>ex4 hx fun Hs ρ tot Q sr h k=>⟨Hs,ρ,tot,_,sr,h,fun v H1 Hs1 m d As g1 r1 f1 q1=>?_⟩
 obtain ⟨nb,q1⟩:=q1
 obtain ⟨Hs2,g2,r2⟩:=r1.zK g1 f1 nb
 cases r2 with
 | list z s rs=>exact ⟨_,rfl,⟨_,Same.seq g2.wf.sub s⟩,k _ H1 Hs2 _ g2 (.seq rs (mq.imp (wK X.K _ _) fun H' s'=>Same.seq s' s)) (by rw [rs.length]; exact z) q1⟩
 | _=>exact q1.elim
theorem nF {H:Hp} (lo:Int):∀ (l:List Nat),Reps K H (l.map fun i=>.int (lo+(i:Nat))) (l.map fun i=>V.int (lo+(i:Nat)))
 | []=>.nil
 | c :: l=>.cons (.int _) (nF lo l)
theorem cJ (hm:X.mg "range" = none) (he:QE X K e te) (hg:Gl X "range" := by rfl) (hs:starEach [e] X.env=(false,eval e X.env) :: starEach [] X.env:=by rfl) (hs':starEach [e] X.env=[(false,eval e X.env)]:=by rfl):QI X K tg (.Call (.Name "range" p) [e] [] pos) (cQ te):=by
 refine PI.imp (pi_range1 hg hm (pa_cons he pa_nil hs) hs') fun σ H R hx=>ex4 hx fun Hs ρ tot Q sr h k=>⟨Hs,ρ,tot,_,sr,h,fun v H1 Hs1 m d As g1 r1 f1 q1=>?_⟩
 have r:=r1.rep g1.wf
 cases r with
 | int j =>
  obtain ⟨h1,h2,q1⟩:=q1
  exact ⟨j,rfl,h2,by lia,k _ H1 Hs1 _ g1 (.seq (nF 0 _) (mq.imp (z9 _ _) fun _ _=>trivial)) (by rw [xaf,xck,sizeLine_eq]; lia) q1⟩
 | _=>exact q1.elim
section
variable {X:Cx} {K:PySem.W.Frag} {e tg:Expr} {te:WE}
def tpIb (K:PySem.W.Frag) (wi:WI):TI:=fun σ H R=>∃ Hs ρ tot Q,SRel K Hs ρ σ H tot/\wi ρ Q/\∀ J H' Hs' ds,Grow Hs H Hs' H'->uA K H' J ds->ds.length<=sizeLine->Q ds->R J H'
abbrev QIb (X:Cx) (K:PySem.W.Frag) (tg iter:Expr) (wi:WI):Prop:=PI X tg iter (tpIb K wi)
theorem gn {iter:Expr} {wi:WI} (h:QI X K tg iter wi):QIb X K tg iter wi:=PI.imp h fun σ H R hx=>ex4 hx fun Hs ρ tot Q sr h k=>⟨Hs,ρ,tot,Q,sr,h,fun J H' Hs' ds g w z q=>k J H' Hs' ds g (w.imp fun G H s=>g.wf.sub.trans s) z q⟩
def gA (te:WE):WI:=fun ρ Q=>te ρ fun _ d=>match d with
 | .list xs=>Q xs
 | _=>False
theorem ig (he:QE X K e te) (hK:X.K=K:=by rfl):QIb X K tg e (gA te):=by
 subst hK
 refine PI.imp (pi_list he) fun σ H R hx=>ex4 hx fun Hs ρ tot Q sr h k=>⟨Hs,ρ,tot,_,sr,h,fun v H1 Hs1 m d As g1 r1 f1 q1=>?_⟩
 have r:=r1.rep g1.wf
 cases r with
 | list z s rs=>exact ⟨_,rfl,⟨_,s⟩,k _ H1 Hs1 _ g1 (.list (lQ s rs)) (by rw [rs.length]; exact z) q1⟩
 | _=>exact q1.elim
end
def nq (g:WG) (b:WS) (E:jf):List D->Env->Prop
 | [],ρ=>E.nx ρ
 | x :: xs,ρ=>g x ρ fun ρ1=>b { E with nx:=nq g b E xs,ct:=nq g b E xs,bk:=E.nx } ρ1
def wFor (wi:WI) (g:WG) (b:WS):WS:=fun E ρ=>wi ρ fun ds=>nq g b E ds ρ
variable {wi:WI} {g:WG} {b:WS} {body:List Stmt}
theorem jb {iter:Expr} (hp:PassesOwn (model X.prog X.w) X.A X.env X.xe) (hc:X.calm=true) (hi:QI X K tg iter wi) (hg:QG X K tg g) (hb:QSs X K L body b) (hs:∀ x,foldedSetIterable iter X.env x=pure x:=by intro _; rfl) :
  QS X K L (.For tg iter body [] pos) (wFor wi g b):=by
 refine PS.imp (ps_for hp hc hi hg hb hs) fun D σ H hx=>iY hx fun Hs ρ tot E sr h k1 k2 k3 k4 kx=>?_
 rw [ue]
 refine ⟨Hs,ρ,tot,_,sr,h,fun J H1 Hs1 ds g1 S hz q1=>?_⟩
 refine ⟨fun i m σ H=>m=ds.length - i/\i<=ds.length/\∃ Hs' ρ' tot',Same Hs1 Hs'/\SRel K Hs' ρ' σ H tot'/\nq g b E (ds.drop i) ρ',⟨ds.length,by simp,xaz _,Hs1,ρ,tot,Same.refl _,sr.grow g1,by simpa using q1⟩,?_⟩
 rintro i m σ2 H2 ⟨rfl,hi,Hs2,ρ2,tot2,s2,sr2,q2⟩
 by_cases hlt:i<ds.length
 ·refine .inr ⟨S.go i Hs2 H2 s2 sr2.wf hlt,fun σ3 H3=>∃ Hs' ρ' tot',Same Hs1 Hs'/\SRel K Hs' ρ' σ3 H3 tot'/\nq g b E (ds.drop (i+1)) ρ',fun σ3 H3 h3=>⟨ds.length - (i+1),by lia,rfl,hlt,h3⟩,fun x H3 y=>?_⟩
  obtain ⟨Hs3,g3,rd⟩:=S.yld i Hs2 H2 x H3 ds[i] s2 sr2.wf (by simp [hlt]) y
  rw [xaN hlt] at q2
  have s3:=s2.trans g3.sh
  refine ⟨Hs3,ρ2,tot2,ds[i],_,sr2.grow g3,rd,q2,fun σ4 ρ4 tot4 sr4 _ q4=>?_⟩
  refine ⟨Hs3,ρ4,tot4,_,sr4,q4,?_,?_,?_,?_,fun n H5 s5=>kx n H5 ((g1.sh.trans s3).trans s5)⟩
  ·exact fun σ5 H5 Hs5 ρ5 tot5 s5 sr5 q5=>⟨Hs5,ρ5,tot5,s3.trans s5,sr5,q5⟩
  ·exact fun σ5 H5 Hs5 ρ5 tot5 s5 sr5 q5=>k1 σ5 H5 Hs5 ρ5 tot5 ((g1.sh.trans s3).trans s5) sr5 q5
  ·exact fun σ5 H5 Hs5 ρ5 tot5 s5 sr5 q5=>⟨Hs5,ρ5,tot5,s3.trans s5,sr5,q5⟩
  ·exact fun v H5 Hs5 m d As s5=>k4 v H5 Hs5 m d As ((g1.sh.trans s3).trans s5)
 ·have e:i=ds.length:=by lia
  subst e
  refine .inl ⟨S.stop Hs2 H2 s2 sr2.wf,?_⟩
  rw [xb6] at q2
  exact k1 σ2 H2 Hs2 ρ2 tot2 (g1.sh.trans s2) sr2 q2
theorem eQ {g:WG} {b:WS} {E:jf} (xs:List D) (Pv:Nat->Env->Prop) {ρ:Env} (h0:Pv 0 ρ)
  (hs:∀ i x ρ,xs[i]? = some x->Pv i ρ->∀ N:Env->Prop,(∀ ρ',Pv (i+1) ρ'->N ρ')->g x ρ fun ρ1=>b { E with nx:=N,ct:=N,bk:=E.nx } ρ1)
  (hd:∀ ρ,Pv xs.length ρ->E.nx ρ):nq g b E xs ρ:=by
 have go:∀ (k i:Nat) (ρ:Env),i+k=xs.length->Pv i ρ->nq g b E (xs.drop i) ρ:=by
  intro k
  induction k with
  | zero =>
   intro i ρ e p
   have:i=xs.length:=by lia
   subst this
   rw [xb6]
   exact hd ρ p
  | succ k ih =>
   intro i ρ e p
   have hi:i<xs.length:=by lia
   rw [xaN hi]
   exact hs i xs[i] ρ (by simp [hi]) p _ fun ρ2 h2=>ih (i+1) ρ2 (by lia) h2
 have:=go xs.length 0 ρ (by exact Nat.add_comm ..) h0
 simpa using this
def x_ (c:WT) (b:WS):WS:=fun E ρ=>∃ (Pv:Env->Prop) (μ:Env->Nat),Pv ρ/\∀ ρ,Pv ρ->c ρ fun k=>if k=true then b { E with nx:=fun ρ'=>Pv ρ'/\μ ρ'<μ ρ,ct:=fun ρ'=>Pv ρ'/\μ ρ'<μ ρ,bk:=E.nx } ρ else E.nx ρ
theorem vP {c:Expr} {tc:WT} (hp:PassesOwn (model X.prog X.w) X.A X.env X.xe) (hc:QT X K c tc) (hb:QSs X K L body b):QS X K L (.While c body [] pos) (x_ tc b):=by
 refine PS.imp (ps_while hp hc hb) fun D σ H hx=>iY hx fun Hs ρ tot E sr h k1 k2 k3 k4 kx=>?_
 obtain ⟨Pv,μ,p0,turn⟩:=h
 refine ⟨fun m σ H=>∃ Hs' ρ' tot',Same Hs Hs'/\SRel K Hs' ρ' σ H tot'/\Pv ρ'/\μ ρ'=m,⟨_,Hs,ρ,tot,Same.refl _,sr,p0,rfl⟩,?_⟩
 rintro m σ2 H2 ⟨Hs2,ρ2,tot2,s2,sr2,p2,rfl⟩
 refine ⟨Hs2,ρ2,tot2,_,sr2,turn ρ2 p2,fun k H3 Hs3 g3 q3=>?_⟩
 cases k with
 | false=>exact k1 σ2 H3 Hs3 ρ2 tot2 (s2.trans g3.sh) (sr2.grow g3) q3
 | true =>
  refine ⟨fun σ' H'=>∃ Hs' ρ' tot',Same Hs Hs'/\SRel K Hs' ρ' σ' H' tot'/\Pv ρ'/\μ ρ'<μ ρ2,fun σ' H' ⟨Hs',ρ',tot',a,b,c,d⟩=>⟨μ ρ',d,Hs',ρ',tot',a,b,c,rfl⟩,?_⟩
  have s3:Same Hs Hs3:=s2.trans g3.sh
  refine ⟨Hs3,ρ2,tot2,_,sr2.grow g3,q3,?_,?_,?_,?_,fun n H5 s5=>kx n H5 (s3.trans s5)⟩
  ·exact fun σ5 H5 Hs5 ρ5 tot5 s5 sr5 q5=>⟨Hs5,ρ5,tot5,s3.trans s5,sr5,q5.1,q5.2⟩
  ·exact fun σ5 H5 Hs5 ρ5 tot5 s5 sr5 q5=>k1 σ5 H5 Hs5 ρ5 tot5 (s3.trans s5) sr5 q5
  ·exact fun σ5 H5 Hs5 ρ5 tot5 s5 sr5 q5=>⟨Hs5,ρ5,tot5,s3.trans s5,sr5,q5.1,q5.2⟩
  ·exact fun v H5 Hs5 m d As s5=>k4 v H5 Hs5 m d As (s3.trans s5)
end
def wYes:WT:=fun _ Q=>Q true
def okEl (m:Md) (d:D):Prop:=d.flat=true\/m=.ow true
def e_ (g:WG) (tc:WT) (te:WE):List D->Env->(List D->Prop)->Prop
 | [],_,k=>k []
 | x :: xs,ρ,k=>g x ρ fun ρ1=>tc ρ1 fun b=>if b=true then te ρ1 fun m d=>okEl m d/\e_ g tc te xs ρ1 (fun out=>k (d :: out)) else e_ g tc te xs ρ1 k
def qM (tn:Nat) (ix:List Nat) (ρ:Env):Env:=List.replicate tn none++ix.map fun j=>(ρ[j]?).join.map shC
def dC (wi:WI) (g:WG) (tc:WT) (te:WE) (tn:Nat) (ix:List Nat):WE:=fun ρ Q=>wi ρ fun ds=>e_ g tc te ds (qM tn ix ρ) fun out=>Q (.ow true) (.list out)
section
variable {X:Cx} {K:PySem.W.Frag}
theorem gf {Hs H G:Hp} {ρ:Env} {σ:St} {tot:List Addr} (sr:SRel K Hs ρ σ H tot) (G':Hp):∀ (ix:List Nat),SR K H G' (ix.map fun j=>(ρ[j]?).join.map shC) (ix.map fun j=>(σ[j]?).join) []
 | []=>.nil
 | j :: ix=>by
  have ih:=gf sr G' ix (G:=G)
  simp only [xap]
  cases e:ρ[j]? with
  | none=>exact .non ih
  | some o =>
   cases o with
   | none=>exact .non ih
   | some sl =>
    obtain ⟨v,e1,r⟩:=sr.sr.get e
    rw [e1]
    cases sl with
    | sh d=>exact .sh (Rep.same sr.wf.sub r) ih
    | xc a=>subst r; exact .xc ih
    | ow fl d =>
     obtain ⟨As,_,r,_⟩:=r
     exact .sh (r.rep sr.wf.sub fun _ _=>rfl) ih
    | lk a fl d =>
     obtain ⟨As,_,r,_⟩:=r
     exact .sh (r.rep sr.wf.sub fun _ _=>rfl) ih
theorem iD {H G:Hp} {ρ:Env} {σ:St} (s:SR K H G ρ σ []):∀ (n:Nat),SR K H G (List.replicate n none++ρ) (List.replicate n none++σ) []
 | 0=>s
 | n+1=>.non (iD s n)
theorem SR.heap {Hs H H':Hp} {ρ:Env} {σ:St} (s:SR K Hs H ρ σ []):SR K Hs H' ρ σ []:=s.stay (Same.refl _) fun a h=>nomatch h
theorem p_ {Hs H:Hp} {p:Addr} {o:HO} (w:Wf Hs H) (n:Hs p=none) (ho:∀ vs,o≠.tup vs):Wf Hs (upd H p o):=⟨fun b u q=>by
  rw [upd_ne (fun z=>by subst z; rw [n] at q; cases q)]; exact w.sub b u q,fun b us q=>by
  by_cases hb:b=p
  ·subst hb; rw [upd_same] at q; exact absurd (Option.some.inj q) (ho us)
  ·rw [upd_ne hb] at q; exact w.tups b us q⟩
structure CompI (K:PySem.W.Frag) (H1:Hp) (b:Addr) (acc:List D) (ys:List V) (As:List Addr) (Hs:Hp) (ρ:Env) (τ:St) (H:Hp):Prop where
 sm:Same H1 Hs
 sr:SRel K Hs ρ τ H []
 eD:H b=some (.lst ys)
 nD:Hs b=none
 ra:ak K Hs H true acc ys As
 nd:(b :: As).Nodup
 own:∀ a∈As,Hs a=none
theorem CompI.grow {H1:Hp} {b:Addr} {acc:List D} {ys:List V} {As:List Addr} {Hs H Hs' H':Hp} {ρ:Env} {τ:St} (c:CompI K H1 b acc ys As Hs ρ τ H) (g:Grow Hs H Hs' H'):CompI K H1 b acc ys As Hs' ρ τ H' :=
 ⟨c.sm.trans g.sh,c.sr.grow g,g.all _ _ c.eD,g.hsn c.nD (by rw [c.eD]; exact fun z=>nomatch z),c.ra.grow g.sh g.all,c.nd,fun a ha=>g.hsn (c.own a ha) (c.ra.own a ha).ne⟩
theorem CompI.push {H1:Hp} {b:Addr} {acc:List D} {ys:List V} {As Bs:List Addr} {Hs H:Hp} {ρ:Env} {τ:St} {m:Md} {d:D} {v:V} (c:CompI K H1 b acc ys As Hs ρ τ H) (r:RM K Hs H m d v Bs) (ok:okEl m d) (nb:Bs.Nodup) (fb:∀ a∈Bs,Hs a=none/\a∉b :: As):∃ As',CompI K H1 b (acc++[d]) (ys++[v]) As' Hs ρ τ (upd H b (.lst (ys++[v]))):=by
 obtain ⟨B,sb,rb⟩:∃ B,B.Sublist Bs/\RepO K Hs H true d v B:=by
  rcases ok with hf | rfl
  ·exact ⟨[],xbd _,.sh (fun _=>hf) (r.flat c.sr.wf hf)⟩
  ·exact ⟨Bs,List.Sublist.refl _,r.1⟩
 obtain ⟨na,nA⟩:=xaD.mp c.nd
 have fb':=fun a ha=>fb a (sb.subset ha)
 refine ⟨As++(B++[]),c.sm,⟨c.sr.sr.heap,p_ c.sr.wf c.nD (fun _ z=>nomatch z),xaQ,fun a h=>nomatch h⟩,upd_same,c.nD,(c.ra.stay (H':=upd H b (.lst (ys++[v]))) (Same.refl _) fun a ha=>upd_ne fun z=>na (by subst z; exact ha)).append (.cons (rb.stay (Same.refl _) fun a ha=>upd_ne fun z=>(fb' a ha).2 (by subst z; exact xac)) .nil),?_,?_⟩
 ·rw [xaO]
  refine xaD.mpr ⟨fun m=>(xal.mp m).elim na fun m=>(fb' b m).2 xac,xar.mpr ⟨nA,sb.nodup nb,fun x hx y hy e=>(fb' y hy).2 (e ▸ xab _ hx)⟩⟩
 ·rw [xaO]
  exact fun a ha=>(xal.mp ha).elim (c.own a) fun m=>(fb' a m).1
theorem iJ {wi:WI} {g:WG} {tc:WT} {te:WE} {tn:Nat} {ix:List Nat} {σ:St} {H:Hp} {Qv:VK} (h:tpE K (dC wi g tc te tn ix) σ H Qv):lU (tpIb K wi) (tpG K g) (tpT K tc) (tpE K te) tn ix σ H Qv:=by
 obtain ⟨Hs,ρ,tot,Q,sr,h,f⟩:=h
 rw [oW]
 refine ⟨Hs,ρ,tot,_,sr,h,fun J H1 Hs1 ds g1 S hz q1 b hb=>?_⟩
 have st:CompI K H1 b [] [] [] H1 (qM tn ix ρ) (jk tn ix σ) (upd H1 b (.lst [])):=by
  refine ⟨Same.refl _,⟨iD (gf (G:=H1) (sr.grow g1) _ ix) tn,⟨(Same.refl H1).upd hb,fun a xs e=>?_⟩,xaQ,fun a h=>nomatch h⟩,upd_same,hb,.nil,by simp,fun a h=>nomatch h⟩
  by_cases ha:a=b
  ·subst ha; rw [upd_same] at e; cases e
  ·rw [upd_ne ha] at e; exact e
 refine ⟨fun i m τ H2=>m=ds.length - i/\i<=ds.length/\∃ Hs2 ρ2 acc ys As,CompI K H1 b acc ys As Hs2 ρ2 τ H2/\acc.length<=i/\e_ g tc te (ds.drop i) ρ2 (fun out=>Q (.ow true) (.list (acc++out))),
  ⟨ds.length,by simp,xaz _,H1,_,[],[],[],st,xah _,by simpa using q1⟩,?_⟩
 rintro i m τ H2 ⟨rfl,hi,Hs2,ρ2,acc,ys,As,c,la,q2⟩
 by_cases hlt:i<ds.length
 ·refine .inr ⟨S.go i Hs2 H2 c.sm c.sr.wf hlt,
   fun τ3 v H4=>∃ Hs4 ρ4 d,CompI K H1 b acc ys As Hs4 ρ4 τ3 H4/\(∃ As',CompI K H1 b (acc++[d]) (ys++[v]) As' Hs4 ρ4 τ3 (upd H4 b (.lst (ys++[v]))))/\e_ g tc te (ds.drop (i+1)) ρ4 (fun out=>Q (.ow true) (.list (acc++d :: out))),
   fun τ3 H3=>∃ Hs3 ρ3,CompI K H1 b acc ys As Hs3 ρ3 τ3 H3/\e_ g tc te (ds.drop (i+1)) ρ3 (fun out=>Q (.ow true) (.list (acc++out))),?_,?_,?_⟩
  ·rintro τ3 v H4 ⟨Hs4,ρ4,d,c4,⟨As',c5⟩,q4⟩
   have lya:=c4.ra.length
   exact ⟨ys,ds.length - (i+1),c4.eD,by lia,by lia,rfl,hlt,Hs4,ρ4,acc++[d],ys++[v],As',c5,by rw [xaL]; simpa using la,by simpa using q4⟩
  ·rintro τ3 H3 ⟨Hs3,ρ3,c3,q3⟩
   exact ⟨ds.length - (i+1),by lia,rfl,hlt,Hs3,ρ3,acc,ys,As,c3,by lia,q3⟩
  ·intro x H3 y
   obtain ⟨Hs3,g3,rd⟩:=S.yld i Hs2 H2 x H3 ds[i] c.sm c.sr.wf (by simp [hlt]) y
   rw [xaN hlt] at q2
   have c3:=c.grow g3
   refine ⟨Hs3,ρ2,[],ds[i],_,c3.sr,rd,q2,fun τ4 ρ4 tot4 sr4 m4 q4=>?_⟩
   have t4:tot4=[]:=xb8.mpr fun a ha=>nomatch m4 a ha
   subst t4
   have c4:CompI K H1 b acc ys As Hs3 ρ4 τ4 H3:=⟨c3.sm,sr4,c3.eD,c3.nD,c3.ra,c3.nd,c3.own⟩
   refine ⟨Hs3,ρ4,[],_,sr4,q4,fun k H5 Hs5 g5 q5=>?_⟩
   have c5:=c4.grow g5
   cases k with
   | false=>exact ⟨Hs5,ρ4,c5,q5⟩
   | true =>
    refine ⟨Hs5,ρ4,[],_,c5.sr,q5,fun v H6 Hs6 m6 d6 As6 g6 r6 f6 q6=>?_⟩
    have c6:=c5.grow g6
    refine ⟨Hs6,ρ4,d6,c6,c6.push r6 q6.1 f6.1 fun a ha=>⟨(f6.2 a ha).1,fun m=>?_⟩,q6.2⟩
    rcases xag.mp m with rfl | m
    ·have:=(f6.2 _ ha).2
     rw [c5.eD] at this; cases this
    ·exact (c5.ra.own a m).ne (f6.2 a ha).2
 ·have e:i=ds.length:=by lia
  subst e
  refine .inl ⟨S.stop Hs2 H2 c.sm c.sr.wf,?_⟩
  rw [xb6] at q2
  have q2:Q (.ow true) (.list (acc++[])):=q2
  rw [xaO] at q2
  have lya:=c.ra.length
  have rm:RM K Hs2 H2 (.ow true) (.list acc) (.ref b) (b :: As):=⟨.list (by lia) c.eD c.ra,by simp⟩
  obtain ⟨As',r',fr⟩:=lA g1.wf c.sm c.sr.wf rm c.nd fun a ha=>(xag.mp ha).elim (fun z=>z ▸ c.nD) (c.own a)
  exact Fin.after f g1 (.ref b) H2 _ (.ow true) (.list acc) As' (dq g1.wf c.sm c.sr.wf) r' fr q2
theorem PTs.imp {ifs:List Expr} {t t':TT} (h:PTs X ifs t) (i:∀ σ H Q,t' σ H Q->t σ H Q):PTs X ifs t':=fun pins s σ H Q I q=>h pins s σ H Q I (i σ H Q q)
abbrev QTs (X:Cx) (K:PySem.W.Frag) (ifs:List Expr) (t:WT):Prop:=PTs X ifs (tpT K t)
theorem bJ:QTs X K [] wYes:=PTs.imp yM fun σ H Qv hx=>ex4 hx fun Hs ρ tot Q sr h k=>k true H Hs (Grow.refl sr.wf) h
theorem yD {c:Expr} {t:WT} (h:QT X K c t):QTs X K [c] t:=zQ h
theorem jA {tg iter elt:Expr} {ifs:List Expr} {scope:Scope} {pos:Pos} {wi:WI} {g:WG} {tc:WT} {te:WE} {tn cn:List Str} {ix:List Nat} (hc:X.calm=true) (hi:QIb X K tg iter wi) (O:aO X scope tn cn ix)
  (hg:∀ C fp s₃ H₃,QG (a_ X scope C (tn++cn) fp s₃ H₃) K tg g) (hcs:∀ C fp s₃ H₃,QTs (a_ X scope C (tn++cn) fp s₃ H₃) K ifs tc) (he:∀ C fp s₃ H₃,QE (a_ X scope C (tn++cn) fp s₃ H₃) K elt te)
  (hs:∀ x,foldedSetIterable iter X.env x=pure x:=by intro _; rfl):QE X K (.ListComp elt [⟨tg,iter,ifs,0⟩] scope pos) (dC wi g tc te tn.length ix) :=
 PE.imp (uM hc hi O hg hcs he hs) fun σ H Qv h=>iJ h
end
theorem cP {g:WG} {tc:WT} {te:WE} (p:D->Bool) (f:D->D) (Iv:Env->Prop):∀ (xs:List D) (ρ:Env) (k:List D->Prop),Iv ρ ->
  (∀ x∈xs,∀ ρ,Iv ρ->∀ N1:Env->Prop,∀ N2:Env->D->Prop,(∀ ρ',Iv ρ'->p x=false->N1 ρ')->(∀ ρ',Iv ρ'->p x=true->N2 ρ' (f x))->g x ρ fun ρ1=>tc ρ1 fun b=>if b=true then te ρ1 fun m d=>okEl m d/\N2 ρ1 d else N1 ρ1) ->
  k ((xs.filter p).map f)->e_ g tc te xs ρ k
 | [],_,k,_,_,h=>h
 | x :: xs,ρ,k,iv,hs,h=>by
  refine hs x xac ρ iv _ _ (fun ρ' iv' hp=>?_) (fun ρ' iv' hp=>?_)
  ·exact cP p f Iv xs ρ' k iv' (fun y hy=>hs y (xab _ hy)) (by simpa [hp] using h)
  ·exact cP p f Iv xs ρ' _ iv' (fun y hy=>hs y (xab _ hy)) (by simpa [hp] using h)
def Upd (K:PySem.W.Frag) (Hs H:Hp) (σ:St) (fl:Bool) (v:V) (up:Bool->D->Env) (As':List Addr):Prop:=∀ Hs2 H2 fl2 d2 As2,Same Hs Hs2->Wf Hs2 H2->(∀ a,Hs a=none->H a≠none->Hs2 a=none)->(fl2=true->fl=true) ->
  RepO K Hs2 H2 fl2 d2 v As2->As2≠[]->As2.Nodup->(∀ a∈As2,Hs2 a=none/\(a∈As'\/H a=none))->(∀ a,H a≠none->a∉As'->H2 a=H a)->∃ tot2,SRel K Hs2 (up fl2 d2) σ H2 tot2
structure Place (K:PySem.W.Frag) (Hs H:Hp) (σ:St) (fl:Bool) (d:D) (v:V) (up:Bool->D->Env):Prop where
 ex:∃ As',RepO K Hs H fl d v As'/\As'≠[]/\As'.Nodup/\(∀ a∈As',Hs a=none)/\Upd K Hs H σ fl v up As'
theorem Upd.node {K:PySem.W.Frag} {Hs H Hs2 H2:Hp} {σ:St} {fl fl2:Bool} {up:Bool->D->Env} {a:Addr} {A C:List Addr} {o:HO} {d2:D} (k:Upd K Hs H σ fl (.ref a) up (a :: A)) (g:Grow Hs H Hs2 H2) (own:∀ x∈a :: A,Hs x=none/\H x≠none) (ho:∀ vs,o≠.tup vs) (hf:fl2=true->fl=true)
  (r:RepO K Hs2 (upd H2 a o) fl2 d2 (.ref a) (a :: C)) (nC:C.Nodup) (naC:a∉C) (hC:∀ x∈C,x∈A\/(Hs2 x=none/\H x=none)):∃ tot2,SRel K Hs2 (up fl2 d2) σ (upd H2 a o) tot2:=by
 have hn:∀ x∈a :: A,Hs2 x=none:=fun x hx=>g.hsn (own x hx).1 (own x hx).2
 refine k Hs2 _ fl2 d2 (a :: C) g.sh (p_ g.wf (hn a xac) ho) (fun b h1 h2=>g.hsn h1 h2) hf r (xb7 _ _) (xaD.mpr ⟨naC,nC⟩) (fun b hb=>?_) fun b h1 h2=>?_
 ·rcases xag.mp hb with rfl | hb
  ·exact ⟨hn _ xac,.inl xac⟩
  ·exact (hC b hb).elim (fun q=>⟨hn b (xab _ q),.inl (xab _ q)⟩) fun q=>⟨q.1,.inr q.2⟩
 ·rw [upd_ne fun z=>h2 (by subst z; exact xac)]
  cases q:H b with
  | none=>exact absurd q h1
  | some o=>exact g.all b o q
abbrev WP:=Env->(Bool->D->(Bool->D->Env)->Prop)->Prop
def tpP (K:PySem.W.Frag) (t:WP):TE:=fun σ H Qv=>∃ Hs ρ tot Q,SRel K Hs ρ σ H tot/\t ρ Q/\∀ v H' Hs' fl d up,Grow Hs H Hs' H'->Place K Hs' H' σ fl d v up->Q fl d up->Qv v H'
abbrev QP (X:Cx) (K:PySem.W.Frag) (e:Expr) (t:WP):Prop:=PE X e (tpP K t)
section
variable {K:PySem.W.Frag} {Hs H Hs' H':Hp} {σ:St} {fl:Bool} {d:D} {v:V} {up:Bool->D->Env}
theorem Place.grow (p:Place K Hs H σ fl d v up) (g:Grow Hs H Hs' H'):Place K Hs' H' σ fl d v up:=by
 obtain ⟨As',r,ne,nd,own,k⟩:=p.ex
 refine ⟨As',r.grow g.sh g.all,ne,nd,fun a h=>g.hsn (own a h) (r.own a h).ne,fun Hs2 H2 fl2 d2 As2 s2 w2 n2 hf r2 ne2 nd2 o2 st=>?_⟩
 refine k Hs2 H2 fl2 d2 As2 (g.sh.trans s2) w2 (fun a h1 h2=>n2 a (g.hsn h1 h2) ?_) hf r2 ne2 nd2 (fun a h=>⟨(o2 a h).1,(o2 a h).2.imp id g.all.free⟩) fun a h1 h2=>?_
 ·cases e:H a with
  | none=>exact absurd e h2
  | some o=>rw [g.all a o e]; exact fun z=>nomatch z
 ·cases e:H a with
  | none=>exact absurd e h1
  | some o =>
   have:=g.all a o e
   rw [<- this]
   exact st a (by rw [this]; exact fun z=>nomatch z) h2
theorem RepO.ne2:(∀ {d:D} {v:V} {As:List Addr},RepO K Hs H true d v As->d.flat=false->As≠[])/\∀ {ds:List D} {vs:List V} {As:List Addr},ak K Hs H true ds vs As->flats ds=false->As≠[] :=
 RepO.ind (m1:=fun d _ As=>d.flat=false->As≠[]) (m2:=fun ds _ As=>flats ds=false->As≠[]) (fun _ _ f _ h=>by rw [f rfl] at h; cases h) (fun _ _ _ _ _ _ _ _ _=>xb7 _ _) (fun _ _ _ _ _ _ n _ ih _=>ih n) (fun _ _ _ _ _ _ _ _ _=>xb7 _ _) (fun _ _ _ _ _ _ _ _ _=>xb7 _ _)
  (fun h=>by simp [flats] at h) fun d _ _ _ _ _ _ _ i1 i2 h=>by
   cases e:d.flat with
   | false=>exact fun z=>i1 e (xbs.mp z).1
   | true =>
    simp only [flats,e,Bool.true_and] at h
    exact fun z=>i2 h (xbs.mp z).2
theorem RepO.ne {d:D} {v:V} {As:List Addr} (r:RepO K Hs H true d v As) (h:d.flat=false):As≠[]:=RepO.ne2.1 r h
theorem ak.ne {ds:List D} {vs:List V} {As:List Addr} (r:ak K Hs H true ds vs As) (h:flats ds=false):As≠[]:=RepO.ne2.2 r h
theorem RepO.nil_of {fl:Bool} {d:D} {v:V} {As:List Addr} (r:RepO K Hs H fl d v As) (h:d.flat=true):As=[]:=by
 cases r with
 | sh _ _=>rfl
 | tup _ _ n _=>simp [D.flat,n] at h
 | _=>simp [D.flat] at h
def wpN (i:Nat):WP:=fun ρ Q=>match ρ[i]? with
 | some (some (.ow fl d))=>Q fl d fun fl2 d2=>ρ.set i (some (.ow fl2 d2))
 | _=>False
theorem SR.put {Hs H:Hp} {fl:Bool} {d:D} {ρ:Env} {σ:St} {tot:List Addr} (i:Nat) (s:SR K Hs H ρ σ tot):ρ[i]? = some (some (.ow fl d))->tot.Nodup ->
  ∃ (v:V) (As tot':List Addr),σ[i]? = some (some v)/\As≠[]/\RepO K Hs H fl d v As/\As.Sublist tot/\∀ Hs2 H2 fl2 d2 As2,Same Hs Hs2->RepO K Hs2 H2 fl2 d2 v As2->As2≠[]->As2.Nodup->(∀ a∈As2,a∈tot->a∈As)->(∀ a∈tot,a∉As->H2 a=H a) ->
   ∃ tot2,tot2.Nodup/\(∀ a∈tot2,a∈tot\/a∈As2)/\SR K Hs2 H2 (ρ.set i (some (.ow fl2 d2))) σ tot2:=by
 induction s generalizing i with
 | nil=>intro e; simp at e
 | @non ρ σ tot o q ih =>
  intro e n
  cases i with
  | zero=>simp at e
  | succ i =>
   obtain ⟨v,As,t,a,b,c,d,g⟩:=ih i (by simpa using e) n
   refine ⟨v,As,t,by simpa using a,b,c,d,fun Hs2 H2 fl2 d2 As2 s2 r2 ne2 nd2 dj st=>?_⟩
   obtain ⟨t2,x,y,z⟩:=g Hs2 H2 fl2 d2 As2 s2 r2 ne2 nd2 dj st
   exact ⟨t2,x,y,.non z⟩
 | sh r q ih =>
  intro e n
  cases i with
  | zero=>simp at e
  | succ i =>
   obtain ⟨v,As,t,a,b,c,d,g⟩:=ih i (by simpa using e) n
   refine ⟨v,As,t,by simpa using a,b,c,d,fun Hs2 H2 fl2 d2 As2 s2 r2 ne2 nd2 dj st=>?_⟩
   obtain ⟨t2,x,y,z⟩:=g Hs2 H2 fl2 d2 As2 s2 r2 ne2 nd2 dj st
   exact ⟨t2,x,y,.sh (r.same s2) z⟩
 | xc q ih =>
  intro e n
  cases i with
  | zero=>simp at e
  | succ i =>
   obtain ⟨v,As,t,a,b,c,d,g⟩:=ih i (by simpa using e) n
   refine ⟨v,As,t,by simpa using a,b,c,d,fun Hs2 H2 fl2 d2 As2 s2 r2 ne2 nd2 dj st=>?_⟩
   obtain ⟨t2,x,y,z⟩:=g Hs2 H2 fl2 d2 As2 s2 r2 ne2 nd2 dj st
   exact ⟨t2,x,y,.xc z⟩
 | @ow ρ σ t2 B fl0 d0 v ne r q ih =>
  intro e n
  obtain ⟨n1,n2,n3⟩:=xar.mp n
  cases i with
  | zero =>
   simp at e
   obtain ⟨rfl,rfl⟩:=e
   refine ⟨v,B,t2,rfl,ne,r,xbc _ _,fun Hs2 H2 fl2 d2 As2 s2 r2 ne2 nd2 dj st=>⟨As2++t2,xar.mpr ⟨nd2,n2,fun a ha b hb e=>?_⟩,fun a h=>?_,.ow ne2 r2 (q.stay s2 fun a h=>st a (xai _ h) fun z=>n3 a z a h rfl)⟩⟩
   ·subst e
    exact n3 a (dj a ha (xai _ hb)) a hb rfl
   ·exact (xal.mp h).symm.imp (fun z=>xai _ z) id
  | succ i =>
   obtain ⟨v,As,t,a,b,c,d,g⟩:=ih i (by simpa using e) n2
   have hB:∀ x∈B,x∉As:=fun x hx m=>n3 x hx x (d.subset m) rfl
   refine ⟨v,As,B++t,by simpa using a,b,c,d.trans (xas _ _),fun Hs2 H2 fl2 d2 As2 s2 r2 ne2 nd2 dj st=>?_⟩
   obtain ⟨t2,x,y,z⟩:=g Hs2 H2 fl2 d2 As2 s2 r2 ne2 nd2 (fun a ha m=>dj a ha (xai _ m)) fun a ha m=>st a (xai _ ha) m
   refine ⟨B++t2,xar.mpr ⟨n1,x,fun a ha b hb e=>?_⟩,fun a h=>?_,.ow ne (r.stay s2 fun a h=>st a (xay _ h) (hB a h)) z⟩
   ·subst e
    rcases y a hb with w | w
    ·exact n3 a ha a w rfl
    ·exact hB a ha (dj a w (xay _ ha))
   ·rcases xal.mp h with w | w
    ·exact .inl (xay _ w)
    ·exact (y a w).imp (fun w=>xai _ w) id
 | @lk ρ σ t2 B a0 fl0 d0 ne r q ih =>
  intro e n
  obtain ⟨n1,n2,n3⟩:=xar.mp n
  cases i with
  | zero=>simp at e
  | succ i =>
   obtain ⟨v,As,t,a,b,c,d,g⟩:=ih i (by simpa using e) n2
   have hB:∀ x∈B,x∉As:=fun x hx m=>n3 x hx x (d.subset m) rfl
   refine ⟨v,As,B++t,by simpa using a,b,c,d.trans (xas _ _),fun Hs2 H2 fl2 d2 As2 s2 r2 ne2 nd2 dj st=>?_⟩
   obtain ⟨t2,x,y,z⟩:=g Hs2 H2 fl2 d2 As2 s2 r2 ne2 nd2 (fun a ha m=>dj a ha (xai _ m)) fun a ha m=>st a (xai _ ha) m
   refine ⟨B++t2,xar.mpr ⟨n1,x,fun a ha b hb e=>?_⟩,fun a h=>?_,.lk ne (r.stay s2 fun a h=>st a (xay _ h) (hB a h)) z⟩
   ·subst e
    rcases y a hb with w | w
    ·exact n3 a ha a w rfl
    ·exact hB a ha (dj a w (xay _ ha))
   ·rcases xal.mp h with w | w
    ·exact .inl (xay _ w)
    ·exact (y a w).imp (fun w=>xai _ w) id
theorem cL {X:Cx} {i:Nat} {e:Expr} (h:PE X e (tVar i)):QP X K e (wpN i):=PE.imp h fun σ H Qv hx=>ex4 hx fun Hs ρ tot Q sr h f=>by
 unfold wpN at h
 split at h
 ·rename_i fl d e1
  obtain ⟨v,As,t,e2,ne,r,sb,g⟩:=SR.put i sr.sr e1 sr.nod
  refine ⟨v,e2,f v H Hs fl d _ (Grow.refl sr.wf) ⟨As,r,ne,sb.nodup sr.nod,fun a h=>sr.own a (sb.subset h),fun Hs2 H2 fl2 d2 As2 s2 w2 n2 _ r2 ne2 nd2 o2 st=>?_⟩ h⟩
  obtain ⟨t2,x,y,z⟩:=g Hs2 H2 fl2 d2 As2 s2 r2 ne2 nd2 (fun a ha m=>(o2 a ha).2.elim id fun q=>absurd q (sr.sr.own a m).ne) fun a ha m=>st a (sr.sr.own a ha).ne m
  exact ⟨t2,z,w2,x,fun a h=>(y a h).elim (fun q=>n2 a (sr.own a q) (sr.sr.own a q).ne) fun q=>(o2 a q).1⟩
 ·exact h.elim
theorem RepO.wk {fl fl2:Bool} {d:D} {v:V} {As:List Addr} (h:fl2=true->fl=true) (r:RepO K Hs H fl d v As):RepO K Hs H fl2 d v As:=by
 cases fl2 with
 | false=>exact r.fls
 | true=>rw [h rfl] at r; exact r
theorem ak.wk {fl fl2:Bool} {d:List D} {v:List V} {As:List Addr} (h:fl2=true->fl=true) (r:ak K Hs H fl d v As):ak K Hs H fl2 d v As:=by
 cases fl2 with
 | false=>exact r.fls
 | true=>rw [h rfl] at r; exact r
theorem ak.at {fl:Bool} {ds:List D} {vs:List V} {As:List Addr} {j:Nat} {d:D} (r:ak K Hs H fl ds vs As) (e:ds[j]? = some d) (n:As.Nodup) :
  ∃ (v:V) (B:List Addr),vs[j]? = some v/\RepO K Hs H fl d v B/\B.Sublist As/\∀ Hs2 H2 fl2 d2 B2,Same Hs Hs2->(fl2=true->fl=true)->RepO K Hs2 H2 fl2 d2 v B2->B2.Nodup->(∀ a∈B2,a∈As->a∈B)->(∀ a∈As,a∉B->H2 a=H a) ->
   ∃ As2,As2.Nodup/\(∀ a∈As2,(a∈As/\a∉B)\/a∈B2)/\(B2≠[]->As2≠[])/\ak K Hs2 H2 fl2 (ds.set j d2) vs As2:=by
 induction ds generalizing vs As j with
 | nil=>simp at e
 | cons x ds ih =>
  obtain ⟨v,us,A,B,rfl,rfl,r,rs⟩:=r.c
  obtain ⟨n1,n2,n3⟩:=xar.mp n
  cases j with
  | zero =>
   simp at e
   subst e
   refine ⟨v,A,rfl,r,xbc _ _,fun Hs2 H2 fl2 d2 B2 s2 hf r2 nd2 dj st=>⟨B2++B,xar.mpr ⟨nd2,n2,fun a ha b hb e=>?_⟩,fun a h=>?_,fun ne z=>ne (xbs.mp z).1,.cons r2 ((rs.wk hf).stay s2 fun a h=>st a (xai _ h) fun z=>n3 a z a h rfl)⟩⟩
   ·subst e
    exact n3 a (dj a ha (xai _ hb)) a hb rfl
   ·rcases xal.mp h with w | w
    ·exact .inr w
    ·exact .inl ⟨xai _ w,fun z=>n3 a z a w rfl⟩
  | succ j =>
   obtain ⟨v,C,a,b,c,g⟩:=ih (j:=j) rs (by simpa using e) n2
   have hA:∀ x∈A,x∉C:=fun x hx m=>n3 x hx x (c.subset m) rfl
   refine ⟨v,C,by simpa using a,b,c.trans (xas _ _),fun Hs2 H2 fl2 d2 B2 s2 hf r2 nd2 dj st=>?_⟩
   obtain ⟨As2,x,y,w,z⟩:=g Hs2 H2 fl2 d2 B2 s2 hf r2 nd2 (fun a ha m=>dj a ha (xai _ m)) fun a ha m=>st a (xai _ ha) m
   refine ⟨A++As2,xar.mpr ⟨n1,x,fun a ha b hb e=>?_⟩,fun a h=>?_,fun ne q=>w ne (xbs.mp q).2,.cons ((r.wk hf).stay s2 fun a h=>st a (xay _ h) (hA a h)) z⟩
   ·subst e
    rcases y a hb with q | q
    ·exact n3 a ha a q.1 rfl
    ·exact hA a ha (dj a q (xay _ ha))
   ·rcases xal.mp h with q | q
    ·exact .inl ⟨xay _ q,hA a q⟩
    ·exact (y a q).imp (fun q=>⟨xai _ q.1,q.2⟩) id
theorem BW {α:Type} {xs:List α} {i:Int} {x:α} (h:atI xs i=some x):∃ j,ixN xs.length i=some j/\xs[j]? = some x:=by
 unfold L2.atI at h
 cases e:ixN xs.length i with
 | none=>rw [e] at h; cases h
 | some j=>rw [e] at h; exact ⟨j,rfl,h⟩
def wpIx (p:WP) (t:WE):WP:=fun ρ Q=>p ρ fun fl d up=>t ρ fun _ y=>fl=true/\match y with
 | .int i=>match d with
  | .list ds=>∃ j d',ixN ds.length i=some j/\ds[j]? = some d'/\d'.flat=false/\Q true d' fun fl2 d2=>up fl2 (.list (ds.set j d2))
  | .tup ds=>∃ j d',ixN ds.length i=some j/\ds[j]? = some d'/\d'.flat=false/\Q true d' fun fl2 d2=>up fl2 (.tup (ds.set j d2))
  | _=>False
 | _=>False
theorem qz {α:Type} {xs:List α} {i:Int} {j:Nat} {x:α} (h:ixN xs.length i=some j) (e:xs[j]? = some x):atI xs i=some x:=by unfold L2.atI; rw [h]; exact e
theorem wD {ds:List D} {j:Nat} {d:D} (e:ds[j]? = some d) (h:d.flat=false):flats ds=false:=by
 cases q:flats ds with
 | false=>rfl
 | true=>rw [iw.mp q d (xaB e)] at h; cases h
theorem ud {ds:List D} {j:Nat} {d d2:D} (e:ds[j]? = some d) (h:d2.flat=false):flats (ds.set j d2)=false:=by
 have hj:j<ds.length:=(xaj.mp e).1
 exact wD (j:=j) (d:=d2) (by simp [hj]) h
theorem y_ {X:Cx} {a b:Expr} {p:WP} {t:WE} {pos:Pos} (hu:X.A.units+64<cLine) (ha:QP X K a p) (hb:QE X K b t) (hs:PlainIx b:=by exact fun _ _=>rfl) (hK:X.K=K:=by rfl):QP X K (.Subscript a b pos) (wpIx p t):=by
 refine PE.imp (pe_ix (kIxD hu hK) ha hb hs) fun σ H Qv hx=>ex4 hx fun Hs ρ tot Q sr h f=>?_
 refine ⟨Hs,ρ,tot,_,sr,h,fun v H1 Hs1 fl d up g1 p1 q1=>⟨Hs1,ρ,tot,_,sr.grow g1,q1,fun u H2 Hs2 m y As g2 r2 f2 q2=>?_⟩⟩
 have p2:=p1.grow g2
 have gg:=g1.trans g2
 obtain ⟨rfl,q2⟩:=q2
 have ry:=r2.rep g2.wf
 cases ry with
 | int i =>
  obtain ⟨As',r,ne,nd,own,k⟩:=p2.ex
  cases r with
  | sh hf _=>exact absurd rfl ne
  | @list a0 vs0 ds0 A0 hz e rs =>
   obtain ⟨j,d',e1,e2,hd,q⟩:=q2
   obtain ⟨na,nb⟩:=xaD.mp nd
   obtain ⟨w,B,e3,r3,sb,g⟩:=rs.at e2 nb
   refine .inl (.inl ⟨_,w,.inl (.inl e),qz (by rw [<- rs.length]; exact e1) e3,f w H2 Hs2 true d' _ gg ⟨B,r3,r3.ne hd,sb.nodup nb,fun a h=>own a (xab _ (sb.subset h)),fun Hs3 H3 fl3 d3 As3 s3 w3 n3 hf r4 ne3 nd3 o3 st=>?_⟩ q⟩)
   have st':∀ x∈A0,x∉B->H3 x=H2 x:=fun x hx m=>st x (rs.own x hx).ne m
   obtain ⟨As4,x4,y4,z4,r5⟩:=g Hs3 H3 fl3 d3 As3 s3 hf r4 nd3 (fun a ha m=>(o3 a ha).2.elim id fun q=>absurd q (rs.own a m).ne) st'
   have eA:H3 a0=H2 a0:=st a0 (by rw [e]; exact fun z=>nomatch z) fun m=>na (sb.subset m)
   have cl:∀ a∈As4,Hs3 a=none/\(a∈a0 :: A0\/H2 a=none):=fun a h=>by
    rcases y4 a h with ⟨m,_⟩ | m
    ·exact ⟨n3 a (own a (xab _ m)) (rs.own a m).ne,.inl (xab _ m)⟩
    ·exact ⟨(o3 a m).1,(o3 a m).2.imp (fun q=>xab _ (sb.subset q)) id⟩
   refine k Hs3 H3 fl3 (.list _) (_ :: As4) s3 w3 n3 hf (.list hz (eA.trans e) r5) (by simp) (xaD.mpr ⟨fun m=>?_,x4⟩) (fun a h=>?_) fun a h1 h2=>st a h1 fun m=>h2 (xab _ (sb.subset m))
   ·rcases y4 _ m with ⟨q,_⟩ | q
    ·exact na q
    ·rcases (o3 _ q).2 with q | q
     ·exact na (sb.subset q)
     ·rw [e] at q; cases q
   ·rcases xag.mp h with rfl | h
    ·exact ⟨n3 _ (own _ xac) (by rw [e]; exact fun z=>nomatch z),.inl xac⟩
    ·exact cl a h
  | tup hz e hn rs =>
   obtain ⟨j,d',e1,e2,hd,q⟩:=q2
   obtain ⟨w,B,e3,r3,sb,g⟩:=rs.at e2 nd
   refine .inl (.inr ⟨_,w,.inl (.inl (g2.wf.sub _ _ e)),qz (by rw [<- rs.length]; exact e1) e3,f w H2 Hs2 true d' _ gg ⟨B,r3,r3.ne hd,sb.nodup nd,fun a h=>own a (sb.subset h),fun Hs3 H3 fl3 d3 As3 s3 w3 n3 hf r4 ne3 nd3 o3 st=>?_⟩ q⟩)
   obtain ⟨As4,x4,y4,z4,r5⟩:=g Hs3 H3 fl3 d3 As3 s3 hf r4 nd3 (fun a ha m=>(o3 a ha).2.elim id fun q=>absurd q (rs.own a m).ne) (fun x hx m=>st x (rs.own x hx).ne m)
   have hn2:flats (List.set _ j d3)=false:=ud e2 (by
    cases hh:d3.flat with
    | false=>rfl
    | true=>exact absurd (r4.nil_of hh) ne3)
   refine k Hs3 H3 fl3 (.tup _) As4 s3 w3 n3 hf (.tup hz (s3 _ _ e) hn2 r5) (z4 ne3) x4 (fun a h=>?_) fun a h1 h2=>st a h1 fun m=>h2 (sb.subset m)
   rcases y4 a h with ⟨m,_⟩ | m
   ·exact ⟨n3 a (own a m) (rs.own a m).ne,.inl m⟩
   ·exact ⟨(o3 a m).1,(o3 a m).2.imp (fun q=>sb.subset q) id⟩
  | _=>exact q2.elim
 | _=>exact q2.elim
end
section
variable {X:Cx} {K:PySem.W.Frag} {e:Expr} {p:WP} {te:WE} {apos cpos pos:Pos}
def jy (fl:Bool) (m:Md) (d:D):Option Bool:=match m with
 | .sh=>some (fl && d.flat)
 | .ow b=>some (fl && b)
 | .bo=>bif d.flat then some fl else none
def wApp (p:WP) (te:WE):WS:=fun E ρ=>p ρ fun fl d up=>match d with
 | .list xs=>te ρ fun m x=>xs.length<sizeLine/\match jy fl m x with
  | some fl2=>E.nx (up fl2 (.list (xs++[x])))
  | none=>False
 | _=>False
theorem vY {Hs H:Hp} {fl fl2:Bool} {m:Md} {d:D} {v:V} {As:List Addr} (w:Wf Hs H) (r:RM K Hs H m d v As) (h:jy fl m d=some fl2):(fl2=true->fl=true)/\∃ B,B.Sublist As/\RepO K Hs H fl2 d v B:=by
 cases m with
 | sh =>
  cases h
  exact ⟨fun z=>by cases fl <;> simp_all,[],xbd _,.sh (fun z=>by cases fl <;> simp_all) r.2⟩
 | ow b =>
  cases h
  refine ⟨fun z=>by cases fl <;> simp_all,As,List.Sublist.refl _,r.1.wk fun z=>by cases fl <;> simp_all⟩
 | bo =>
  cases hf:d.flat with
  | true =>
   simp only [jy,hf,cond_true,Option.some.injEq] at h
   subst h
   exact ⟨id,[],xbd _,.sh (fun _=>hf) (r.flat w hf)⟩
  | false=>simp [jy,hf] at h
theorem Place.put {Hs1 H1 Hs2 H2:Hp} {σ:St} {fl:Bool} {xs:List D} {v:V} {up:Bool->D->Env} (pl:Place K Hs1 H1 σ fl (.list xs) v up) (g:Grow Hs1 H1 Hs2 H2) :
  ∃ a vs A,v=.ref a/\H2 a=some (.lst vs)/\H1 a=some (.lst vs)/\ak K Hs2 H2 fl xs vs A/\(a :: A).Nodup/\(∀ x∈a :: A,Hs2 x=none/\H1 x≠none) /\
   ∀ fl2 ys ws C,(fl2=true->fl=true)->ak K Hs2 H2 fl2 ys ws C->ws.length<=sizeLine->C.Nodup->a∉C->(∀ x∈C,x∈A\/(Hs2 x=none/\H1 x=none))->∃ tot2,SRel K Hs2 (up fl2 (.list ys)) σ (upd H2 a (.lst ws)) tot2:=by
 obtain ⟨As',r,ne,nd,own,k⟩:=pl.ex
 cases r with
 | sh hf _=>exact absurd rfl ne
 | @list a vs _ A hz e rs =>
  have e2:=g.all _ _ e
  have rs2:=rs.grow g.sh g.all
  have hw:∀ x∈a :: A,Hs1 x=none/\H1 x≠none:=fun x hx=>⟨own x hx,by
   rcases xag.mp hx with rfl | hx
   ·rw [e]; exact fun z=>nomatch z
   ·exact (rs.own x hx).ne⟩
  exact ⟨a,vs,A,rfl,e2,e,rs2,nd,fun x hx=>⟨g.hsn (hw x hx).1 (hw x hx).2,(hw x hx).2⟩,fun fl2 ys ws C hf rw' hz ndC naC hC=>k.node g hw (fun _ z=>by cases z) hf (.list hz upd_same (rw'.stay (Same.refl _) fun b hb=>upd_ne fun z=>naC (by subst z; exact hb))) ndC naC hC⟩
theorem Place.isL {Hs1 H1:Hp} {σ:St} {fl:Bool} {xs:List D} {v:V} {up:Bool->D->Env} (w:Wf Hs1 H1) (pl:Place K Hs1 H1 σ fl (.list xs) v up):∃ a vs,v=.ref a/\SqL K H1 a vs:=by
 obtain ⟨As',r,ne,nd,own,k⟩:=pl.ex
 cases r with
 | sh hf _=>exact absurd rfl ne
 | list hz e rs=>exact ⟨_,_,rfl,.inl (.inl e)⟩
theorem jJ (ho:QP X K e p) {e2:Expr} (he:QE X K e2 te) (hK:X.K=K:=by rfl) (hs:swapsWith (.Call (.Attribute e "append" apos) [e2] [] cpos) none pos.line X.env=pure false:=by rfl)
  (hbase:attributeBase e "append" X.env (eval e X.env)=eval e X.env:=by rfl)
  (hfew:((backTo cpos (starEach [e2] X.env)).all (fun x=>!x.1) && (backToKw cpos (keywordEach [] X.env)).all (fun x=>x.1.isSome)
   && decide ([e2].length+([]:List Keyword).length+(if ([]:List Keyword).isEmpty then 0 else 1)<30))=true:=by rfl)
  (hline:(apos.endLine == cpos.line)=true:=by rfl) (hss:starEach (e2 :: []) X.env=(false,eval e2 X.env) :: starEach [] X.env:=by rfl) (hplain:(backTo cpos (starEach [] X.env)).any (·.1)=false:=by rfl) :
  QS X K L (.Expr (.Call (.Attribute e "append" apos) [e2] [] cpos) pos) (wApp p te):=by
 subst hK
 refine PS.imp (ps_expr (pe_bm PySem.F.plainAttrs_list PySem.F.slot_list_append PySem.F.type_list_append mt_append ho (pa_cons he pa_nil hss) hbase hfew hline hss hplain) hs) fun D σ H hx=>fj hx fun Hs ρ tot E sr h k1 k2 k3 k4=>?_
 refine ⟨Hs,ρ,tot,_,sr,h,fun v H1 Hs1 fl d up g1 p1 q1=>?_⟩
 cases d with
 | list xs =>
  obtain ⟨a1,vs1,e1,s1⟩:=p1.isL g1.wf
  subst e1
  refine ⟨.inl ⟨rfl,_,s1⟩,Hs1,ρ,tot,_,sr.grow g1,q1,fun y H2 Hs2 m x As g2 r2 f2 q2=>?_⟩
  obtain ⟨hz,q2⟩:=q2
  obtain ⟨a,vs,A,ea,e2,_,rs,nd,hn,k⟩:=p1.put g2
  cases ea
  have hl:=rs.length
  refine ⟨a1,vs,y,rfl,rfl,e2,by lia,?_⟩
  cases hp:jy fl m x with
  | none=>rw [hp] at q2; exact q2.elim
  | some fl2 =>
   rw [hp] at q2
   obtain ⟨hf,B,sb,rb⟩:=vY g2.wf r2 hp
   obtain ⟨na,nA⟩:=xaD.mp nd
   have fB:∀ x∈B,Hs2 x=none/\H1 x=none:=fun x hx=>f2.2 x (sb.subset hx)
   have c1:(A++(B++[])).Nodup:=by
    rw [xaO]
    exact xar.mpr ⟨nA,sb.nodup f2.1,fun x hx z hz e=>by subst e; exact (hn x (xab _ hx)).2 (fB x hz).2⟩
   have c2:a1∉A++(B++[]):=by
    rw [xaO]
    intro m
    rcases xal.mp m with m | m
    ·exact na m
    ·exact (hn _ xac).2 (fB _ m).2
   have c3:∀ x∈A++(B++[]),x∈A\/(Hs2 x=none/\H1 x=none):=by
    rw [xaO]
    intro x hx
    exact (xal.mp hx).imp id fun z=>fB x z
   obtain ⟨tot2,sr2⟩:=k fl2 (xs++[x]) (vs++[y]) (A++(B++[])) hf ((rs.wk hf).append (.cons rb .nil)) (by rw [xaL]; simp; lia) c1 c2 c3
   exact k1 σ _ Hs2 _ tot2 (g1.sh.trans g2.sh) sr2 q2
 | _=>exact q1.elim
def sZ:WE:=fun _ Q=>Q (.ow true) (.dT [])
theorem yX:QE X K (.Dict [] [] pos) sZ:=PE.imp pe_dnewT fun σ H Qv hx=>ex4 hx fun Hs ρ tot Q sr h f=>fun a ha =>
 f _ _ Hs (.ow true) (.dT []) [a] (newL sr.wf ha fun _ z=>nomatch z) ⟨.dT (vs:=[]) ⟨xaz _,fun p hp=>nomatch hp⟩ upd_same .nil,by simp⟩ ⟨by simp,fun b hb=>by
  obtain rfl:b=a:=by simpa using hb
  exact ⟨sr.wf.sub.free ha,ha⟩⟩ h
section
variable {κ:Type} [DecidableEq κ]
theorem uo {Hs H:Hp} {fl:Bool} {k:κ} {d:D} {v:V} (r:RepO K Hs H fl d v []) {kvs:List (κ × D)} {vs:List V} {As:List Addr} (qs:ak K Hs H fl (kvs.map (·.2)) vs As):∃ ws Bs,Bs.Sublist As /\
  ak K Hs H fl ((kvs.map fun kv=>if kv.1=k then (kv.1,d) else kv).map (·.2)) ws Bs/\((kvs.map (·.1)).zip vs).map (fun kv=>if kv.1=k then (kv.1,v) else kv)=(((kvs.map fun kv=>if kv.1=k then (kv.1,d) else kv)).map (·.1)).zip ws:=by
 induction kvs generalizing vs As with
 | nil=>exact ⟨[],[],xbd _,.nil,rfl⟩
 | cons p kvs ih =>
  obtain ⟨u,vs,A,B,rfl,rfl,q,qs⟩:=ak.c (d:=p.2) qs
  obtain ⟨ws,Bs,sb,rs,e⟩:=ih qs
  by_cases h:p.1=k
  ·refine ⟨v :: ws,[]++Bs,by simpa using sb.trans (xas _ _),?_,?_⟩
   ·simp only [xap,h,if_true]
    exact .cons r rs
   ·simp only [xap,xa6,h,if_true,e]
  ·refine ⟨u :: ws,A++Bs,sb.append_left _,?_,?_⟩
   ·simp only [xap,h,if_false]
    exact .cons q rs
   ·simp only [xap,xa6,h,if_false,e]
theorem vN {Hs H:Hp} {fl:Bool} {k:κ} {d:D} {v:V} (r:RepO K Hs H fl d v []) {kvs:List (κ × D)} {vs:List V} {As:List Addr} (q:ak K Hs H fl (kvs.map (·.2)) vs As) :
  ∃ ws Bs,Bs.Sublist As/\ak K Hs H fl ((putG kvs k d).map (·.2)) ws Bs/\putK ((kvs.map (·.1)).zip vs) k v=((putG kvs k d).map (·.1)).zip ws:=by
 have hl:=q.length
 rw [xaf] at hl
 unfold putK putG
 rw [yL hl]
 cases h:kvs.any fun kv=>decide (kv.1=k) with
 | true =>
  simp only [if_true]
  exact uo r q
 | false =>
  simp only [xax,if_false]
  refine ⟨vs++[v],As++([]++[]),by simp,?_,?_⟩
  ·rw [xbL]
   exact q.append (.cons r .nil)
  ·rw [xbL,List.zip_append (by rw [xaf]; exact hl)]
   rfl
theorem uE {Hs H:Hp} {fl:Bool} {k:κ} {d:D} {v:V} (r:Rep K Hs d v) (hd:d.flat=true) {kvs:List (κ × D)} {vs:List V} {As:List Addr} (q:ak K Hs H fl (kvs.map (·.2)) vs As) :
  ∃ ws Bs,Bs.Sublist As/\ak K Hs H fl ((putG kvs k d).map (·.2)) ws Bs/\putK ((kvs.map (·.1)).zip vs) k v=((putG kvs k d).map (·.1)).zip ws:=vN (.sh (fun _=>hd) r) q
theorem lD {β:Type} (kvs:List (κ × β)) (k:κ) (v:β):(putG kvs k v).length<=kvs.length+1:=by
 unfold putG
 split
 ·rw [xaf]; exact xbQ _ _
 ·simp
theorem jV {β:Type} {kvs:List (κ × β)} {k:κ} {v:β} {p:κ × β} (h:p∈putG kvs k v):p.1=k\/p.1∈kvs.map (·.1):=by
 unfold putG at h
 split at h
 ·obtain ⟨q,hq,e⟩:=xak.mp h
  by_cases hk:q.1=k
  ·rw [if_pos hk] at e; subst e; exact .inl hk
  ·rw [if_neg hk] at e; subst e; exact .inr (xak.mpr ⟨q,hq,rfl⟩)
 ·rcases xal.mp h with h | h
  ·exact .inr (xak.mpr ⟨p,h,rfl⟩)
  ·have:p=(k,v):=by simpa using h
   subst this; exact .inl rfl
end
def xf (p:WP) (tk tv:WE):WS:=fun E ρ=>tv ρ fun _ x=>p ρ fun fl d up=>tk ρ fun _ y=>x.flat=true/\match d with
 | .dK kvs=>∃ k,y.key1=some k/\kvs.length<sizeLine/\E.nx (up fl (.dK (putG kvs k x)))
 | .dT kvs=>match y with
  | .tup ys=>∃ ks,dO ys=some ks/\kvs.length<sizeLine/\E.nx (up fl (.dT (putG kvs ks x)))
  | _=>False
 | _=>False
theorem uR {H:Hp} {d:D} {v:V} {k:Key} (r:Rep K H d v) (h:d.key1=some k):kOk k=true:=by
 cases r <;> simp [D.key1] at h <;> subst h
 ·rfl
 ·rename_i hz; simp [kOk,hz]
theorem xn {H:Hp} {ds:List D} {vs:List V} {ks:List Key} (r:Reps K H ds vs) (h:dO ds=some ks):ks.length=ds.length/\∀ k∈ks,kOk k=true:=by
 induction ds generalizing vs ks with
 | nil=>simp [dO] at h; subst h; exact ⟨rfl,fun k hk=>nomatch hk⟩
 | cons d ds ih =>
  obtain ⟨u,us,rfl,r,rs⟩:=r.c
  unfold dO at h
  cases e1:d.key1 with
  | none=>rw [e1] at h; simp at h
  | some k =>
   cases e2:dO ds with
   | none=>rw [e1,e2] at h; simp at h
   | some ks' =>
    rw [e1,e2] at h
    simp at h
    subst h
    obtain ⟨a,b⟩:=ih rs e2
    refine ⟨by simp [a],fun j hj=>?_⟩
    rcases xag.mp hj with rfl | hj
    ·exact uR r e1
    ·exact b j hj
theorem zY {a b c:Expr} {tk tv:WE} {pos':Pos} (hu:X.A.units+64<cLine) (ho:QP X K a p) (hi:QE X K b tk) (hv:QE X K c tv) (hs:swapsWith c (some (.Subscript a b pos')) pos.line X.env=pure false:=by rfl) :
  QS X K L (.Assign [.Subscript a b pos'] c pos) (xf p tk tv):=by
 refine PS.imp (ps_dput (by lia) ho hi hv hs) fun D σ H hx=>fj hx fun Hs ρ tot E sr h k1 k2 k3 k4=>?_
 refine ⟨Hs,ρ,tot,_,sr,h,fun v H1 Hs1 m1 x As1 g1 r1 f1 q1=>⟨Hs1,ρ,tot,_,sr.grow g1,q1,fun u H2 Hs2 fl d up g2 p2 q2=>⟨Hs2,ρ,tot,_,(sr.grow g1).grow g2,q2,fun y H3 Hs3 m3 yd As3 g3 r3 f3 q3=>?_⟩⟩⟩
 obtain ⟨hx,q3⟩:=q3
 have rx:Rep K Hs3 x v:=((r1.grow g2).grow g3).flat g3.wf hx
 have ry:=r3.rep g3.wf
 obtain ⟨As',r,ne,nd,own,k⟩:=p2.ex
 have sm:Same Hs Hs3:=(g1.sh.trans g2.sh).trans g3.sh
 have lv:∀ x∈As',Hs2 x=none/\H2 x≠none:=fun x hx=>⟨own x hx,(r.own x hx).ne⟩
 cases r with
 | sh hf _=>exact absurd rfl ne
 | @dK a0 vs kvs A kk e rs =>
  obtain ⟨key,hk,hz,q⟩:=q3
  have ey:=ry.key hk
  subst ey
  obtain ⟨na,nA⟩:=xaD.mp nd
  obtain ⟨ws,Bs,sb,rw',ew⟩:=uE (k:=key) rx hx (rs.grow g3.sh g3.all)
  have hl:kvs.length=vs.length:=by have:=rs.length; rwa [xaf] at this
  refine ⟨a0,_,rfl,DPut.k (g3.all _ _ e) (by rw [xbU,xaf,<- hl,xce]; exact hz),?_⟩
  rw [ew]
  have nB:a0∉Bs:=fun z=>na (sb.subset z)
  obtain ⟨tot2,sr2⟩:=k.node (fl2:=fl) (d2:=.dK (putG kvs key x)) g3 lv (fun _ z=>by cases z) id (.dK ⟨xaq (lD _ _ _) hz,fun p hp=>(jV hp).elim (fun z=>by rw [z]; exact uR ry hk) fun z=>by obtain ⟨p',hp',e'⟩:=xak.mp z; rw [<- e']; exact kk.2 p' hp'⟩ upd_same (rw'.stay (Same.refl _) fun b hb=>upd_ne fun z=>nB (by subst z; exact hb)))
   (sb.nodup nA) nB fun b hb=>.inl (sb.subset hb)
  exact k1 σ _ Hs3 _ tot2 sm sr2 q
 | @dT a0 vs kvs A kk e rs =>
  cases ry with
  | tup t1 e1 q1' =>
   obtain ⟨key,hk,hz,q⟩:=q3
   obtain ⟨b,eb,e5⟩:=Rep.keyT (.tup t1 e1 q1') hk
   cases eb
   obtain ⟨kl,ko⟩:=xn q1' hk
   obtain ⟨na,nA⟩:=xaD.mp nd
   obtain ⟨ws,Bs,sb,rw',ew⟩:=uE (k:=key) rx hx (rs.grow g3.sh g3.all)
   have hl:kvs.length=vs.length:=by have:=rs.length; rwa [xaf] at this
   refine ⟨a0,_,rfl,DPut.t (g3.all _ _ e) e5 (by rw [xbU,xaf,<- hl,xce]; exact hz),?_⟩
   rw [ew]
   have nB:a0∉Bs:=fun z=>na (sb.subset z)
   have l1:=q1'.length
   obtain ⟨tot2,sr2⟩:=k.node (fl2:=fl) (d2:=.dT (putG kvs key x)) g3 lv (fun _ z=>by cases z) id (.dT ⟨xaq (lD _ _ _) hz,fun p hp=>(jV hp).elim (fun z=>by rw [z]; exact ⟨by lia,ko⟩) fun z=>by obtain ⟨p',hp',e'⟩:=xak.mp z; rw [<- e']; exact kk.2 p' hp'⟩ upd_same (rw'.stay (Same.refl _) fun b hb=>upd_ne fun z=>nB (by subst z; exact hb)))
    (sb.nodup nA) nB fun b hb=>.inl (sb.subset hb)
   exact k1 σ _ Hs3 _ tot2 sm sr2 q
  | _=>exact q3.elim
 | _=>exact q3.elim
end
abbrev WJ:=Env->Str->(Str->Prop)->Prop
section
variable {X:Cx} {K:PySem.W.Frag} {e:Expr} {te:WE} {j:WJ}
def gO:List D->Option (List Str)
 | []=>some []
 | .str x :: xs=>(gO xs).map (x :: ·)
 | _ :: _=>none
def iB (to te:WE):WE:=fun ρ Q=>to ρ fun _ x=>match x with
 | .str z=>te ρ fun _ y=>match y with
  | .list ys=>∃ zs,gO ys=some zs/\(zs.map (·.length)).sum+zs.length * z.length<=16777216/\Q .sh (.str (Str.join z zs))
  | _=>False
 | _=>False
theorem vf {H:Hp} {ds:List D} {vs:List V} {us:List Value} {zs:List Str} (r:Reps K H ds vs) (q:Vals vs us) (h:gO ds=some zs):StrsAre us zs:=by
 induction ds generalizing vs us zs with
 | nil =>
  simp [gO] at h
  subst h
  have:=r.n0
  subst this
  rw [Paired.n0 q]; exact .nil
 | cons d ds ih =>
  obtain ⟨v,vs,rfl,r1,rs⟩:=r.c
  obtain ⟨u,us,rfl,q1,qs⟩:=Paired.c q
  cases r1 with
  | str hz =>
   simp only [gO] at h
   cases e:gO ds with
   | none=>rw [e] at h; cases h
   | some ys =>
    rw [e] at h
    cases h
    obtain ⟨t,rfl⟩:=q1
    exact .cons _ t (ih rs qs e)
  | _=>simp [gO] at h
theorem yu (hK:X.K=K:=by rfl):MtR X "str.join" (fun x xs H Q=>∃ z a ds vs zs,x=.str z/\xs=[.ref a]/\SqL K H a vs/\Reps K H ds vs/\gO ds=some zs/\(zs.map (·.length)).sum+zs.length * z.length<=16777216/\Q (.str (Str.join z zs)) H):=by
 subst hK
 intro pins s σ H x xs v us Q I rx rs h
 obtain ⟨z,a,ds,vs,zs,rfl,rfl,hs,rr,e,hz,q⟩:=h
 obtain ⟨t,rfl⟩:=rx
 obtain ⟨u,rfl,ru⟩:=Vals.one rs
 cases ru
 obtain ⟨its,rv,pl,_⟩:=I.list hs
 exact join_list pl.isList (by simpa using vf rr rv e) hz fun t' k=>⟨.str _,H,I.tok _,⟨t',rfl⟩,by rw [show Txt.join z zs=Str.join z zs from StrLaws.glued_eq_join z zs]; exact q⟩
theorem oV {z:Str}:∀ {zs:List Str},(Str.join z zs).length<=(zs.map (·.length)).sum+zs.length * z.length
 | []=>by show Str.empty.length<=_; exact xaq (show Str.empty.length<=0 by decide) (xaz _)
 | [x]=>by simp [Str.join]
 | x :: y :: r=>by
  have ih:=oV (z:=z) (zs:=y :: r)
  show (x++z++Str.join z (y :: r)).length<=_
  rw [b7,b7]
  simp only [xap,List.sum_cons,xaU,Nat.add_mul,Nat.one_mul] at ih ⊢
  lia
theorem qg {o:Expr} {to:WE} {apos cpos:Pos} (ho:QE X K o to) (he:QE X K e te) (hK:X.K=K:=by rfl)
  (hbase:attributeBase o "join" X.env (eval o X.env)=eval o X.env:=by rfl)
  (hfew:((backTo cpos (starEach [e] X.env)).all (fun x=>!x.1) && (backToKw cpos (keywordEach [] X.env)).all (fun x=>x.1.isSome)
   && decide ([e].length+([]:List Keyword).length+(if ([]:List Keyword).isEmpty then 0 else 1)<30))=true:=by rfl)
  (hline:(apos.endLine == cpos.line)=true:=by rfl) (hss:starEach (e :: []) X.env=(false,eval e X.env) :: starEach [] X.env:=by rfl) (hplain:(backTo cpos (starEach [] X.env)).any (·.1)=false:=by rfl) :
  QE X K (.Call (.Attribute o "join" apos) [e] [] cpos) (iB to te):=by
 subst hK
 refine PE.imp (pe_bm PySem.F.plainAttrs_str PySem.F.slot_str_join PySem.F.type_str_join yu ho (pa_cons he pa_nil hss) hbase hfew hline hss hplain) fun σ H Qv hx=>ex4 hx fun Hs ρ tot Q sr h f=>?_
 refine ⟨Hs,ρ,tot,_,sr,h,fun v H1 Hs1 m x As g1 r1 f1 q1=>?_⟩
 have r:=r1.rep g1.wf
 cases r with
 | str hz =>
  refine ⟨rfl,Hs1,ρ,tot,_,sr.grow g1,q1,fun y H2 Hs2 m2 x2 As2 g2 r2 f2 q2=>?_⟩
  have rr:=r2.rep g2.wf
  cases rr with
  | list z s rs =>
   obtain ⟨zs,e,hz,q⟩:=q2
   exact ⟨_,_,_,_,zs,rfl,rfl,s,rs,e,hz,Fin.sh (Fin.after f (g1.trans g2)) g2.wf (.str (xaq oV (by rw [sizeLine_eq]; exact hz))) q⟩
  | _=>exact q2.elim
 | _=>exact q1.elim
def keyT (k:List Key):D:=.tup (k.map keyD)
def Fb:W1:=fun _ x Q=>match x with
 | .list xs=>∃ ks sh,xs=ks.map keyT/\ks.length<=63/\(∀ k∈ks,shOf k=true :: sh)/\∀ ms:List (List Key),ms.Perm ks->(ms.Pairwise fun a b=>ltK b a=false)->Q (.ow true) (.list (ms.map keyT))
 | _=>False
theorem z_ {H:Hp} {ks:List Key} {vs:List V} (r:Reps K H (ks.map keyD) vs):vs=ks.map kV/\∀ k∈ks,kOk k=true:=by
 induction ks generalizing vs with
 | nil=>exact ⟨r.n0,fun k h=>nomatch h⟩
 | cons k ks ih =>
  obtain ⟨u,us,rfl,r1,rs⟩:=Reps.c (d:=keyD k) r
  obtain ⟨e,o⟩:=ih rs
  subst e
  cases k with
  | inl i=>cases r1; exact ⟨rfl,fun j hj=>by rcases xag.mp hj with rfl | hj; rfl; exact o j hj⟩
  | inr x =>
   cases r1 with
   | str hz=>exact ⟨rfl,fun j hj=>by rcases xag.mp hj with rfl | hj; simp [kOk,hz]; exact o j hj⟩
theorem zp {H:Hp} {ks:List (List Key)} {vs:List V} (r:Reps K H (ks.map keyT) vs):bu H vs ks/\∀ k∈ks,k.length<=sizeLine/\∀ j∈k,kOk j=true:=by
 induction ks generalizing vs with
 | nil=>rw [r.n0]; exact ⟨.nil,fun k h=>nomatch h⟩
 | cons k ks ih =>
  obtain ⟨u,us,rfl,r1,rs⟩:=Reps.c (d:=keyT k) r
  obtain ⟨t,o⟩:=ih rs
  cases r1 with
  | tup hz e q =>
   obtain ⟨e2,o2⟩:=z_ q
   subst e2
   exact ⟨.cons ⟨_,rfl,e⟩ t,fun j hj=>by
    rcases xag.mp hj with rfl | hj
    ·exact ⟨by simpa using hz,o2⟩
    ·exact o j hj⟩
theorem h_:bootBuiltins "sorted" = some (.builtin "sorted"):=by decide +kernel
end
def shF (A:List Addr) (F:Nat->List Addr):Nat->List Addr
 | 0=>A
 | i+1=>F i
def Adr (K:PySem.W.Frag) (Hs H:Hp) (ρ:Env) (σ:St) (tot:List Addr) (F:Nat->List Addr):Prop:=(∀ i fl d,ρ[i]? = some (some (.ow fl d))->∃ v,σ[i]? = some (some v)/\F i≠[]/\RepO K Hs H fl d v (F i)) /\
  (∀ i,(F i).Sublist tot)/\∀ i j,i≠j->∀ a∈F i,a∉F j
theorem Adr.skip {K:PySem.W.Frag} {Hs H:Hp} {ρ:Env} {σ:St} {tot:List Addr} {F:Nat->List Addr} {o:Option Sl} {u:Option V} (h:Adr K Hs H ρ σ tot F) (no:∀ fl d,o≠some (.ow fl d)):Adr K Hs H (o :: ρ) (u :: σ) tot (shF [] F):=by
 obtain ⟨a,b,c⟩:=h
 refine ⟨fun i fl d e=>?_,fun i=>?_,fun i j ne x hx=>?_⟩
 ·cases i with
  | zero=>simp at e; exact absurd e (no fl d)
  | succ i=>exact a i fl d (by simpa using e)
 ·cases i with
  | zero=>exact xbd _
  | succ i=>exact b i
 ·cases i with
  | zero=>exact mem0 hx
  | succ i =>
   cases j with
   | zero=>exact fun z=>mem0 z
   | succ j=>exact c i j (fun z=>ne (by rw [z])) x hx
theorem Adr.own {K:PySem.W.Frag} {Hs H:Hp} {ρ:Env} {σ:St} {tot B:List Addr} {F:Nat->List Addr} {sl:Sl} {v:V} (h:Adr K Hs H ρ σ tot F) (n:(B++tot).Nodup) (hs:∀ fl d,sl=.ow fl d->B≠[]/\RepO K Hs H fl d v B):Adr K Hs H (some sl :: ρ) (some v :: σ) (B++tot) (shF B F):=by
 obtain ⟨a,b,c⟩:=h
 obtain ⟨n1,n2,n3⟩:=xar.mp n
 refine ⟨fun i fl d e=>?_,fun i=>?_,fun i j ne x hx=>?_⟩
 ·cases i with
  | zero=>simp at e; exact ⟨v,rfl,hs fl d e⟩
  | succ i=>exact a i fl d (by simpa using e)
 ·cases i with
  | zero=>exact xbc _ _
  | succ i=>exact (b i).trans (xas _ _)
 ·cases i with
  | zero =>
   cases j with
   | zero=>exact absurd rfl ne
   | succ j=>exact fun z=>n3 x hx x ((b j).subset z) rfl
  | succ i =>
   cases j with
   | zero=>exact fun z=>n3 x z x ((b i).subset hx) rfl
   | succ j=>exact c i j (fun z=>ne (by rw [z])) x hx
abbrev Plan:=List (WE ⊕ Nat)
def movS:Option (Option Sl)->Option (Md × D)
 | some (some (.sh d))=>some (.sh,d)
 | some (some (.ow fl d))=>some (.ow fl,d)
 | _=>none
def spLaw:SpD:=fun ds Q=>∃ ns:List Int,ds=[.list (ns.map .int)]/\ns.length<=63/\∀ m,Q m (.bl true)
theorem ints_rep {K:PySem.W.Frag} {H:Hp}:∀ (ns:List Int),Reps K H (ns.map .int) (ns.map V.int)
 | []=>.nil
 | n :: ns=>.cons (.int n) (ints_rep ns)
theorem vZ {K:PySem.W.Frag} {H:Hp} {a:Addr} {ns:List Int} {E:XK} (hl:ns.length<=63) (hS:SqL K H a (ns.map V.int)):au K spLaw [.ref a] H (fun v _=>v=.bl true) E:=by
 refine ⟨[.list (ns.map .int)],fun _ d=>d=.bl true,.cons (.list (by rw [xaf]; exact xaq hl (by decide)) hS (ints_rep ns)) .nil,⟨ns,rfl,hl,fun _=>rfl⟩,?_⟩
 intro v H' Hs' m d As s w r nd own q
 subst q
 have:=r.rep w
 cases this
 rfl
abbrev sg (x:Str):List Nat:=x.cps.toList
theorem qb (x y:Str):sg (x++y)=sg x++sg y:=by
 show (x.cps++y.cps).toList=_
 simp [sg]
theorem empty_app (x:Str):Str.empty++x=x:=uP (by rw [<- sg,qb]; rfl)
def okS (x:Str):Prop:=∀ c∈sg x,c<0x110000
theorem zU (x:Str):PyData.strOk x=true↔okS x:=by
 unfold PyData.strOk okS sg
 rw [Array.all_eq_true']
 simp
theorem atI0 {α:Type} (x:α) (l:List α):atI (x :: l) 0=some x:=by simp [L2.atI,ixN]
theorem atI1 {α:Type} (x y:α) (l:List α):atI (x :: y :: l) 1=some y:=by
 have:=atI_nat (xs:=x :: y :: l) (j:=1) (v:=y) rfl
 exact this
theorem atI2 {α:Type} (x y z:α) (l:List α):atI (x :: y :: z :: l) 2=some z:=by
 have:=atI_nat (xs:=x :: y :: z :: l) (j:=2) (v:=z) rfl
 exact this
theorem Ao:Str.empty.length=0:=by decide
end L2.Q
namespace L2.Q.R
open PySem PySem.Spec PyProof.Rows L2.Q
section
variable {f:D->Prop} {k:Kt f}
theorem Fo:onK .non k=f .non:=rfl
theorem Gx {b:Bool}:onK (.bl b) k=f (.bl b):=rfl
theorem Fd {i:Int}:onK (.int i) k=f (.int i):=rfl
theorem Gm {x:Str}:onK (.str x) k=f (.str x):=rfl
theorem Dc {xs:List D}:onK (.list xs) k=f (.list xs):=rfl
theorem Ge {xs:List D}:onK (.tup xs) k=f (.tup xs):=rfl
theorem G_ {xs:List (Key × D)}:onK (.dK xs) k=f (.dK xs):=rfl
theorem HH {xs:List (List Key × D)}:onK (.dT xs) k=f (.dT xs):=rfl
end
theorem CQ {f:Bool->Prop} {k:Kt f}:onK true k=f true:=rfl
theorem Cu {f:Bool->Prop} {k:Kt f}:onK false k=f false:=rfl
theorem Ex {d:D} {f:Md × D->Prop} {k:Kt f}:onK (Md.sh,d) k=f (.sh,d):=rfl
theorem Gi {b:Bool} {d:D} {f:Md × D->Prop} {k:Kt f}:onK (Md.ow b,d) k=f (.ow b,d):=rfl
theorem Eo {d:D} {f:Md × D->Prop} {k:Kt f}:onK (Md.bo,d) k=f (.bo,d):=rfl
theorem Gj {d:D} {f:Option Sl->Prop} {k:Kt f}:onK (some (.sh d)) k=f (some (.sh d)):=rfl
theorem Fl {b:Bool} {d:D} {f:Option Sl->Prop} {k:Kt f}:onK (some (.ow b d)) k=f (some (.ow b d)):=rfl
theorem Fq {p:Md × D} {f:Option (Md × D)->Prop} {k:Kt f}:onK (some p) k=f (some p):=rfl
theorem Hn {p:Bool} {f:Option Bool->Prop} {k:Kt f}:onK (some p) k=f (some p):=rfl
theorem Es {d:D} {f:Option (Option Sl)->Prop} {k:Kt f}:onK (some (some (.sh d))) k=f (some (some (.sh d))):=rfl
theorem Ez {b:Bool} {d:D} {f:Option (Option Sl)->Prop} {k:Kt f}:onK (some (some (.ow b d))) k=f (some (some (.ow b d))):=rfl
section
variable {E:jf} {ρ:Env} {Q:Md->D->Prop} {B:Bool->Prop} {t u:WS} {te ta tb to':WE} {tt tu:WT} {tar:WA} {i j n:Nat} {m m':Md} {d d':D} {sp:SpD} {p:WP} {R:List (Md × D)->Prop}
theorem Gg:dX E ρ=E.nx ρ:=rfl
theorem GZ:wSeq t u E ρ=t { E with nx:=u E } ρ:=rfl
theorem G3:wRet te E ρ=te ρ E.rt:=rfl
def put (sl:Option Sl) (k:Sl->Prop):Prop:=match sl with
 | some s=>k s
 | none=>False
theorem Gn {k:Sl->Prop}:put (some (.sh d)) k=k (.sh d):=rfl
theorem Gw {b:Bool} {k:Sl->Prop}:put (some (.ow b d)) k=k (.ow b d):=rfl
theorem Gy:wSet i te E ρ=te ρ fun m d=>onK (asg m d) (f:=fun o=>put o fun sl=>E.nx (ρ.set i (some sl))) ⟨⟩:=rfl
theorem G5:wIfS tt t u E ρ=tt ρ fun b=>onK b (f:=fun b=>if b=true then t E ρ else u E ρ) ⟨⟩:=rfl
theorem Fw:uX i E ρ=onK ρ[i]? (f:=fun o=>match o with
 | some (some (.sh d))=>E.rt .sh d
 | some (some (.ow fl d))=>E.rt (.ow fl) d
 | _=>False) ⟨⟩:=rfl
def mov (o:Option (Md × D)) (k:Md × D->Prop):Prop:=match o with
 | some p=>k p
 | none=>False
theorem CG {p:Md × D} {k:Md × D->Prop}:mov (some p) k=k p:=rfl
theorem GD:wFrz i t E ρ=t E (frzE i ρ):=rfl
-- tests
def bol (d:D) (B:Bool->Prop):Prop:=match d with
 | .bl b=>B b
 | _=>False
theorem Gs {b:Bool}:bol (.bl b) B=B b:=rfl
theorem wB_:wB te ρ B=te ρ fun _ x=>onK x (f:=fun x=>bol x B) ⟨⟩:=rfl
theorem Hj:wNot tt ρ B=tt ρ fun c=>B (!c):=rfl
theorem wOr_:wOr tt tu ρ B=tt ρ fun c=>onK c (f:=fun c=>if c=true then B true else tu ρ B) ⟨⟩:=rfl
theorem Hy:wYes ρ B=B true:=rfl
-- expressions
theorem Hh:wVar i ρ Q=onK ρ[i]? (f:=fun o=>useS o Q) ⟨⟩:=rfl
theorem DN:useS (some (some (.sh d))) Q=Q .sh d:=rfl
theorem Ej {b:Bool}:useS (some (some (.ow b d))) Q=Q .bo d:=rfl
theorem wC_:wC d ρ Q=Q .sh d:=rfl
theorem wOp_ {f:W2}:wOp f ta tb ρ Q=ta ρ fun m x=>tb ρ fun n y=>f m x n y Q:=rfl
theorem wUn_ {f:W1}:wUn f ta ρ Q=ta ρ fun m x=>f m x Q:=rfl
theorem Fg:tL ta tb ρ Q=ta ρ fun _ x=>onK x (f:=fun x=>bol x fun c=>onK c (f:=fun c=>if c=true then tb ρ Q else Q .sh (.bl false)) ⟨⟩) ⟨⟩:=by unfold tL onK bol; rfl
theorem Gd:aB te tar ρ R=te ρ fun m x=>tar ρ fun ps=>R ((m,x) :: ps):=rfl
theorem G4:wNil ρ R=R []:=rfl
theorem Hi:wTup tar ρ Q=tar ρ fun ps=>ps.length<=sizeLine/\Q (zJ ps) (.tup (ps.map (·.2))):=rfl
theorem GR:wLst tar ρ Q=tar ρ fun ps=>ps.length<=sizeLine/\Q (yh ps) (.list (ps.map (·.2))):=rfl
theorem Gp:cA sp tar ρ Q=tar ρ fun ps=>sp (ps.map (·.2)) fun m d=>onK (m,d) (f:=fun p=>Q (retM p.1 p.2) p.2) ⟨⟩:=rfl
-- operators
section
variable {x y:Str} {a b:Int} {xs ys:List D} {kvs:List (Key × D)} {kts:List (List Key × D)}
theorem Dn:fAdd m (.int a) m' (.int b) Q=Q .sh (.int (a+b)):=rfl
theorem Eg:fAdd m (.str x) m' (.str y) Q=(x.length+y.length<=sizeLine/\Q .sh (.str (x++y))):=rfl
theorem CW:fAdd m (.list xs) m' (.list ys) Q=(xs.length+ys.length<=sizeLine/\((flats xs=true/\flats ys=true/\Q (.ow true) (.list (xs++ys)))\/(m=.sh/\m'=.sh/\Q (.ow false) (.list (xs++ys))))):=rfl
theorem Dy:fAdd m (.tup xs) m' (.tup ys) Q=(xs≠[]/\xs.length+ys.length<=sizeLine/\flats xs=true/\flats ys=true/\Q .sh (.tup (xs++ys))):=rfl
theorem Dt:fSub m (.int a) m' (.int b) Q=Q .sh (.int (a - b)):=rfl
theorem Ei:fMul m (.int a) m' (.int b) Q=(CMul a b/\Q .sh (.int (a * b))):=rfl
theorem Dr:fDiv m (.int a) m' (.int b) Q=((0<b/\b<1073741824)/\Q .sh (.int (a / b))):=rfl
theorem Ea:fMod m (.int a) m' (.int b) Q=(0<b/\Q .sh (.int (a % b))):=rfl
theorem Ep:fLt m (.int a) m' (.int b) Q=Q .sh (.bl (decide (a<b))):=rfl
theorem FW:fLt m (.str x) m' (.str y) Q=Q .sh (.bl (ltS x y)):=rfl
theorem FJ:fEq m (.int a) m' (.int b) Q=Q .sh (.bl (decide (a=b))):=rfl
theorem Fy:fEq m (.str x) m' (.str y) Q=Q .sh (.bl (decide (x=y))):=rfl
theorem Et {k l:Bool}:fEq m (.bl k) m' (.bl l) Q=Q .sh (.bl (decide (k=l))):=rfl
theorem Hr:fEq m (.list xs) m' d Q=(okD 12 (.list xs)=true/\okD 12 d=true/\Q .sh (.bl (eqD (.list xs) d))):=by cases d <;> rfl
theorem Hb:fEq m (.tup xs) m' d Q=(okD 12 (.tup xs)=true/\okD 12 d=true/\Q .sh (.bl (eqD (.tup xs) d))):=by cases d <;> rfl
theorem HB:fEq m .non m' d Q=(okD 12 .non=true/\okD 12 d=true/\Q .sh (.bl (eqD .non d))):=by cases d <;> rfl
theorem Gv:fNe m (.int a) m' (.int b) Q=Q .sh (.bl (!decide (a=b))):=rfl
theorem E_:fNe m (.str x) m' (.str y) Q=Q .sh (.bl (!decide (x=y))):=rfl
theorem Hv:fNe m (.list xs) m' d Q=(okD 12 (.list xs)=true/\okD 12 d=true/\Q .sh (.bl (!eqD (.list xs) d))):=by cases d <;> rfl
theorem Hf:fNe m (.tup xs) m' d Q=(okD 12 (.tup xs)=true/\okD 12 d=true/\Q .sh (.bl (!eqD (.tup xs) d))):=by cases d <;> rfl
theorem Ht:fNe m .non m' d Q=(okD 12 .non=true/\okD 12 d=true/\Q .sh (.bl (!eqD .non d))):=by cases d <;> rfl
theorem Hl {neg:Bool}:fIn neg m (.str x) m' (.str y) Q=Q .sh (.bl (if neg then !inS x y else inS x y)):=rfl
theorem GF {neg:Bool}:fIn neg m d m' (.list ys) Q=(dB d=true/\ys.all dB=true/\Q .sh (.bl (if neg then !inD d ys else inD d ys))):=rfl
theorem HD {neg:Bool}:fIn neg m d m' (.tup ys) Q=(dB d=true/\ys.all dB=true/\Q .sh (.bl (if neg then !inD d ys else inD d ys))):=rfl
theorem GJ {neg:Bool}:fIn neg m d m' (.dK kvs) Q = ∃ k,d.key1=some k/\Q .sh (.bl (if neg then !(getG kvs k).isSome else (getG kvs k).isSome)):=rfl
theorem Hw {neg:Bool}:fIn neg m (.tup xs) m' (.dT kts) Q = ∃ ks,dO xs=some ks/\Q .sh (.bl (if neg then !(getG kts ks).isSome else (getG kts ks).isSome)):=rfl
theorem GC:fNeg m (.int a) Q=Q .sh (.int (-a)):=rfl
theorem Hc:fIx m (.list xs) m' (.int a) Q = ∃ d,atI xs a=some d/\onK d (f:=fun d=>Q (itm m d) d) ⟨⟩:=rfl
theorem GX:fIx m (.tup xs) m' (.int a) Q = ∃ d,atI xs a=some d/\onK d (f:=fun d=>Q (itm m d) d) ⟨⟩:=rfl
theorem Hx:fIx m (.str x) m' (.int a) Q = ∃ c,atI x.cps.toList a=some c/\Q .sh (.str ⟨#[c]⟩):=rfl
theorem HF:fIx m (.dK kvs) m' d Q = ∃ k d',d.key1=some k/\getG kvs k=some d'/\onK d' (f:=fun d'=>Q (itm m d') d') ⟨⟩:=rfl
theorem Hk:fIx m (.dT kts) m' (.tup ys) Q = ∃ ks d',dO ys=some ks/\getG kts ks=some d'/\onK d' (f:=fun d'=>Q (itm m d') d') ⟨⟩:=rfl
theorem Fj:fLen m (.str x) Q=Q .sh (.int x.length):=rfl
theorem Fi:fLen m (.list xs) Q=Q .sh (.int xs.length):=rfl
theorem Gb:fLen m (.tup xs) Q=Q .sh (.int xs.length):=rfl
theorem Gr:fLen m (.dK kvs) Q=Q .sh (.int kvs.length):=rfl
theorem Ff:fLen m (.dT kts) Q=Q .sh (.int kts.length):=rfl
theorem HN {T:String}:fIsi T m d Q=Q .sh (.bl (isiT d.ty T)):=rfl
theorem DR:qP m (.list xs) Q=((flats xs=true/\Q (.ow true) (.list xs))\/(m=.sh/\Q (.ow false) (.list xs))):=rfl
theorem El:qP m (.tup xs) Q=((flats xs=true/\Q (.ow true) (.list xs))\/(m=.sh/\Q (.ow false) (.list xs))):=rfl
theorem DQ:qP m (.dT kts) Q=Q (.ow true) (.list (kts.map fun kv=>.tup (kv.1.map keyD))):=rfl
theorem wSl_ {tl th:WO}:wSl te tl th ρ Q=te ρ fun m x=>tl ρ fun lo=>th ρ fun hi=>fSl m x lo hi Q:=rfl
theorem Cz {O:Option Int->Prop}:nU ρ O=O none:=rfl
def int' (d:D) (k:Int->Prop):Prop:=match d with
 | .int i=>k i
 | _=>False
theorem Er {k:Int->Prop}:int' (.int a) k=k a:=rfl
theorem Fe {O:Option Int->Prop}:jo te ρ O=te ρ fun _ x=>onK x (f:=fun x=>int' x fun i=>O (some i)) ⟨⟩:=by unfold jo onK int'; rfl
theorem Hz {lo hi:Option Int}:fSl m (.str x) lo hi Q=Q .sh (.str (cutS x lo hi)):=rfl
theorem GK {lo hi:Option Int}:fSl m (.list xs) lo hi Q=((flats xs=true/\Q (.ow true) (.list (cutG xs lo hi)))\/(m=.sh/\Q (.ow false) (.list (cutG xs lo hi)))):=rfl
theorem HR {lo hi:Option Int}:fSl m (.tup xs) lo hi Q=(flats xs=true/\¬ (HT.sIx xs.length 0 lo=0/\HT.sIx xs.length xs.length hi=xs.length)/\Q .sh (.tup (cutG xs lo hi))):=rfl
end
-- texts
def str' (d:D) (k:Str->Prop):Prop:=match d with
 | .str x=>k x
 | _=>False
theorem Fz {x:Str} {k:Str->Prop}:str' (.str x) k=k x:=rfl
def list' (d:D) (k:List D->Prop):Prop:=match d with
 | .list x=>k x
 | _=>False
theorem Eb {x:List D} {k:List D->Prop}:list' (.list x) k=k x:=rfl
theorem CZ:iB to' te ρ Q=to' ρ fun _ x=>onK x (f:=fun x=>str' x fun z=>te ρ fun _ y=>onK y (f:=fun y=>list' y fun ys=>∃ zs,gO ys=some zs/\(zs.map (·.length)).sum+zs.length * z.length<=16777216/\Q .sh (.str (Str.join z zs))) ⟨⟩) ⟨⟩:=by unfold iB onK str' list'; rfl
-- places
theorem wpN_ {P:Bool->D->(Bool->D->Env)->Prop}:wpN i ρ P=onK ρ[i]? (f:=fun o=>match o with
 | some (some (.ow fl d))=>P fl d fun fl2 d2=>ρ.set i (some (.ow fl2 d2))
 | _=>False) ⟨⟩:=rfl
def fl' (o:Option Bool) (k:Bool->Prop):Prop:=match o with
 | some b=>k b
 | none=>False
theorem CJ {b:Bool} {k:Bool->Prop}:fl' (some b) k=k b:=rfl
theorem Hm:wApp p te E ρ=p ρ fun fl d up=>onK d (f:=fun d=>list' d fun xs=>te ρ fun m x=>xs.length<sizeLine/\onK (jy fl m x) (f:=fun o=>fl' o fun fl2=>E.nx (up fl2 (.list (xs++[x])))) ⟨⟩) ⟨⟩:=by unfold wApp onK list' fl'; rfl
theorem Ef:sZ ρ Q=Q (.ow true) (.dT []):=rfl
def dct (d y:D) (k1:List (Key × D)->Prop) (k2:List (List Key × D)->List D->Prop):Prop:=match d with
 | .dK kvs=>k1 kvs
 | .dT kvs=>match y with
  | .tup ys=>k2 kvs ys
  | _=>False
 | _=>False
theorem G7 {y:D} {kvs:List (Key × D)} {k1:List (Key × D)->Prop} {k2:List (List Key × D)->List D->Prop}:dct (.dK kvs) y k1 k2=k1 kvs:=rfl
theorem Gz {ys:List D} {kvs:List (List Key × D)} {k1:List (Key × D)->Prop} {k2:List (List Key × D)->List D->Prop}:dct (.dT kvs) (.tup ys) k1 k2=k2 kvs ys:=rfl
theorem Ft {tk tv:WE}:xf p tk tv E ρ=tv ρ fun _ x=>p ρ fun fl d up=>tk ρ fun _ y=>x.flat=true/\onK d (f:=fun d=>dct d y (fun kvs=>∃ k,y.key1=some k/\kvs.length<sizeLine/\E.nx (up fl (.dK (putG kvs k x)))) (fun kvs ys=>∃ ks,dO ys=some ks/\kvs.length<sizeLine/\E.nx (up fl (.dT (putG kvs ks x))))) ⟨⟩:=by
 unfold xf onK dct
 rfl
-- loops
variable {LQ:List D->Prop}
theorem HW {wi:WI} {g:WG} {b:WS}:wFor wi g b E ρ=wi ρ fun ds=>nq g b E ds ρ:=rfl
theorem Dm:eX te ρ LQ=te ρ fun m d=>qW m/\onK d (f:=fun d=>list' d LQ) ⟨⟩:=by unfold eX onK list'; rfl
def tup' (d:D) (k:List D->Prop):Prop:=match d with
 | .tup x=>k x
 | _=>False
theorem FZ {x:List D} {k:List D->Prop}:tup' (.tup x) k=k x:=rfl
theorem DW:cQ te ρ LQ=te ρ fun _ d=>onK d (f:=fun d=>int' d fun j=>j<=16777216/\-(2 ^ 62)<=j/\LQ (ik 0 j.toNat)) ⟨⟩:=by unfold cQ onK int'; rfl
theorem CK:qW .sh=True:=rfl
theorem Cp {b:Bool}:qW (.ow b)=True:=rfl
theorem Ck:qW .bo=False:=rfl
theorem gN_ {N:Env->Prop}:gN i d ρ N=N (ρ.set i (some (.sh d))):=rfl
theorem gT_ {gs:WGs} {N:Env->Prop}:gT n gs d ρ N=onK d (f:=fun d=>tup' d fun ds=>ds.length=n/\gs ds ρ N) ⟨⟩:=by unfold gT onK tup'; rfl
theorem Ga {g:WG} {gs:WGs} {ds:List D} {N:Env->Prop}:dU g gs (d :: ds) ρ N=g d ρ fun ρ'=>gs ds ρ' N:=rfl
theorem Hu {N:Env->Prop}:qj [] ρ N=N ρ:=by simp [qj]
theorem F_ {wi:WI} {g:WG} {tn:Nat} {ix:List Nat}:dC wi g tt te tn ix ρ Q=wi ρ fun ds=>e_ g tt te ds (qM tn ix ρ) fun out=>Q (.ow true) (.list out):=rfl
end
theorem B {c:Bool} {f:Bool->Prop} {k:Kt f} (h1:c=true->f true) (h2:c=false->f false):onK c k:=by
 cases c with
 | true=>exact h1 rfl
 | false=>exact h2 rfl
theorem D {p:Prop} [Decidable p] {f:Bool->Prop} {k:Kt f} (h1:p->f true) (h2:¬ p->f false):onK (decide p) k :=
 B (fun h=>h1 (of_decide_eq_true h)) fun h=>h2 (of_decide_eq_false h)
theorem T {c:Bool} {f:Bool->Prop} {k:Kt f} (h:c=true) (h1:f true):onK c k:=by subst h; exact h1
theorem F {c:Bool} {f:Bool->Prop} {k:Kt f} (h:c=false) (h1:f false):onK c k:=by subst h; exact h1
end L2.Q.R
namespace L2
open PySem PySem.Spec PyProof.Rows
end L2
namespace L2.Q
open PySem PySem.Spec PyProof.Rows
section
variable {K:PySem.W.Frag} {p:Pos}
def Fv:W1:=fun _ x Q=>match x with
 | .list xs=>∃ ks b,xs=ks.map keyD/\ks.length<=63/\(∀ k∈ks,isI k=b)/\∀ ms:List Key,ms.Perm ks->(ms.Pairwise fun a b=>lt1 b a=false)->Q (.ow true) (.list (ms.map keyD))
 | .dK kvs=>∃ b,kvs.length<=63/\(∀ p∈kvs,isI p.1=b)/\∀ ms:List Key,ms.Perm (kvs.map (·.1))->(ms.Pairwise fun a b=>lt1 b a=false)->Q (.ow true) (.list (ms.map keyD))
 | _=>False
section
variable {Hs H:Hp} {fl:Bool}
theorem ak.erase {ds:List D} {vs:List V} {As:List Addr} (k:Nat) (r:ak K Hs H fl ds vs As):∃ Bs,Bs.Sublist As/\ak K Hs H fl (ds.eraseIdx k) (vs.eraseIdx k) Bs:=by
 induction ds generalizing vs As k with
 | nil =>
  obtain ⟨rfl,rfl⟩:=r.n0
  exact ⟨[],List.Sublist.refl _,.nil⟩
 | cons d ds ih =>
  obtain ⟨u,us,A,B,rfl,rfl,r,rs⟩:=r.c
  cases k with
  | zero=>exact ⟨B,xas _ _,rs⟩
  | succ k =>
   obtain ⟨C,sb,q⟩:=ih k rs
   exact ⟨A++C,sb.append_left _,.cons r q⟩
end
end
abbrev WIL:=Env->(List D->Prop)->Prop
section
variable {X:Cx} {K:PySem.W.Frag}
theorem cG {i:Nat} {x:Str} {tg iter elt:Expr} {ifs:List Expr} {scope:Scope} {pos pos' spos:Pos} {wi:WI} {g:WG} {tc:WT} {te:WE} {tn cn:List Str} {ix:List Nat} (hN:X.N.Nodup) (hi0:X.N[i]? = some x) (hx:Loc X.env.scope x) (hc:X.calm=true)
  (hi:QIb X K tg iter wi) (O:aO X scope tn cn ix)
  (hg:∀ C fp s₃ H₃,QG (a_ X scope C (tn++cn) fp s₃ H₃) K tg g) (hcs:∀ C fp s₃ H₃,QTs (a_ X scope C (tn++cn) fp s₃ H₃) K ifs tc) (he:∀ C fp s₃ H₃,QE (a_ X scope C (tn++cn) fp s₃ H₃) K elt te)
  (hsw:swapsWith (.ListComp elt [⟨tg,iter,ifs,0⟩] scope pos) (some (.Name x pos')) spos.line X.env=pure true:=by rfl)
  (hs:∀ x,foldedSetIterable iter X.env x=pure x:=by intro _; rfl) (hf:X.fn x=true\/X.env.scope.names.lookup x=some .local:=by first | exact .inl rfl | exact .inr rfl | assumption) :
  QS X K L (.Assign [.Name x pos'] (.ListComp elt [⟨tg,iter,ifs,0⟩] scope pos) spos) (wSet i (dC wi g tc te tn.length ix)) :=
 PS.imp (qD hN hi0 hx hc hi O hg hcs he hsw hs hf) fun D σ H hx=>fj hx fun Hs ρ tot E sr h k1 k2 k3 k4=>by
  refine iJ ⟨Hs,ρ,tot,_,sr,h,fun v H1 Hs1 m d As g1 r1 f1 q1=>?_⟩
  have q1:match asg m d with
   | some sl=>E.nx (ρ.set i (some sl))
   | none=>False:=q1
  cases e:asg m d with
  | none=>rw [e] at q1; exact q1.elim
  | some sl =>
   rw [e] at q1
   obtain ⟨tot',s'⟩:=(sr.grow g1).set i r1 f1.1 (fun a ha=>⟨(f1.2 a ha).1,fun m=>(sr.sr.own a m).ne (f1.2 a ha).2⟩) e
   exact k1 _ H1 Hs1 _ tot' g1.sh s' q1
end
end L2.Q
namespace L2.Q.R
open PySem PySem.Spec PyProof.Rows L2.Q
section
variable {ρ:Env} {Q:Md->L2.Q.D->Prop} {te:WE} {i:Nat} {d:L2.Q.D} {p:WP} {a:Addr} {b:Bool} {LQ:List L2.Q.D->Prop}
theorem Ey {f:Option Sl->Prop} {k:Kt f}:onK (some (.lk a b d)) k=f (some (.lk a b d)):=rfl
theorem Eu {f:Option (Option Sl)->Prop} {k:Kt f}:onK (some (some (.lk a b d))) k=f (some (some (.lk a b d))):=rfl
theorem Dw:useS (some (some (.lk a b d))) Q=Q .bo d:=rfl
def own' (o:Option (Option Sl)) (k:Bool->L2.Q.D->Prop):Prop:=match o with
 | some (some (.ow fl d))=>k fl d
 | _=>False
theorem Ec {k:Bool->L2.Q.D->Prop}:own' (some (some (.ow b d))) k=k b d:=rfl
theorem Ek:gA te ρ LQ=te ρ fun _ d=>onK d (f:=fun d=>list' d LQ) ⟨⟩:=by unfold gA onK list'; rfl
def wpAt (d:L2.Q.D) (i:Int) (P:Bool->L2.Q.D->(Bool->L2.Q.D->Env)->Prop) (up:Bool->L2.Q.D->Env):Prop:=match d with
 | .list ds=>∃ j d',ixN ds.length i=some j/\ds[j]? = some d'/\d'.flat=false/\onK d' (f:=fun d'=>P true d' fun fl2 d2=>up fl2 (.list (ds.set j d2))) ⟨⟩
 | .tup ds=>∃ j d',ixN ds.length i=some j/\ds[j]? = some d'/\d'.flat=false/\onK d' (f:=fun d'=>P true d' fun fl2 d2=>up fl2 (.tup (ds.set j d2))) ⟨⟩
 | _=>False
section
variable {P:Bool->L2.Q.D->(Bool->L2.Q.D->Env)->Prop} {up:Bool->L2.Q.D->Env} {ds:List L2.Q.D} {j:Int}
theorem FQ:wpAt (.list ds) j P up = ∃ k d',ixN ds.length j=some k/\ds[k]? = some d'/\d'.flat=false/\onK d' (f:=fun d'=>P true d' fun fl2 d2=>up fl2 (.list (ds.set k d2))) ⟨⟩:=rfl
theorem Gq:wpAt (.tup ds) j P up = ∃ k d',ixN ds.length j=some k/\ds[k]? = some d'/\d'.flat=false/\onK d' (f:=fun d'=>P true d' fun fl2 d2=>up fl2 (.tup (ds.set k d2))) ⟨⟩:=rfl
theorem G9:wpIx p te ρ P=p ρ fun fl d up=>te ρ fun _ y=>fl=true/\onK y (f:=fun y=>int' y fun i=>onK d (f:=fun d=>wpAt d i P up) ⟨⟩) ⟨⟩:=by
 unfold wpIx onK int' wpAt
 rfl
end
end
end L2.Q.R
namespace L2
open PySem PySem.Spec PyProof.Rows Builtin Builtin.Str Builtin.Int
end L2
namespace L2
open PySem PySem.Spec PyProof.Rows
end L2
namespace L2.Q
open PySem PySem.Spec PyProof.Rows
end L2.Q
namespace L2.Q.R
open PySem PySem.Spec PyProof.Rows L2.Q
end L2.Q.R
namespace L2.Q
open PySem PySem.Spec PyProof.Rows
theorem bF {g:WG} {tc:WT} {te:WE} (O:Nat->List D->Prop) (Iv:Env->Prop):∀ (xs:List D) (i:Nat) (pre:List D) (ρ:Env) (k:List D->Prop),Iv ρ->O i pre ->
  (∀ j x,xs[j]? = some x->∀ ρ,Iv ρ->∀ out,O (i+j) out->∀ N1:Env->Prop,∀ N2:Env->D->Prop,(∀ ρ' d,Iv ρ'->O (i+j+1) (out++[d])->N2 ρ' d)->g x ρ fun ρ1=>tc ρ1 fun b=>if b=true then te ρ1 fun m d=>okEl m d/\N2 ρ1 d else N1 ρ1) ->
  (∀ out,O (i+xs.length) (pre++out)->k out)->e_ g tc te xs ρ k
 | [],i,pre,_,k,_,h0,_,h=>h [] (by simpa using h0)
 | x :: xs,i,pre,ρ,k,iv,h0,hs,h=>by
  refine hs 0 x rfl ρ iv pre h0 _ _ (fun ρ' d iv' o'=>?_)
  refine bF O Iv xs (i+1) (pre++[d]) ρ' _ iv' o' (fun j y hy ρ iv out ho=>?_) fun out ho=>?_
  ·have:=hs (j+1) y (by simpa using hy) ρ iv out (by rwa [show i+(j+1)=i+1+j by lia])
   rwa [show i+(j+1)+1=i+1+j+1 by lia] at this
  ·refine h (d :: out) ?_
   rw [xbZ] at ho
   rwa [xaU,show i+(xs.length+1)=i+1+xs.length by lia]
end L2.Q
namespace TS
open PySem PySem.SetTable
def fk:Nat->Nat->Nat
 | 0,s=>s
 | k+1,s=>5 * fk k s+1
theorem By (a b s:Nat):fk (a+b) s=fk b (fk a s):=by
 induction b with
 | zero=>rfl
 | succ b ih=>show 5 * fk (a+b) s+1=5 * fk b (fk a s)+1; rw [ih]
theorem tU (n s:Nat):4 * fk n s+1=5 ^ n * (4 * s+1):=by
 induction n with
 | zero=>simp [fk]
 | succ n ih =>
  show 4 * (5 * fk n s+1)+1=5 ^ (n+1) * (4 * s+1)
  rw [xbn,xcs (5 ^ n) 5,xbT,<- ih]; lia
theorem xr (m:Nat):∃ q,5 ^ 2 ^ m=1+2 ^ (m+2) * q/\q % 2=1:=by
 induction m with
 | zero=>exact ⟨1,by decide,by decide⟩
 | succ m ih =>
  obtain ⟨q,e,o⟩:=ih
  refine ⟨q+2 ^ (m+1) * (q * q),?_,?_⟩
  ·have hp:5 ^ 2 ^ (m+1)=(5 ^ 2 ^ m) ^ 2:=by rw [xbn 2 m,Nat.pow_mul]
   rw [hp,e]
   clear e hp
   have e1:2 ^ (m+1+2)=2 * 2 ^ (m+2):=by rw [show m+1+2=(m+2)+1 by exact Nat.add_assoc ..,xbn]; lia
   have e2:2 ^ (m+2)=2 * 2 ^ (m+1):=by rw [show m+2=(m+1)+1 by rfl,xbn]; lia
   rw [e1,e2]
   generalize 2 ^ (m+1)=y
   rw [Nat.pow_two]
   simp only [Nat.mul_add,Nat.add_mul,Nat.one_mul,Nat.mul_one]
   have a1:2 * y * q * (2 * y * q)=2 * (2 * y) * (y * (q * q)):=by
    simp only [xbT,Nat.mul_left_comm,xcs]
   have a2:2 * (2 * y) * q=2 * y * q+2 * y * q:=by
    rw [xbT 2 (2 * y) q]; lia
   rw [a1,a2]; lia
  ·have:2 ^ (m+1) * (q * q) % 2=0:=by
    rw [xbn,xcs (2 ^ m) 2,xbT,Nat.mul_mod_right]
   lia
theorem yP (m x:Nat):∃ r,fk (2 ^ m) x=x+2 ^ m * r/\r % 2=1:=by
 obtain ⟨q,e,o⟩:=xr m
 have c:=tU (2 ^ m) x
 rw [e] at c
 refine ⟨q * (4 * x+1),?_,?_⟩
 ·have e2:2 ^ (m+2)=4 * 2 ^ m:=by rw [Nat.pow_add]; lia
  rw [e2,Nat.add_mul,Nat.one_mul,xbT,xbT] at c
  lia
 ·rw [Nat.mul_mod,o,Nat.one_mul]; lia
theorem BK (m s e:Nat):∃ k,k+1<=2 ^ m/\fk k s % 2 ^ m=e % 2 ^ m:=by
 induction m with
 | zero=>exact ⟨0,by decide,by simp [Nat.mod_one]⟩
 | succ m ih =>
  obtain ⟨k,hk,h⟩:=ih
  have hp:2 ^ (m+1)=2 ^ m * 2:=xbn ..
  have hpos:0<2 ^ m:=Nat.pow_pos (by decide)
  have key:∀ a:Nat,a % (2 ^ m * 2)=a % 2 ^ m+2 ^ m * (a / 2 ^ m % 2):=fun a=>Nat.mod_mul
  by_cases c:fk k s / 2 ^ m % 2=e / 2 ^ m % 2
  ·exact ⟨k,by walk_at "s4",by rw [hp,key,key,h,c]⟩
  ·refine ⟨k+2 ^ m,by lia,?_⟩
   obtain ⟨r,er,ro⟩:=yP m (fk k s)
   rw [By,er,hp,key,key,Nat.add_mul_mod_self_left,h,Nat.add_mul_div_left _ _ hpos]
   have:(fk k s / 2 ^ m+r) % 2=e / 2 ^ m % 2:=by lia
   rw [this]
def adv (M:Nat) (p:Probe):Probe :=
 if p.more>0 then { p with j:=p.j+1,more:=p.more - 1 } else
 { p with j:=(leap M p.i p.perturb).1,more:=runEnd M (leap M p.i p.perturb).1 - (leap M p.i p.perturb).1,i:=(leap M p.i p.perturb).1,perturb:=(leap M p.i p.perturb).2 }
def ps (M:Nat) (h:Int):Nat->Probe
 | 0=>{ j:=bits h % (M+1),more:=runEnd M (bits h % (M+1)) - bits h % (M+1),i:=bits h % (M+1),perturb:=bits h,dummy:=none }
 | n+1=>adv M (ps M h n)
def J (M:Nat) (h:Int) (n:Nat):Nat:=(ps M h n).j
theorem ph {M i:Nat} (h:i<=M):i<=runEnd M i/\runEnd M i<=M/\runEnd M i<=i+9:=by
 unfold runEnd; split <;> lia
theorem zy (M:Nat) (h:Int):∀ n,(ps M h n).i<=M/\(ps M h n).j+(ps M h n).more<=M/\(ps M h n).dummy=none/\(ps M h n).more<=9
 | 0=>by
  have h0:bits h % (M+1)<=M:=xb0 (xcf _ (xbN _))
  have:=ph h0
  exact ⟨h0,by show bits h % (M+1)+(runEnd M (bits h % (M+1)) - bits h % (M+1))<=M; lia,rfl,by show runEnd M (bits h % (M+1)) - bits h % (M+1)<=9; lia⟩
 | n+1=>by
  obtain ⟨a,b,c,d⟩:=zy M h n
  show (adv M (ps M h n)).i<=M/\_/\(adv M (ps M h n)).dummy=none/\_
  unfold adv
  by_cases hm:(ps M h n).more>0
  ·simp only [hm,if_true]
   show _/\(adv M (ps M h n)).j+(adv M (ps M h n)).more<=M/\_/\(adv M (ps M h n)).more<=9
   simp only [adv,hm,if_true]
   exact ⟨a,by lia,c,by walk_at "s4"⟩
  ·simp only [hm,if_false]
   show _/\(adv M (ps M h n)).j+(adv M (ps M h n)).more<=M/\_/\(adv M (ps M h n)).more<=9
   simp only [adv,hm,if_false]
   have h0:(leap M (ps M h n).i (ps M h n).perturb).1<=M:=xb0 (xcf _ (xbN _))
   have:=ph h0
   exact ⟨h0,by lia,c,by lia⟩
theorem J_le (M:Nat) (h:Int) (n:Nat):J M h n<=M:=by
 have:=zy M h n
 unfold J; lia
theorem rP (M:Nat) (h:Int) (n:Nat):∀ r,r<=(ps M h n).more->ps M h (n+r)={ ps M h n with j:=(ps M h n).j+r,more:=(ps M h n).more - r }
 | 0,_=>rfl
 | r+1,hr=>by
  show adv M (ps M h (n+r))=_
  rw [rP M h n r (by exact xaP ‹_›)]
  unfold adv
  rw [if_pos (show (ps M h n).more - r>0 by lia)]
  simp only [Probe.mk.injEq,true_and,and_true]
  walk_at "s1"
def lp (M:Nat) (h:Int):Nat->Nat × Nat
 | 0=>(bits h % (M+1),bits h)
 | k+1=>leap M (lp M h k).1 (lp M h k).2
def blk (M:Nat) (h:Int):Nat->Nat
 | 0=>0
 | k+1=>blk M h k+(runEnd M (lp M h k).1 - (lp M h k).1)+1
theorem Aa (M:Nat) (h:Int):∀ k,(lp M h k).1<=M
 | 0=>xb0 (xcf _ (xbN _))
 | k+1=>xb0 (xcf _ (xbN _))
theorem rT (M:Nat) (h:Int):∀ k,blk M h k<=10 * k
 | 0=>xah _
 | k+1=>by
  have:=rT M h k
  have:=ph (Aa M h k)
  show blk M h k+_+1<=_; lia
theorem pJ (M:Nat) (h:Int):∀ k,ps M h (blk M h k)={ j:=(lp M h k).1,more:=runEnd M (lp M h k).1 - (lp M h k).1,i:=(lp M h k).1,perturb:=(lp M h k).2,dummy:=none }
 | 0=>rfl
 | k+1=>by
  have ih:=pJ M h k
  have e:=rP M h (blk M h k) (runEnd M (lp M h k).1 - (lp M h k).1) (by rw [ih]; exact xah _)
  show adv M (ps M h (blk M h k+(runEnd M (lp M h k).1 - (lp M h k).1)))=_
  rw [e,ih]
  unfold adv
  rw [if_neg (by simp)]
  rfl
theorem xG (M:Nat) (h:Int):∀ k,(lp M h k).2=bits h / 32 ^ k
 | 0=>by simp [lp]
 | k+1=>by
  show (lp M h k).2 / 32=_
  rw [xG M h k,Nat.div_div_eq_div_mul,xbn]
theorem zz (h:Int):bits h<2 ^ 64:=by
 unfold bits
 have h1:=xcb h (show (2 ^ 64:Int)≠0 by decide)
 have h2:=xbV h (show (0:Int)<2 ^ 64 by decide)
 lia
theorem rG (M:Nat) (h:Int):∀ k,(lp M h (13+k)).1 % (M+1)=fk k (lp M h 13).1 % (M+1)
 | 0=>rfl
 | k+1=>by
  have e:(lp M h (13+k)).2=0:=by
   rw [xG]
   refine Nat.div_eq_of_lt (xav (zz h) ?_)
   exact xaq (by decide:2 ^ 64<=32 ^ 13) (Nat.pow_le_pow_right (by decide) (by exact xbQ _ _))
  show (leap M (lp M h (13+k)).1 (lp M h (13+k)).2).1 % (M+1)=_
  unfold leap
  rw [e]
  show ((lp M h (13+k)).1 * 5+1+0 / 32) % (M+1) % (M+1)=(5 * fk k (lp M h 13).1+1) % (M+1)
  rw [Nat.mod_mod,Nat.zero_div,xcr,Nat.add_mod,Nat.mul_mod,rG M h k,<- Nat.mul_mod,<- Nat.add_mod,xcs]
theorem cover {M m:Nat} (hM:M+1=2 ^ m) (h:Int) {e:Nat} (he:e<=M):∃ k,k<=M+13/\(lp M h k).1=e:=by
 obtain ⟨k,hk,q⟩:=BK m (lp M h 13).1 e
 rw [<- hM] at hk q
 refine ⟨13+k,by lia,?_⟩
 have:=rG M h k
 rw [q] at this
 rwa [Nat.mod_eq_of_lt (xaV (Aa M h _)),Nat.mod_eq_of_lt (xaV he)] at this
theorem Be (M:Nat) (h:Int) (k:Nat):J M h (blk M h k)=(lp M h k).1:=by unfold J; rw [pJ]
theorem qt {M m:Nat} (hM:M+1=2 ^ m) (h:Int) (occ:Nat->Bool) {e:Nat} (he:e<=M) (hf:occ e=false):∃ n,n<=10 * (M+13)/\occ (J M h n)=false/\∀ k<n,occ (J M h k)=true:=by
 obtain ⟨k,hk,q⟩:=cover hM h he
 have hb:=rT M h k
 have hB:occ (J M h (blk M h k))=false:=by rw [Be,q]; exact hf
 generalize blk M h k=b at hb hB
 have go:∀ b,occ (J M h b)=false->∃ n,n<=b/\occ (J M h n)=false/\∀ k<n,occ (J M h k)=true:=by
  intro b
  induction b using Nat.strongRecOn with
  | ind b ih =>
   intro hB
   by_cases c:∃ k,k<b/\occ (J M h k)=false
   ·obtain ⟨k,h1,h2⟩:=c
    obtain ⟨n,a1,a2,a3⟩:=ih k h1 h2
    exact ⟨n,by walk_at "s2",a2,a3⟩
   ·refine ⟨b,xah _,hB,fun k hk=>?_⟩
    cases z:occ (J M h k) with
    | true=>rfl
    | false=>exact absurd ⟨k,hk,z⟩ c
 obtain ⟨n,a1,a2,a3⟩:=go b hB
 exact ⟨n,by lia,a2,a3⟩
def Up (xs:Array Nat):Prop:=∀ i j:Nat,i<j->j<xs.size->xs.getD i 0<xs.getD j 0
theorem pY {xs:Array Nat} {i d d':Nat} (h:i<xs.size):xs.getD i d=xs.getD i d':=by simp [Array.getD,h]
theorem kj {xs:Array Nat} (U:Up xs) (j:Nat):∀ (fuel lo hi:Nat),hi - lo<=fuel->lo<=hi->hi<=xs.size->(∀ i<lo,xs.getD i 0<j)->(∀ i,hi<=i->i<xs.size->j<=xs.getD i 0) ->
  below.go xs j fuel lo hi<=xs.size/\(∀ i<below.go xs j fuel lo hi,xs.getD i 0<j)/\(∀ i,below.go xs j fuel lo hi<=i->i<xs.size->j<=xs.getD i 0)
 | 0,lo,hi,hf,h1,h2,h3,h4=>by
  obtain rfl:lo=hi:=by lia
  exact ⟨h2,h3,h4⟩
 | fuel+1,lo,hi,hf,h1,h2,h3,h4=>by
  unfold below.go
  by_cases c:lo<hi
  ·rw [if_pos c]
   dsimp only
   have hm:(lo+hi) / 2<xs.size:=by lia
   by_cases d:xs.getD ((lo+hi) / 2) j<j
   ·rw [if_pos d]
    rw [pY (d':=0) hm] at d
    refine kj U j fuel _ _ (by lia) (by lia) h2 (fun i hi'=>?_) h4
    by_cases e:i=(lo+hi) / 2
    ·rw [e]; exact d
    ·exact xco (U i _ (by lia) hm) d
   ·rw [if_neg d]
    rw [pY (d':=0) hm] at d
    refine kj U j fuel _ _ (by lia) (by lia) (by exact xaP ‹_›) h3 fun i hi' hs=>?_
    by_cases e:i=(lo+hi) / 2
    ·rw [e]; exact xaW ‹_›
    ·have:=U ((lo+hi) / 2) i (by lia) hs; lia
  ·rw [if_neg c]
   obtain rfl:lo=hi:=by lia
   exact ⟨h2,h3,h4⟩
theorem aP {xs:Array Nat} (U:Up xs) (j:Nat):below xs j<=xs.size/\(∀ i<below xs j,xs.getD i 0<j)/\(∀ i,below xs j<=i->i<xs.size->j<=xs.getD i 0) :=
 kj U j xs.size 0 xs.size (by exact xcn _ _) (by exact xaz _) (xah _) (fun i h=>absurd h (xbw i)) fun i h1 h2=>by lia
theorem below_at {xs:Array Nat} (U:Up xs) {i:Nat} (h:i<xs.size):below xs (xs.getD i 0)=i:=by
 obtain ⟨a,b,c⟩:=aP U (xs.getD i 0)
 by_cases h1:below xs (xs.getD i 0)<i
 ·have:=c _ (xah _) (by walk_at "s2")
  have:=U _ i h1 h
  lia
 ·by_cases h2:i<below xs (xs.getD i 0)
  ·have:=b i h2; exact absurd ‹_› (xa9 _)
  ·lia
theorem rD {xs:Array Nat} (U:Up xs) {i:Nat} (h:i<xs.size):below xs (xs.getD i 0+1)=i+1:=by
 obtain ⟨a,b,c⟩:=aP U (xs.getD i 0+1)
 by_cases h1:below xs (xs.getD i 0+1)<i+1
 ·have:=c i (by lia) h; exact absurd ‹_› (xa9 _)
 ·by_cases h2:i+1<below xs (xs.getD i 0+1)
  ·have:=b (i+1) h2
   have:=U i (i+1) (by exact xah _) (by walk_at "s1"); lia
  ·lia
def taken (xs:Array Nat) (j:Nat):Bool:=xs[below xs j]? == some j
theorem su {xs:Array Nat} {i j:Nat} (h:xs[i]? = some j):i<xs.size/\xs.getD i 0=j:=by
 obtain ⟨h1,h2⟩:=xbv.mp h
 exact ⟨h1,by simp [Array.getD,h1,h2]⟩
theorem tX {xs:Array Nat} {i:Nat} (h:i<xs.size):xs[i]? = some (xs.getD i 0):=by simp [Array.getD,h]
theorem dH {xs:Array Nat} (U:Up xs) {j:Nat}:taken xs j=true↔∃ i,i<xs.size/\xs.getD i 0=j:=by
 unfold taken
 rw [beq_iff_eq]
 constructor
 ·intro h; exact ⟨_,su h⟩
 ·rintro ⟨i,h,rfl⟩
  rw [below_at U h]
  exact tX h
theorem gU {xs:Array Nat} (U:Up xs) {j:Nat} (h:taken xs j=true):below xs j<xs.size/\xs.getD (below xs j) 0=j:=by
 unfold taken at h
 rw [beq_iff_eq] at h
 exact su h
theorem bL {α:Type} (xs:Array α) {p:Nat} (x:α) (h:p<=xs.size):(insertAt xs p x).size=xs.size+1:=by
 unfold insertAt
 simp
 lia
theorem ins_get {α:Type} (xs:Array α) {p:Nat} (x:α) (h:p<=xs.size) (i:Nat):(insertAt xs p x)[i]? = if i<p then xs[i]? else if i=p then some x else xs[i - 1]? := by
 unfold insertAt
 have hs:((xs.extract 0 p).push x).size=p+1:=by simp; exact Nat.min_eq_left ‹_›
 by_cases h1:i<p
 ·rw [if_pos h1,Array.getElem?_append_left (by lia),Array.getElem?_push,if_neg (by simp; lia),Array.getElem?_extract]
  rw [if_pos (by lia)]; simp
 ·rw [if_neg h1]
  by_cases h2:i=p
  ·rw [if_pos h2,Array.getElem?_append_left (by lia),Array.getElem?_push,if_pos (by simp; lia)]
  ·rw [if_neg h2,Array.getElem?_append_right (by lia),hs,Array.getElem?_extract]
   by_cases h3:i - (p+1)<min xs.size xs.size - p
   ·rw [if_pos h3]
    congr 1; lia
   ·rw [if_neg h3,xaZ (by lia)]
theorem b_ {xs:Array Nat} {p x:Nat} (h:p<=xs.size) (i:Nat):(insertAt xs p x).getD i 0=if i<p then xs.getD i 0 else if i=p then x else xs.getD (i - 1) 0:=by
 have e:∀ (ys:Array Nat) (k:Nat),ys.getD k 0=ys[k]?.getD 0:=fun ys k=>by
  simp [xaR]
 rw [e,ins_get xs x h]
 split
 ·rw [e]
 ·split
  ·rfl
  ·rw [e]
theorem xP {xs:Array Nat} (U:Up xs) {j:Nat} (hj:taken xs j=false):Up (insertAt xs (below xs j) j):=by
 obtain ⟨a,b,c⟩:=aP U j
 have ne:∀ i,i<xs.size->xs.getD i 0≠j:=fun i hi e=>by
  have:=(dH U (j:=j)).mpr ⟨i,hi,e⟩
  rw [hj] at this; cases this
 intro i k hik hk
 rw [bL xs j a] at hk
 rw [b_ a,b_ a]
 by_cases h1:k<below xs j
 ·rw [if_pos (by walk_at "s2"),if_pos h1]; exact U i k hik (by walk_at "s1")
 ·rw [if_neg h1]
  by_cases h2:k=below xs j
  ·rw [if_pos h2,if_pos (by lia)]; exact b i (by lia)
  ·rw [if_neg h2]
   by_cases h3:i<below xs j
   ·rw [if_pos h3]; exact U i (k - 1) (by lia) (by lia)
   ·rw [if_neg h3]
    by_cases h4:i=below xs j
    ·rw [if_pos h4]
     have:=c (k - 1) (by lia) (by lia)
     have:=ne (k - 1) (by lia)
     lia
    ·rw [if_neg h4]; exact U (i - 1) (k - 1) (by lia) (by lia)
theorem rZ {xs:Array Nat} (U:Up xs) {j k:Nat} (hj:taken xs j=false):taken (insertAt xs (below xs j) j) k=(decide (k=j) || taken xs k):=by
 have a:=(aP U j).1
 have U':=xP U hj
 apply xa4.mpr
 rw [dH U',Bool.or_eq_true,decide_eq_true_eq,dH U]
 rw [bL xs j a]
 constructor
 ·rintro ⟨i,hi,e⟩
  rw [b_ a] at e
  by_cases h1:i<below xs j
  ·rw [if_pos h1] at e; exact .inr ⟨i,by lia,e⟩
  ·rw [if_neg h1] at e
   by_cases h2:i=below xs j
   ·rw [if_pos h2] at e; exact .inl e.symm
   ·rw [if_neg h2] at e; exact .inr ⟨i - 1,by lia,e⟩
 ·rintro (rfl | ⟨i,hi,e⟩)
  ·exact ⟨below xs k,by exact xaV ‹_›,by rw [b_ a,if_neg (by lia),if_pos rfl]⟩
  ·by_cases h1:i<below xs j
   ·exact ⟨i,by exact xaI ‹_›,by rw [b_ a,if_pos h1]; exact e⟩
   ·exact ⟨i+1,by exact xaV ‹_›,by rw [b_ a,if_neg (by lia),if_neg (by lia)]; exact e⟩
def Reach (M:Nat) (place:Array Nat) (h:Int) (j:Nat):Prop:=∃ n,n<=10 * (M+13)/\J M h n=j/\∀ k<n,taken place (J M h k)=true
structure TI {α:Type} (t:SetTable) (es:Array (Int × α)):Prop where
 pw:∃ m,t.mask+1=2 ^ m/\3<=m
 sz:t.place.size=es.size
 up:Up t.place
 le:∀ i,i<t.place.size->t.place.getD i 0<=t.mask
 dm:t.dummies = #[]
 few:es.size * 5<t.mask * 3
 path:∀ i h x,es[i]? = some (h,x)->Reach t.mask t.place h (t.place.getD i 0)
section
variable {α:Type} {t:SetTable} {es:Array (Int × α)}
theorem TI.slot (T:TI t es) (j:Nat):t.slot j=if taken t.place j then .live (below t.place j) else .empty:=by
 unfold SetTable.slot taken
 dsimp only
 split
 ·rfl
 ·have:has t.dummies j=false:=by rw [T.dm]; rfl
  rw [this]; rfl
theorem TI.fits (T:TI t es):t.fits es.size=true:=by
 have:=T.few
 simp only [SetTable.fits,fill,T.dm,T.sz,xaA,beq_iff_eq,decide_eq_true_eq,true_and]
 simp; lia
theorem TI.odd (T:TI t es):t.gaveWay=false:=by
 obtain ⟨m,h,h3⟩:=T.pw
 unfold SetTable.gaveWay
 rw [beq_eq_false_iff_ne]
 have:2 ^ m=2 * 2 ^ (m - 1):=by
  rw [show m=(m - 1)+1 by lia,xbn]; simp; lia
 lia
theorem TI.free (T:TI t es):∃ e,e<=t.mask/\taken t.place e=false:=by
 have hf:=T.few
 have hs:=T.sz
 by_cases c:∃ e,e<=t.mask/\taken t.place e=false
 ·exact c
 ·exfalso
  have all:∀ e,e<=t.mask->taken t.place e=true:=fun e he=>by
   cases z:taken t.place e with
   | true=>rfl
   | false=>exact absurd ⟨e,he,z⟩ c
  -- slot e stands at place at most e
  have go:∀ e,e<=t.mask->e<=below t.place e:=by
   intro e
   induction e with
   | zero=>intro _; exact xaz _
   | succ e ih =>
    intro he
    have h1:=gU T.up (all e (by exact xaP ‹_›))
    have h2:=gU T.up (all (e+1) he)
    have:=ih (by exact xaP ‹_›)
    obtain ⟨_,b,c⟩:=aP T.up (e+1)
    by_cases z:below t.place e<below t.place (e+1)
    ·walk_at "s1"
    ·have:=c (below t.place e) (by exact xaW ‹_›) h1.1
     lia
  have:=go t.mask (xah _)
  have:=(gU T.up (all t.mask (xah _))).1
  lia
theorem TI.put (T:TI t es) {h:Int} {x:α} {j:Nat} (hj:j<=t.mask) (hn:taken t.place j=false) (hr:Reach t.mask t.place h j) {t':SetTable} (ht:t'.mask=t.mask) (hp:t'.place=insertAt t.place (below t.place j) j) (hd:t'.dummies = #[])
  (hf:(es.size+1) * 5<t.mask * 3):TI t' (insertAt es (below t.place j) (h,x)):=by
 have a:=(aP T.up j).1
 have a':below t.place j<=es.size:=by rw [<- T.sz]; exact a
 refine ⟨by rw [ht]; exact T.pw,by rw [hp,bL _ _ a,bL _ _ a',T.sz],by rw [hp]; exact xP T.up hn,fun i hi=>?_,hd,by rw [bL _ _ a',ht]; exact hf,fun i g y e=>?_⟩
 ·rw [hp,bL _ _ a] at hi
  rw [hp,b_ a,ht]
  split
  ·exact T.le i (by walk_at "s1")
  ·split
   ·exact hj
   ·exact T.le (i - 1) (by lia)
 ·have mono:∀ {g:Int} {k:Nat},Reach t.mask t.place g k->Reach t'.mask t'.place g k:=fun {g k} ⟨n,h1,h2,h3⟩=>⟨n,by rw [ht]; exact h1,by rw [ht]; exact h2,fun q hq=>by
   rw [hp,ht,rZ T.up hn,h3 q hq,Bool.or_true]⟩
  rw [ins_get es _ a'] at e
  rw [hp,b_ a,<- hp]
  by_cases h1:i<below t.place j
  ·rw [if_pos h1] at e ⊢
   exact mono (T.path i g y e)
  ·rw [if_neg h1] at e ⊢
   by_cases h2:i=below t.place j
   ·rw [if_pos h2] at e ⊢
    cases e
    exact mono hr
   ·rw [if_neg h2] at e ⊢
    exact mono (T.path (i - 1) g y e)
end
theorem eZ {α:Type} [DecidableEq α]:∀ {l m:List α},l.Nodup->(∀ x∈l,x∈m)->l.length<=m.length
 | [],_,_,_=>xaz _
 | x :: l,m,nd,h=>by
  rw [xaD] at nd
  have hx:=h x xac
  have:=eZ (l:=l) (m:=m.erase x) nd.2 fun y hy=>(List.mem_erase_of_ne (fun e=>nd.1 (by rw [<- e]; exact hy))).mpr (h y (xab _ hy))
  rw [List.length_erase_of_mem hx] at this
  have:0<m.length:=List.length_pos_of_mem hx
  simp only [xaU]; lia
def occ (owner:Array (Option Nat)) (j:Nat):Bool:=(owner.getD j (some 0)).isSome
theorem mR {M:Nat} (h:Int) (owner:Array (Option Nat)):∀ (fuel k:Nat),(∀ q<blk M h k,occ owner (J M h q)=true)->(∃ K,k<=K/\K<k+fuel/\K<=M+13/\occ owner (lp M h K).1=false) ->
  ∃ j n,layClean.free M owner fuel (lp M h k).1 (lp M h k).2=some j/\J M h n=j/\n<=10 * (M+13)/\occ owner j=false/\∀ q<n,occ owner (J M h q)=true
 | 0,k,_,⟨K,h1,h2,_⟩=>by lia
 | fuel+1,k,hq,⟨K,h1,h2,h3,h4⟩=>by
  have hrun:∀ r,r<=runEnd M (lp M h k).1 - (lp M h k).1->J M h (blk M h k+r)=(lp M h k).1+r:=fun r hr=>by
   unfold J
   rw [rP M h (blk M h k) r (by rw [pJ]; exact hr),pJ]
  have hle:=ph (Aa M h k)
  have e:∀ r,(owner.getD ((lp M h k).1+r) (some 0)).isNone = !occ owner ((lp M h k).1+r):=fun r=>by
   unfold occ; cases owner.getD ((lp M h k).1+r) (some 0) <;> rfl
  unfold layClean.free
  cases hf:(List.range (runEnd M (lp M h k).1+1 - (lp M h k).1)).find? fun r=>(owner.getD ((lp M h k).1+r) (some 0)).isNone with
  | some r =>
   obtain ⟨a1,a2,a3⟩:=List.find?_range_eq_some.mp hf
   have a2:r<runEnd M (lp M h k).1+1 - (lp M h k).1:=by simpa using a2
   rw [e] at a1
   have a1:occ owner ((lp M h k).1+r)=false:=by simpa using a1
   have occs:∀ q<blk M h k+r,occ owner (J M h q)=true:=fun q hqq=>by
    by_cases z:q<blk M h k
    ·exact hq q z
    ·have:=a3 (q - blk M h k) (by lia)
     rw [e] at this
     have hj:=hrun (q - blk M h k) (by lia)
     rw [show blk M h k+(q - blk M h k)=q by exact Nat.add_sub_of_le (xaW ‹_›)] at hj
     rw [hj]
     simpa using this
   refine ⟨_,blk M h k+r,rfl,hrun r (by lia),?_,a1,occs⟩
   have hb:=rT M h K
   by_cases z:blk M h k+r<=blk M h K
   ·lia
   ·have:=occs (blk M h K) (by exact xb3 ‹_›)
    rw [Be,h4] at this; cases this
  | none =>
   have hn:=List.find?_eq_none.mp hf
   have occr:∀ r,r<=runEnd M (lp M h k).1 - (lp M h k).1->occ owner ((lp M h k).1+r)=true:=fun r hr=>by
    have:=hn r (by simp; lia)
    rw [e] at this
    simpa using this
   dsimp only
   have hK:K≠k:=fun z=>by
    subst z
    have:=occr 0 (xaz _)
    rw [xcr,h4] at this; cases this
   refine mR h owner fuel (k+1) (fun q hqq=>?_) ⟨K,by lia,by lia,h3,h4⟩
   by_cases z:q<blk M h k
   ·exact hq q z
   ·have hqq:q<blk M h k+(runEnd M (lp M h k).1 - (lp M h k).1)+1:=hqq
    have hj:=hrun (q - blk M h k) (by lia)
    rw [show blk M h k+(q - blk M h k)=q by exact Nat.add_sub_of_le (xaW ‹_›)] at hj
    rw [hj]
    exact occr _ (by lia)
structure OI (M:Nat) (hs:List Int) (owner:Array (Option Nat)):Prop where
 sz:owner.size=M+1
 lt:∀ j v:Nat,owner[j]? = some (some v)->v<hs.length
 inj:∀ j j' v:Nat,owner[j]? = some (some v)->owner[j']? = some (some v)->j=j'
 all:∀ v:Nat,v<hs.length->∃ j:Nat,owner[j]? = some (some v)
 path:∀ j v:Nat,owner[j]? = some (some v)->∃ n,n<=10 * (M+13)/\J M (hs.getD v 0) n=j/\∀ q<n,occ owner (J M (hs.getD v 0) q)=true
theorem oF {owner:Array (Option Nat)} {j:Nat} (h:j<owner.size):occ owner j=true↔∃ v,owner[j]? = some (some v):=by
 unfold occ
 rw [xaJ h]
 simp only [Array.getD,h,dite_true,Option.some.injEq]
 cases hh:owner[j] with
 | none =>
  have:owner.getInternal j h=none:=hh
  rw [this]; simp
 | some v =>
  have:owner.getInternal j h=some v:=hh
  rw [this]; simp
theorem OI.free {M:Nat} {hs:List Int} {owner:Array (Option Nat)} (O:OI M hs owner) (hl:hs.length<=M):∃ e,e<=M/\occ owner e=false:=by
 by_cases c:∃ e,e<=M/\occ owner e=false
 ·exact c
 ·exfalso
  have all:∀ e,e<=M->∃ v,owner[e]? = some (some v):=fun e he=>by
   refine (oF (by rw [O.sz]; exact xaV ‹_›)).mp ?_
   cases z:occ owner e with
   | true=>rfl
   | false=>exact absurd ⟨e,he,z⟩ c
  have nd:((List.range (M+1)).map fun j=>(owner.getD j none).getD 0).Nodup:=by
   rw [xbh,xaK]
   refine List.Pairwise.imp_of_mem ?_ (xbh.mp List.nodup_range)
   intro a b ha hb hne z
   obtain ⟨va,ea⟩:=all a (by have:=xaS.mp ha; lia)
   obtain ⟨vb,eb⟩:=all b (by have:=xaS.mp hb; lia)
   rw [xaR,xaR,ea,eb] at z
   have z:va=vb:=z
   subst z
   exact hne (O.inj _ _ _ ea eb)
  have:=eZ (m:=List.range hs.length) nd fun x hx=>by
   obtain ⟨j,hj,rfl⟩:=xak.mp hx
   obtain ⟨v,e⟩:=all j (by have:=xaS.mp hj; lia)
   rw [xaR,e]
   exact xaS.mpr (O.lt _ _ e)
  simp at this
  lia
theorem OI.lay {M m:Nat} {hs:List Int} {owner:Array (Option Nat)} (hM:M+1=2 ^ m) (O:OI M hs owner) (hl:hs.length<=M) (h:Int) :
  ∃ j,layClean.free M owner (turns M) (bits h % (M+1)) (bits h)=some j/\OI M (hs++[h]) (owner.setIfInBounds j (some hs.length)):=by
 obtain ⟨e,he,hf⟩:=O.free hl
 obtain ⟨K,hK,hKe⟩:=cover hM h he
 obtain ⟨j,n,e1,e2,e3,e4,e5⟩:=mR h owner (turns M) 0 (fun q hq=>absurd hq (xbw q)) ⟨K,xaz _,by unfold turns; lia,hK,by rw [hKe]; exact hf⟩
 refine ⟨j,e1,?_⟩
 have hj:j<owner.size:=by rw [O.sz,<- e2]; exact xaV (J_le M h n)
 have get:∀ i,(owner.setIfInBounds j (some hs.length))[i]? = if j=i then some (some hs.length) else owner[i]? := fun i=>by
  rw [Array.getElem?_setIfInBounds]
  by_cases z:j=i
  ·subst z; simp [hj]
  ·simp [z]
 have oc:∀ i,occ owner i=true->occ (owner.setIfInBounds j (some hs.length)) i=true:=fun i hi=>by
  unfold occ at hi ⊢
  rw [xaR] at hi ⊢
  rw [get]
  split
  ·rfl
  ·exact hi
 have hne:∀ v,owner[j]?≠some (some v):=fun v z=>by
  have:=(oF hj).mpr ⟨v,z⟩
  rw [e4] at this; cases this
 refine ⟨by rw [Array.size_setIfInBounds]; exact O.sz,fun i v z=>?_,fun i i' v z z'=>?_,fun v hv=>?_,fun i v z=>?_⟩
 ·rw [get] at z
  split at z
  ·cases z; simp
  ·have:=O.lt i v z; simp; exact xaI ‹_›
 ·rw [get] at z z'
  split at z
  ·cases z
   split at z'
   ·lia
   ·exact absurd (O.lt _ _ z') (xa9 _)
  ·split at z'
   ·cases z'
    exact absurd (O.lt _ _ z) (xa9 _)
   ·exact O.inj i i' v z z'
 ·simp at hv
  by_cases c:v=hs.length
  ·exact ⟨j,by rw [get,if_pos rfl,c]⟩
  ·obtain ⟨i,hi⟩:=O.all v (by lia)
   refine ⟨i,?_⟩
   rw [get,if_neg (fun z=>hne v (by rw [z]; exact hi))]
   exact hi
 ·rw [get] at z
  split at z
  ·rename_i hji
   cases z
   refine ⟨n,e3,?_,fun q hq=>oc _ ?_⟩
   ·rw [xbi,xaY (xah _)]
    simp [e2,hji]
   ·have:=e5 q hq
    rw [xbi,xaY (xah _)]
    simpa using this
  ·have hv:=O.lt i v z
   obtain ⟨n',a1,a2,a3⟩:=O.path i v z
   have eg:(hs++[h]).getD v 0=hs.getD v 0:=by
    rw [xbi,xbi,xbj hv]
   rw [eg]
   exact ⟨n',a1,a2,fun q hq=>oc _ (a3 q hq)⟩
theorem OI.nil (M:Nat):OI M [] (Array.replicate (M+1) none):=by
 have no:∀ (j v:Nat),¬ (Array.replicate (M+1) (none:Option Nat))[j]? = some (some v):=fun j v z=>by
  rw [Array.getElem?_replicate] at z
  split at z <;> cases z
 exact ⟨by simp,fun j v z=>absurd z (no j v),fun j j' v z _=>absurd z (no j v),fun v hv=>absurd hv (xbw v),fun j v z=>absurd z (no j v)⟩
theorem yq {M m:Nat} (hM:M+1=2 ^ m) (hs:Array Int) (hl:hs.size<=M):∃ owner,layClean M hs=some owner/\OI M hs.toList owner:=by
 have go:∀ (l pre:List Int) (owner:Array (Option Nat)),OI M pre owner->pre.length+l.length<=M->∃ owner',l.foldl (fun acc h=>do
   let (owner,k) ← acc
   let j ← layClean.free M owner (turns M) (bits h % (M+1)) (bits h)
   pure (owner.setIfInBounds j (some k),k+1)) (some (owner,pre.length))=some (owner',pre.length+l.length)/\OI M (pre++l) owner':=by
  intro l
  induction l with
  | nil=>intro pre owner O _; exact ⟨owner,rfl,by rw [xaO]; exact O⟩
  | cons h l ih =>
   intro pre owner O hz
   rw [xaU] at hz
   obtain ⟨j,e,O'⟩:=O.lay hM (by lia) h
   obtain ⟨o2,e2,O2⟩:=ih (pre++[h]) _ O' (by simp; lia)
   refine ⟨o2,?_,by rw [xbZ] at O2; exact O2⟩
   rw [xcc]
   have:(do
    let (owner,k) ← (some (owner,pre.length):Option (Array (Option Nat) × Nat))
    let j ← layClean.free M owner (turns M) (bits h % (M+1)) (bits h)
    pure (owner.setIfInBounds j (some k),k+1))=some (owner.setIfInBounds j (some pre.length),(pre++[h]).length):=by
    simp [e]
   rw [this,e2]
   simp; exact Nat.add_right_comm ..
 obtain ⟨o,e,O⟩:=go hs.toList [] _ (OI.nil M) (by simpa using hl)
 refine ⟨o,?_,by simpa using O⟩
 unfold layClean
 rw [<- Array.foldl_toList]
 have e':=e
 simp only [List.length_nil] at e'
 rw [e']
 rfl
theorem gq {n:Nat}:∀ (fuel a:Nat),3<=a->n<2 ^ (a+fuel)->∃ b,3<=b/\sizeAbove.go n fuel (2 ^ a)=2 ^ b/\n<2 ^ b/\(2 ^ b<=2 * n\/b=a)
 | 0,a,ha,h=>⟨a,ha,rfl,by simpa using h,.inr rfl⟩
 | fuel+1,a,ha,h=>by
  unfold sizeAbove.go
  by_cases c:2 ^ a<=n
  ·rw [if_pos c]
   obtain ⟨b,h1,h2,h3,h4⟩:=gq fuel (a+1) (by exact xaI ‹_›) (by rw [show a+1+fuel=a+(fuel+1) by exact Nat.add_right_comm ..]; exact h)
   refine ⟨b,h1,by rw [xbn] at h2; exact h2,h3,?_⟩
   rcases h4 with h4 | h4
   ·exact .inl h4
   ·left
    rw [h4,xbn]; lia
  ·rw [if_neg c]
   exact ⟨a,ha,rfl,by exact xb3 ‹_›,.inr rfl⟩
theorem je {n:Nat} (h:n<2 ^ 60):∃ b,3<=b/\sizeAbove n=2 ^ b/\n<2 ^ b/\(2 ^ b<=2 * n\/b=3) :=
 gq 64 3 (xah _) (xco h (by decide))
section
variable {α:Type}
def aR (M:Nat) (owner:Array (Option Nat)):List (Nat × Nat):=(List.range (M+1)).filterMap fun j=>(owner.getD j none).map (j,·)
theorem cM {M:Nat} {owner:Array (Option Nat)} {p:Nat × Nat}:p∈aR M owner↔p.1<M+1/\owner[p.1]? = some (some p.2):=by
 unfold aR
 rw [xch]
 constructor
 ·rintro ⟨j,hj,e⟩
  rw [xaR] at e
  cases h:owner[j]? with
  | none=>rw [h] at e; cases e
  | some o =>
   rw [h] at e
   cases o with
   | none=>cases e
   | some v =>
    cases e
    exact ⟨xaS.mp hj,h⟩
 ·rintro ⟨h1,h2⟩
  exact ⟨p.1,xaS.mpr h1,by rw [xaR,h2]; rfl⟩
theorem oK (M:Nat) (owner:Array (Option Nat)):((aR M owner).map (·.1)).Pairwise (· < ·):=by
 unfold aR
 rw [xaK,List.pairwise_filterMap]
 refine List.Pairwise.imp ?_ List.pairwise_lt_range
 intro a b hab p hp q hq
 cases h1:owner.getD a none with
 | none=>rw [h1] at hp; cases hp
 | some x =>
  cases h2:owner.getD b none with
  | none=>rw [h2] at hq; cases hq
  | some y =>
   rw [h1] at hp; rw [h2] at hq
   cases hp; cases hq
   exact hab
theorem oY {l:List Nat} (h:l.Pairwise (· < ·)):Up l.toArray:=fun i j hij hj=>by
 have hj:j<l.length:=by simpa using hj
 have:=xaM.mp h i j (by walk_at "s1") hj hij
 have e:∀ k (hk:k<l.length),l.toArray.getD k 0=l[k]:=fun k hk=>by simp [Array.getD,hk]
 rw [e i (by walk_at "s1"),e j hj]
 exact this
theorem pW {β:Type} {f:α->Option β}:∀ {l:List α},(∀ x∈l,(f x).isSome=true)->(l.filterMap f).length=l.length/\∀ i:Nat,(l.filterMap f)[i]? = (l[i]?).bind f
 | [],_=>⟨rfl,fun i=>by simp⟩
 | x :: l,h=>by
  obtain ⟨a,b⟩:=pW (f:=f) (l:=l) fun y hy=>h y (xab _ hy)
  have hx:=h x xac
  cases e:f x with
  | none=>rw [e] at hx; cases hx
  | some y =>
   rw [xbB,e]
   refine ⟨by simp [a],fun i=>?_⟩
   cases i with
   | zero=>simp [e]
   | succ i=>simpa using b i
theorem pQ (es:Array (Int × α)):(List.range es.size).filterMap (fun i=>es[i]?)=es.toList:=by
 apply xbg
 intro i
 rw [(pW (l:=List.range es.size) fun x hx=>by
  have:=xaS.mp hx
  simp [this]).2 i]
 by_cases h:i<es.size
 ·rw [List.getElem?_range h,xaE]; rfl
 ·rw [xaF (by simpa using h),xaF (by simpa using h)]; rfl
theorem yG {M m finger moves:Nat} {led plain:Bool} (hM:M+1=2 ^ m) (hm:3<=m) {es:Array (Int × α)} (hf:es.size * 5<M * 3) :
  ∃ t order,laid M finger moves led plain (es.map (·.1))=some (t,order)/\t.plain=plain/\t.led=led/\t.mask=M/\TI t (order.filterMap fun i=>es[i]?)/\(order.filterMap fun i=>es[i]?).size=es.size/\(order.filterMap fun i=>es[i]?).toList.Perm es.toList/\order.toList.Perm (List.range es.size):=by
 obtain ⟨owner,e,O⟩:=yq hM (es.map (·.1)) (by rw [Array.size_map]; lia)
 have hn:(es.map (·.1)).toList.length=es.size:=by simp
 refine ⟨{ mask:=M,place:=((aR M owner).map (·.1)).toArray,dummies:=#[],finger,led,moves,plain },((aR M owner).map (·.2)).toArray,?_,rfl,rfl,rfl,?_⟩
 ·unfold laid
  rw [e]; rfl
 have vlt:∀ p∈aR M owner,p.2<es.size:=fun p hp=>by
  have:=O.lt _ _ (cM.mp hp).2
  lia
 have nd:((aR M owner).map (·.2)).Nodup:=by
  rw [xbh,xaK]
  have:=oK M owner
  rw [xaK] at this
  refine List.Pairwise.imp_of_mem ?_ this
  intro p q hp hq hlt z
  have:=O.inj _ _ _ (cM.mp hp).2 (by rw [z]; exact (cM.mp hq).2)
  lia
 have pm:((aR M owner).map (·.2)).Perm (List.range es.size):=by
  refine (List.perm_ext_iff_of_nodup nd List.nodup_range).mpr fun v=>⟨fun hv=>?_,fun hv=>?_⟩
  ·obtain ⟨p,hp,rfl⟩:=xak.mp hv
   exact xaS.mpr (vlt p hp)
  ·obtain ⟨j,hj⟩:=O.all v (by rw [hn]; exact xaS.mp hv)
   have hjs:=(xbv.mp hj).1
   rw [O.sz] at hjs
   exact xak.mpr ⟨(j,v),cM.mpr ⟨hjs,hj⟩,rfl⟩
 have hlen:(aR M owner).length=es.size:=by
  have:=pm.length_eq
  simpa using this
 have hes:(((aR M owner).map (·.2)).toArray.filterMap fun i=>es[i]?).toList=(aR M owner).filterMap fun p=>es[p.2]? := by
  rw [Array.toList_filterMap,xci]; rfl
 obtain ⟨f1,f2⟩:=pW (l:=aR M owner) (f:=fun p=>es[p.2]?) fun p hp=>by simp [vlt p hp]
 have hget:∀ i:Nat,(((aR M owner).map (·.2)).toArray.filterMap fun i=>es[i]?)[i]? = ((aR M owner)[i]?).bind fun p=>es[p.2]? := fun i=>by
  rw [<- xaE,hes]; exact f2 i
 have hsz:(((aR M owner).map (·.2)).toArray.filterMap fun i=>es[i]?).size=es.size:=by
  rw [<- xa0,hes,f1,hlen]
 have hpl:∀ i:Nat,∀ p,(aR M owner)[i]? = some p->((aR M owner).map (·.1)).toArray.getD i 0=p.1:=fun i p hp=>by
  rw [xaR]
  simp [hp]
 have tk:∀ j,occ owner j=true->j<=M->taken ((aR M owner).map (·.1)).toArray j=true:=fun j hj hM'=>by
  obtain ⟨v,hv⟩:=(oF (by rw [O.sz]; exact xaV ‹_›)).mp hj
  obtain ⟨i,hi⟩:=xa3.mp (cM.mpr (show ((j,v):Nat × Nat).1<M+1/\owner[((j,v):Nat × Nat).1]? = some (some ((j,v):Nat × Nat).2) from ⟨by show j<M+1; exact xaV ‹_›,hv⟩))
  exact (dH (oY (oK M owner))).mpr ⟨i,by
   have:=(xaj.mp hi).1
   simpa using this,hpl i _ hi⟩
 refine ⟨?_,hsz,?_,by simpa using pm⟩
 ·refine ⟨⟨m,hM,hm⟩,?_,oY (oK M owner),fun i hi=>?_,rfl,by rw [hsz]; exact hf,fun i h x hx=>?_⟩
  ·rw [hsz]; simp [hlen]
  ·have hi:i<(aR M owner).length:=by simpa using hi
   have e1:=xau hi
   show ((aR M owner).map (·.1)).toArray.getD i 0<=M
   rw [hpl i _ e1]
   have:=(cM.mp (xaB e1)).1
   lia
  ·rw [hget] at hx
   cases hp:(aR M owner)[i]? with
   | none=>rw [hp] at hx; cases hx
   | some p =>
    rw [hp] at hx
    have hx:es[p.2]? = some (h,x):=hx
    have hm':=cM.mp (xaB hp)
    obtain ⟨n,a1,a2,a3⟩:=O.path _ _ hm'.2
    have hh:(es.map (·.1)).toList.getD p.2 0=h:=by
     rw [xbi,xaE,Array.getElem?_map,hx]; rfl
    rw [hh] at a2 a3
    refine ⟨n,a1,?_,fun q hq=>tk _ (a3 q hq) (J_le M h q)⟩
    show J M h n=((aR M owner).map (·.1)).toArray.getD i 0
    rw [hpl i _ hp]; exact a2
 ·rw [hes]
  have:=pm.filterMap fun i=>es[i]?
  rw [pQ,xci] at this
  exact this
theorem sY {t:SetTable} {es:Array (Int × α)} (hn:es.size<=10000) :
  ∃ t' order,t.relaid (es.map (·.1)) (grown es.size)=some (t',order)/\t'.plain=t.plain/\t'.led=t.led/\sizeAbove (grown es.size)<=16777216/\(es.size<=1000->t'.mask<=8191)/\TI t' (order.filterMap fun i=>es[i]?)/\(order.filterMap fun i=>es[i]?).size=es.size/\(order.filterMap fun i=>es[i]?).toList.Perm es.toList/\order.toList.Perm (List.range es.size):=by
 have hg:grown es.size=es.size * 4:=by unfold grown; rw [if_neg (by lia)]
 obtain ⟨b,h3,e,hlt,hle⟩:=je (n:=es.size * 4) (by lia)
 have h8:8<=2 ^ b:=Nat.pow_le_pow_right (n:=2) (by decide) h3
 unfold relaid
 rw [hg,e]
 obtain ⟨t',order,q1,q2,q3,qm,q4⟩:=yG (M:=2 ^ b - 1) (m:=b) (finger:=t.finger) (moves:=t.movedTo (2 ^ b - 1)) (led:=t.led) (plain:=t.plain) (by lia) h3 (es:=es) (by lia)
 refine ⟨t',order,q1,q2,q3,?_,fun hz=>?_,q4⟩
 ·rcases hle with hle | rfl
  ·lia
  ·decide
 ·rw [qm]
  rcases hle with hle | rfl
  ·lia
  ·decide
end
section
variable {α:Type} {t:SetTable} {es:Array (Int × α)}
theorem pF (T:TI t es) (hashAt:Nat->Int) (h:Int):∀ (fuel n:Nat),(∃ N,n<=N/\N<n+fuel/\taken t.place (J t.mask h N)=false) ->
  ∃ n',n<=n'/\n'<n+fuel/\(∀ q,n<=q->q<n'->taken t.place (J t.mask h q)=true/\hashAt (below t.place (J t.mask h q))≠h) /\
   ((taken t.place (J t.mask h n')=false/\probe.go t hashAt h fuel (ps t.mask h n)=some (.empty (J t.mask h n') none)) \/
    (taken t.place (J t.mask h n')=true/\hashAt (below t.place (J t.mask h n'))=h/\probe.go t hashAt h fuel (ps t.mask h n)=some (.candidate (J t.mask h n') (below t.place (J t.mask h n')) (ps t.mask h (n'+1)))))
 | 0,n,⟨N,h1,h2,_⟩=>by lia
 | fuel+1,n,⟨N,h1,h2,h3⟩=>by
  unfold probe.go
  have hs:=T.slot (J t.mask h n)
  have hd:=(zy t.mask h n).2.2.1
  by_cases c:taken t.place (J t.mask h n)=true
  ·rw [if_pos c] at hs
   have hs:t.slot (ps t.mask h n).j=.live (below t.place (J t.mask h n)):=hs
   rw [hs]
   dsimp only
   by_cases e:hashAt (below t.place (J t.mask h n))=h
   ·rw [if_pos (by simpa using e)]
    exact ⟨n,xah _,by lia,fun q a b=>by lia,.inr ⟨c,e,rfl⟩⟩
   ·rw [if_neg (by simpa using e)]
    have hN:N≠n:=fun z=>by rw [z,c] at h3; cases h3
    obtain ⟨n',a1,a2,a3,a4⟩:=pF T hashAt h fuel (n+1) ⟨N,by lia,by lia,h3⟩
    refine ⟨n',by exact xaP ‹_›,by lia,fun q b1 b2=>?_,a4⟩
    by_cases z:q=n
    ·subst z; exact ⟨c,e⟩
    ·exact a3 q (by lia) b2
  ·have c:taken t.place (J t.mask h n)=false:=by simpa using c
   rw [if_neg (by rw [c]; exact xam)] at hs
   have hs:t.slot (ps t.mask h n).j=.empty:=hs
   rw [hs]
   dsimp only
   rw [hd]
   exact ⟨n,xah _,by lia,fun q a b=>by lia,.inl ⟨c,rfl⟩⟩
end
section
variable {prog:Program} {w:World} {K:Type} [DecidableEq K] {knd:KeyKind prog w K}
abbrev aK (knd:KeyKind prog w K) (k:List K):Int:=tupleKeyHash knd k
def wI (knd:KeyKind prog w K) (p:List K × Addr):Int × Value:=(aK knd p.1,.ref p.2)
structure SetT (knd:KeyKind prog w K) (h:Heap) (a:Addr) (ks:List (List K × Addr)):Prop where
 ob:∃ o es ep t,h.get? a=some o/\o.ExactSet/\o.data=.set es ep t/\TI t es/\t.mask<=8191/\t.led=(!w.params.followText "set-order")/\es.toList=ks.map (wI knd)
 nd:(ks.map (·.1)).Nodup
 is:∀ p∈ks,IsTupleKey knd h p.1 p.2
variable {A:Around} {E:Value->Shared->Prop} {s:Shared}
theorem ie {k:List K} {a:Addr} {Q:Bool->Shared->Prop} (hk:IsTupleKey knd s.heap k a) (h:Q false s):wpAny (model prog w) A (ofAClassStatement 8 (.ref a)) Q E s:=by
 have hT:=hk.typeIs
 obtain ⟨o,items,n,ho,_,hd,hi⟩:=hk
 unfold ofAClassStatement
 refine xaa (wpAny_typeOf hT ?_)
 dsimp only
 refine xaa ?_
 refine xad ?_
 simp only [xcl,xax,if_false]
 refine xaa (wpAny_seqItems ho hd ?_)
 dsimp only
 refine xaa ?_
 rw [<- Array.forIn_toList]
 refine wpAny_forIn_list _ (fun rest r s'=>r.1=none/\s'=s/\∀ v∈rest,carriedByValue v=true) _ ?_ ?_ _ _ ⟨rfl,rfl,hi.byValue⟩
 ·rintro v rest r s' ⟨hr,rfl,hall⟩
  have hv:=hall v xac
  have e:ofAClassStatement 7 v=pure false:=by
   cases v with
   | ref a=>cases hv
   | _=>rfl
  rw [e]
  refine xaa (xad ?_)
  simp only [xax,if_false]
  exact xad ⟨rfl,rfl,fun u hu'=>hall u (xab _ hu')⟩
 ·rintro ⟨r1,r2⟩ s' ⟨hr,rfl,_⟩
  simp only at hr
  subst hr
  exact xad h
theorem fV {k:List K} {a:Addr} {Q:Bool->Shared->Prop} (hk:IsTupleKey knd s.heap k a) (hsc:∀ k v,knd.is k v=true->v.scannable=true) (h:∀ b,Q b s):wpAny (model prog w) A (hashByValue 8 (.ref a)) Q E s:=by
 have hT:=hk.typeIs
 obtain ⟨o,items,n,ho,_,hd,hi⟩:=hk
 have hsc':∀ v∈items.toList,v.scannable=true:=by
  clear ho hd
  generalize items.toList=l at hi
  induction hi with
  | nil=>intro v hv; cases hv
  | cons h1 _ ih =>
   intro v hv
   rcases xag.mp hv with rfl | hv
   ·exact hsc _ _ h1
   ·exact ih v hv
 unfold hashByValue
 refine xaa (wpAny_specialOf hT F.slot_tuple_hash.lookup ?_)
 dsimp only
 refine xaa (wpAny_seqItems ho hd ?_)
 dsimp only [Option.getD]
 refine xaa ?_
 rw [<- Array.forIn_toList]
 refine wpAny_forIn_list _ (fun rest r s'=>s'=s/\∀ v∈rest,v.scannable=true) _ ?_ ?_ _ _ ⟨rfl,hsc'⟩
 ·rintro v rest r s' ⟨rfl,hall⟩
  rw [hashByValue_scannable 7 (hall v xac)]
  refine xaa (xad ?_)
  split
  ·exact xad (xad (h _))
  ·exact xad ⟨rfl,fun u hu'=>hall u (xab _ hu')⟩
 ·rintro ⟨r1,r2⟩ s' ⟨rfl,_⟩
  cases r1 with
  | none=>exact xad (h true)
  | some b=>exact xad (h b)
end
local macro_rules | `(tactic| walk_at $s:str) => do
 let x:=s.getString
 if x.startsWith "PV" then `(tactic| exact $(Lean.mkIdent (.str (.str (.num (.str (.str (.str .anonymous "_private") "PySem") "SetOps") 0) "PySem") (x.drop 2).toString)))
 else Lean.Macro.throwUnsupported
abbrev uZ:Array (Int × Value)->Nat->Int:=by walk_at "PVstoredHashAt"
abbrev zO:Array (Int × Value)->Option (SetTable × Array Nat)->Sem (Array (Int × Value) × SetTable):=by walk_at "PVreordered"
abbrev lJ:Array (Int × Value)->SetTable->Bool:=by walk_at "PVdrawn"
abbrev Ds:Array (Int × Value)->SetTable->Sem Unit:=by walk_at "PVmustBeLedForItsPlaces"
def n_:Array (Int × Value)->Nat->Int:=uZ
theorem mU (es:Array (Int × Value)) (i:Nat):n_ es i=(es[i]?.map (·.1)).getD 0:=rfl
section
variable {prog:Program} {w:World} {K:Type} [DecidableEq K] {knd:KeyKind prog w K} {A:Around} {E:Value->Shared->Prop} {s:Shared}
theorem qG {k:List K} {a:Addr} {ys:List Value} {Q:Bool->Shared->Prop} (hk:IsTupleKey knd s.heap k a) (hy:∀ y∈ys,∃ k' b,y=.ref b/\IsTupleKey knd s.heap k' b) (h:Q false s):wpAny (model prog w) A (searchCouldBeSeen (.ref a) ys) Q E s:=by
 unfold searchCouldBeSeen
 refine xaa ?_
 refine wpAny_forIn_list _ (fun rest r s'=>r.1=none/\s'=s/\∀ y∈rest,∃ k' b,y=.ref b/\IsTupleKey knd s.heap k' b) _ ?_ ?_ _ _ ⟨rfl,rfl,hy⟩
 ·rintro y rest r s' ⟨hr,rfl,hall⟩
  obtain ⟨k',b,rfl,hb⟩:=hall y xac
  have go:∀ (P:Prop),P->P:=fun _ p=>p
  dsimp only
  split
  ·exact xad ⟨rfl,rfl,fun u hu'=>hall u (xab _ hu')⟩
  ·refine xaa (wpAny_eqIsQuiet_tuple hk ?_)
   simp only [xcl,xax,if_false]
   refine xaa (wpAny_eqIsQuiet_tuple hb ?_)
   simp only [xcl,xax,if_false]
   refine xaa (ie hk ?_)
   simp only [xax,if_false]
   refine xaa (ie hb ?_)
   simp only [xax,if_false]
   exact xad ⟨rfl,rfl,fun u hu'=>hall u (xab _ hu')⟩
 ·rintro ⟨r1,r2⟩ s' ⟨hr,rfl,_⟩
  simp only at hr
  subst hr
  exact xad h
theorem DK {K G:Prop} (pk:K) (h:K->G):G:=h pk
theorem m8 {a x:Addr} {k:List K} {ks:List (List K × Addr)} {o:Obj} {es:Array (Int × Value)} {ep:Nat} {t:SetTable} (hu:A.units<cLine) (ho:s.heap.get? a=some o) (hd:o.data=.set es ep t) (T:TI t es) (he:es.toList=ks.map (wI knd))
  (his:∀ p∈ks,IsTupleKey knd s.heap p.1 p.2) (hx:IsTupleKey knd s.heap k x) {Q:SetFound->Shared->Prop} (hyes:k∈ks.map (·.1)->Q (.there none) s)
  (nf:Nat) (hnf:nf<=10 * (t.mask+13)) (hfr:taken t.place (J t.mask (aK knd k) nf)=false) (hbf:∀ q<nf,taken t.place (J t.mask (aK knd k) q)=true)
  (hno:k∉ks.map (·.1)->Q (.free (J t.mask (aK knd k) nf) false) s) :
  ∀ (fuel n:Nat) (stand:Option Probe),stand.getD (t.probeStart (aK knd k))=ps t.mask (aK knd k) n->n<=nf->nf<n+fuel ->
   (∀ q<n,∀ p,ks[below t.place (J t.mask (aK knd k) q)]? = some p->p.1≠k)->wpAny (model prog w) A (setSearchFrom a (.ref x) (aK knd k) true fuel stand) Q E s
 | 0,n,stand,_,h1,h2,_=>by lia
 | fuel+1,n,stand,hst,h1,h2,hq=>by
  have hel:∀ i:Nat,es[i]? = (ks[i]?).map (wI knd):=fun i=>by rw [<- xaE,he,xaH]
  unfold setSearchFrom
  refine xaa (wpAny_setState_of ho hd T.fits ?_)
  dsimp only
  rw [if_neg (by rw [T.odd]; exact xam)]
  obtain ⟨n',a1,a2,a3,a4⟩:=pF T (n_ es) (aK knd k) (10 * turns t.mask) n ⟨nf,h1,by unfold turns; lia,hfr⟩
  have hn':n'<=nf:=by
   by_cases z:n'<=nf
   ·exact z
   ·have:=(a3 nf h1 (by exact xb3 ‹_›)).1
    rw [hfr] at this; cases this
  rcases a4 with ⟨c1,c2⟩ | ⟨c1,c2,c3⟩
  ·have c2:t.probe (n_ es) (aK knd k) (stand.getD (t.probeStart (aK knd k)))=some (.empty (J t.mask (aK knd k) n') none):=by rw [hst]; exact c2
   have e:n'=nf:=by
    by_cases z:n'<nf
    ·have:=hbf n' z
     rw [c1] at this; cases this
    ·lia
   have c2:t.probe (uZ es) (aK knd k) (stand.getD (t.probeStart (aK knd k)))=some (.empty (J t.mask (aK knd k) n') none):=c2
   rw [c2]
   dsimp only
   rw [e]
   refine xad (hno fun hm=>?_)
   obtain ⟨p,hp,rfl⟩:=xak.mp hm
   obtain ⟨i,hi⟩:=xa3.mp hp
   have ei:es[i]? = some (aK knd p.1,.ref p.2):=by rw [hel,hi]; rfl
   have his':i<t.place.size:=by rw [T.sz]; exact (xbv.mp ei).1
   obtain ⟨ni,b1,b2,b3⟩:=T.path i _ _ ei
   have bt:below t.place (J t.mask (aK knd p.1) ni)=i:=by rw [b2]; exact below_at T.up his'
   have tk:taken t.place (J t.mask (aK knd p.1) ni)=true:=by rw [b2]; exact (dH T.up).mpr ⟨i,his',rfl⟩
   have hlt:ni<nf:=by
    by_cases z:nf<ni
    ·have:=b3 nf z
     rw [hfr] at this; cases this
    ·have:ni≠nf:=fun z=>by rw [z,hfr] at tk; cases tk
     lia
   by_cases z:ni<n
   ·exact hq ni z p (by rw [bt]; exact hi) rfl
   ·refine (a3 ni (by exact xaW ‹_›) (by lia)).2 ?_
    rw [bt,mU,ei]; rfl
  ·have c3:t.probe (uZ es) (aK knd k) (stand.getD (t.probeStart (aK knd k)))=some (.candidate (J t.mask (aK knd k) n') (below t.place (J t.mask (aK knd k) n')) (ps t.mask (aK knd k) (n'+1))):=by rw [hst]; exact c3
   rw [c3]
   dsimp only
   have tk:=gU T.up c1
   have hsl:t.slot (J t.mask (aK knd k) n')=.live (below t.place (J t.mask (aK knd k) n')):=by rw [T.slot,if_pos c1]
   generalize hi:below t.place (J t.mask (aK knd k) n')=i at tk c2 hsl ⊢
   have hil:i<es.size:=by rw [<- T.sz]; exact tk.1
   obtain ⟨p,hp⟩:∃ p,ks[i]? = some p:=by
    have:i<ks.length:=by
     have:=congrArg List.length he
     simp at this; lia
    exact ⟨_,xau this⟩
   have ei:es[i]? = some (aK knd p.1,.ref p.2):=by rw [hel,hp]; rfl
   have hpm:=xaB hp
   have hne:n'≠nf:=fun z=>by rw [z,hfr] at c1; cases c1
   have again:¬ p.1=k->wpAny (model prog w) A (setSearchFrom a (.ref x) (aK knd k) true fuel (some (ps t.mask (aK knd k) (n'+1)))) Q E s:=fun hpk =>
    m8 hu ho hd T he his hx hyes nf hnf hfr hbf hno fuel (n'+1) (some (ps t.mask (aK knd k) (n'+1))) rfl (by lia) (by lia) fun q hqq p' hp'=>by
     by_cases z:q<n
     ·exact hq q z p' hp'
     ·by_cases z2:q=n'
      ·subst z2
       rw [hi,hp] at hp'
       cases hp'
       exact hpk
      ·intro e'
       have:=(a3 q (by exact xaW ‹_›) (by lia)).2
       refine this ?_
       rw [mU,hel,hp']
       show aK knd p'.1=_
       rw [e']
   have hin:p.1=k->k∈ks.map (·.1):=fun e=>e ▸ xak.mpr ⟨p,hpm,rfl⟩
   have seen:∀ y∈List.map (fun x=>x.snd) (Array.filter (fun x=>x.fst == aK knd k) es).toList,∃ k' b,y=.ref b/\IsTupleKey knd s.heap k' b:=fun y hy=>by
    obtain ⟨e',he',rfl⟩:=xak.mp hy
    rw [Array.toList_filter] at he'
    have:=(xbb.mp he').1
    rw [he] at this
    obtain ⟨p',hp',rfl⟩:=xak.mp this
    exact ⟨p'.1,p'.2,rfl,his p' hp'⟩
   refine DK ?pk (K:=?K) fun key=>?main
   case main =>
    split
    ·refine xaa (qG hx seen ?_)
     rw [if_neg xam]
     exact key
    ·exact key
   rw [ei]
   dsimp only
   refine xaa (wpAny_holding (wpAny_eqBool_tuple hu (his p hpm) hx ?_))
   refine xaa (wpAny_setState_of ho hd T.fits ?_)
   dsimp only
   by_cases e:p.1=k
   ·rw [if_pos (by simp [e])]
    exact xad (hyes (hin e))
   ·rw [if_neg (by simp [e])]
    have hsm:t.sameMemory t.moves t.mask=some true:=by unfold sameMemory; rw [if_pos (by simp)]
    rw [hsm]
    dsimp only
    rw [if_pos rfl,hsl]
    dsimp only
    rw [ei]
    dsimp only
    refine xaa (m:=isSame (.ref p.2) (.ref p.2)) ?_
    unfold isSame
    dsimp only
    rw [if_pos (by simp)]
    refine xad (xaa (xad ?_))
    rw [if_pos rfl]
    dsimp only
    rw [if_neg (by simp [e])]
    exact again e
end
theorem gw {α β:Type} {f:α->β}:∀ {l l2:List β},l.Perm l2->∀ {m:List α},l2=m.map f->∃ m':List α,l=m'.map f/\m'.Perm m:=by
 intro l l2 p
 induction p with
 | nil=>intro m e; exact ⟨m,by rw [<- e],.refl _⟩
 | cons x _ ih =>
  intro m e
  cases m with
  | nil=>cases e
  | cons y m =>
   simp only [xap,List.cons.injEq] at e
   obtain ⟨m',e1,p1⟩:=ih e.2
   exact ⟨y :: m',by rw [xap,<- e1,e.1],p1.cons _⟩
 | swap x y l =>
  intro m e
  match m,e with
  | a :: b :: m,e =>
   simp only [xap,List.cons.injEq] at e
   exact ⟨b :: a :: m,by simp [e.1,e.2.1,e.2.2],.swap ..⟩
 | trans _ _ ih1 ih2 =>
  intro m e
  obtain ⟨m',e1,p1⟩:=ih2 e
  obtain ⟨m2,e2,p2⟩:=ih1 e1
  exact ⟨m2,e2,p2.trans p1⟩
theorem ql {α:Type} (xs:Array α) (p:Nat) (x:α):(insertAt xs p x).toList=xs.toList.take p++x :: xs.toList.drop p:=by
 unfold insertAt
 simp
 rw [List.take_of_length_le (by simp)]
theorem mC {prog:Program} {w:World} {A:Around} {E:Value->Shared->Prop} {s:Shared} {es:Array (Int × Value)} {t:SetTable} {order:Array Nat} {Q:Array (Int × Value) × SetTable->Shared->Prop} (hz:(order.filterMap fun i=>es[i]?).size=es.size)
  (h:Q (order.filterMap fun i=>es[i]?,t) s):wpAny (model prog w) A (zO es (some (t,order))) Q E s:=by
 show wpAny _ _ (if ((order.filterMap fun i=>es[i]?).size != es.size)=true then (do unsupported "internal:set-table-lost-an-element"; pure (order.filterMap fun i=>es[i]?,t)) else pure (order.filterMap fun i=>es[i]?,t)) _ _ _
 rw [if_neg (by simp [hz])]
 exact xad h
section
variable {prog:Program} {w:World} {K:Type} [DecidableEq K] {knd:KeyKind prog w K} {A:Around} {E:Value->Shared->Prop} {s:Shared}
theorem IsTupleKey.stay {h h':Heap} {k:List K} {a:Addr} (hk:IsTupleKey knd h k a) (e:∀ o,h.get? a=some o->h'.get? a=some o):IsTupleKey knd h' k a:=by
 obtain ⟨o,items,n,ho,r⟩:=hk
 exact ⟨o,items,n,e o ho,r⟩
theorem SetT.stay {h h':Heap} {a:Addr} {ks:List (List K × Addr)} (S:SetT knd h a ks) (e:∀ b o,h.get? b=some o->h'.get? b=some o):SetT knd h' a ks:=by
 obtain ⟨⟨o,es,ep,t,ho,r⟩,nd,is⟩:=S
 exact ⟨⟨o,es,ep,t,e _ _ ho,r⟩,nd,fun p hp=>IsTupleKey.stay (is p hp) fun o ho=>e _ _ ho⟩
theorem SetT.ne {h:Heap} {a x:Addr} {k:List K} {ks:List (List K × Addr)} (S:SetT knd h a ks) (hx:IsTupleKey knd h k x):x≠a:=by
 obtain ⟨⟨o,es,ep,t,ho,hex,_⟩,_,_⟩:=S
 obtain ⟨o',items,n,ho',hc,_⟩:=hx
 intro z
 subst z
 rw [ho] at ho'
 cases ho'
 rw [hex.1] at hc
 exact absurd hc (by decide)
theorem Cg {a x:Addr} {k:List K} {ks:List (List K × Addr)} (S:SetT knd s.heap a ks) (hx:IsTupleKey knd s.heap k x) (hz:ks.length<1000) (hu:A.units<cLine) (hsc:∀ k v,knd.is k v=true->v.scannable=true) {Q:Bool->Shared->Prop}
  (h:∀ (b:Bool) (h':Heap) (ks':List (List K × Addr)),Heap.SameBut a s.heap h'->SetT knd h' a ks'->(k∈ks.map (·.1)/\ks'=ks\/k∉ks.map (·.1)/\ks'.Perm ((k,x) :: ks))->Q b { s with heap:=h' }) :
  wpAny (model prog w) A (setAddHashed a (.ref x) (aK knd k)) Q E s:=by
 obtain ⟨⟨o,es,ep,t,ho,hex,hd,T,hM,hL,he⟩,nd,is⟩:=id S
 have hlen:es.size=ks.length:=by
  have:=congrArg List.length he
  simpa using this
 obtain ⟨m,hm,_⟩:=T.pw
 obtain ⟨e0,he0,hf0⟩:=T.free
 obtain ⟨nf,n1,n2,n3⟩:=qt hm (aK knd k) (taken t.place) he0 hf0
 unfold setAddHashed setAddHashedIn
 refine wpAny_holding (xaa (wpAny_setState_of ho hd T.fits ?_))
 dsimp only
 have hbs:byScan (.ref x) es=false:=by simp [byScan,Value.scannable]
 rw [hbs]
 simp only [xax,if_false]
 refine xaa ?_
 unfold setSearch
 refine m8 hu ho hd T he is hx (fun hin=>?_) nf n1 n2 n3 (fun hout=>?_) 100000 0 none rfl (xaz _) (by lia) fun q hq=>absurd hq (xbw q)
 ·dsimp only
  refine xad ?_
  have e:s={ s with heap:=s.heap }:=by cases s; rfl
  rw [e]
  exact h _ _ ks (Heap.SameBut.refl a s.heap) S (.inl ⟨hin,rfl⟩)
 ·dsimp only
  generalize hj:J t.mask (aK knd k) nf=j at n2 ⊢
  have hjm:j<=t.mask:=by rw [<- hj]; exact J_le ..
  have hre:Reach t.mask t.place (aK knd k) j:=⟨nf,n1,hj,n3⟩
  refine xaa (wpAny_setState_of ho hd T.fits ?_)
  dsimp only
  have hput:t.put j=({ t with place:=insertAt t.place (below t.place j) j,dummies:=#[] },below t.place j):=by
   unfold SetTable.put
   have:has t.dummies j=false:=by rw [T.dm]; rfl
   simp only [this,xax,if_false]
   rw [T.dm]
  rw [hput]
  dsimp only
  have hin:(insertAt es (below t.place j) (aK knd k,.ref x)).toList=(ks.take (below t.place j)++(k,x) :: ks.drop (below t.place j)).map (wI knd):=by
   rw [ql,he,xbL,xap,List.map_take,List.map_drop]; rfl
  have hperm:(ks.take (below t.place j)++(k,x) :: ks.drop (below t.place j)).Perm ((k,x) :: ks):=by
   refine List.perm_middle.trans ?_
   rw [List.take_append_drop]
  have hbl:below t.place j<=es.size:=by rw [<- T.sz]; exact (aP T.up j).1
  have hsz':(insertAt es (below t.place j) (aK knd k,Value.ref x)).size=es.size+1:=bL _ _ hbl
  have hxa:=S.ne hx
  have isK:∀ h',Heap.SameBut a s.heap h'->∀ ks':List (List K × Addr),ks'.Perm ((k,x) :: ks)->∀ p∈ks',IsTupleKey knd h' p.1 p.2:=fun h' sb ks' pm p hp=>by
   have:IsTupleKey knd s.heap p.1 p.2:=by
    rcases xag.mp (pm.mem_iff.mp hp) with rfl | hp
    ·exact hx
    ·exact is p hp
   exact IsTupleKey.stay this fun o' ho'=>sb.extBut _ _ (S.ne this) ho'
  have ndK:∀ ks':List (List K × Addr),ks'.Perm ((k,x) :: ks)->(ks'.map (·.1)).Nodup:=fun ks' pm=>by
   rw [(pm.map _).nodup_iff,xap,xaD]
   exact ⟨hout,nd⟩
  -- behind the flag
  have main:∀ pl:Bool,wpAny (model prog w) A (do
    storeSet a (insertAt es (below t.place j) (aK knd k,.ref x)) { t with place:=insertAt t.place (below t.place j) j,dummies:=#[],plain:=pl }
    if (!false && ({ t with place:=insertAt t.place (below t.place j) j,dummies:=#[],plain:=pl }:SetTable).tooFull)=true then do
      setRelay a (grown (es.size+1))
      pure true
     else pure true) Q E s:=fun pl=>by
   generalize ht':({ t with place:=insertAt t.place (below t.place j) j,dummies:=#[],plain:=pl }:SetTable)=t'
   have tm:t'.mask=t.mask:=by rw [<- ht']
   have tp:t'.place=insertAt t.place (below t.place j) j:=by rw [<- ht']
   have td:t'.dummies = #[]:=by rw [<- ht']
   have hfill:t'.fill=es.size+1:=by
    unfold SetTable.fill
    rw [tp,td,bL _ _ (aP T.up j).1,T.sz]; simp
   refine xaa (wpAny_storeSet_of ho hd ?_ (by rw [hsz',sizeLine_eq]; lia))
   have ho1:(s.heap.update a (Obj.putSet (insertAt es (below t.place j) (aK knd k,.ref x)) t')).get? a=some { o with data:=.set (insertAt es (below t.place j) (aK knd k,.ref x)) (ep+1) t' }:=by
    have:=xbu (Obj.putSet (insertAt es (below t.place j) (aK knd k,.ref x)) t') ho (by rw [putSet_of _ _ hd]; rfl)
    rw [putSet_of _ _ hd] at this; exact this
   have sb1:=Heap.SameBut.update s.heap a (Obj.putSet (insertAt es (below t.place j) (aK knd k,.ref x)) t')
   by_cases c:t'.tooFull=true
   ·rw [if_pos (by rw [c]; rfl)]
    have hfit:t'.fits (insertAt es (below t.place j) (aK knd k,Value.ref x)).size=true:=by
     have:=T.few
     simp only [SetTable.fits,hfill,xaA,beq_iff_eq,decide_eq_true_eq]
     rw [tp,bL _ _ (aP T.up j).1,hsz',T.sz,tm]
     exact ⟨rfl,by lia⟩
    obtain ⟨t2,order,r1,r2,r3,r4,r5,r6,r7,r8,_⟩:=sY (t:=t') (es:=insertAt es (below t.place j) (aK knd k,Value.ref x)) (by lia)
    rw [hsz'] at r1 r4
    unfold setRelay
    refine xaa (xaa (wpAny_setState_of ho1 rfl hfit ?_))
    dsimp only
    rw [if_neg (by rw [sizeLine_eq]; lia)]
    refine xaa ?_
    rw [r1]
    obtain ⟨ks',ek,pk⟩:=gw r8 hin
    refine mC r7 ?_
    dsimp only
    refine wpAny_storeSet_of ho1 rfl ?_ (by rw [r7,hsz',sizeLine_eq]; lia)
    refine xad ?_
    have sb2:=sb1.trans (Heap.SameBut.update _ a (Obj.putSet (order.filterMap fun i=>(insertAt es (below t.place j) (aK knd k,Value.ref x))[i]?) t2))
    have ho2:=xbu (Obj.putSet (order.filterMap fun i=>(insertAt es (below t.place j) (aK knd k,Value.ref x))[i]?) t2) ho1 (by rw [putSet_of _ _ rfl]; rfl)
    rw [putSet_of _ _ rfl] at ho2
    exact h true _ ks' sb2 ⟨⟨_,_,_,_,ho2,hex,rfl,r6,r5 (by lia),by rw [r3,<- ht']; exact hL,ek⟩,ndK ks' (pk.trans hperm),isK _ sb2 ks' (pk.trans hperm)⟩ (.inr ⟨hout,pk.trans hperm⟩)
   ·rw [if_neg (by simpa using c)]
    refine xad ?_
    have hfew:(es.size+1) * 5<t.mask * 3:=by
     unfold SetTable.tooFull at c
     rw [hfill,tm] at c
     simpa using c
    exact h true _ _ sb1 ⟨⟨_,_,_,_,ho1,hex,rfl,T.put hjm n2 hre tm tp td hfew,by rw [tm]; exact hM,by rw [<- ht']; exact hL,hin⟩,ndK _ hperm,isK _ sb1 _ hperm⟩ (.inr ⟨hout,hperm⟩)
  split
  ·refine xaa (fV hx hsc fun b=>?_)
   cases b with
   | true=>exact main t.plain
   | false=>exact main false
  ·exact xaa (xad (main t.plain))
end
end TS
namespace TS
open PySem PySem.SetTable PyProof.Rows
section
variable {prog:Program} {w:World} {A:Around} {R:Result->Shared->Prop} {I:Addr} {fp wr:List Addr} {n:Nat} {P:Nat->Value->Prop} {St:Nat->Heap->Prop}
theorem vo (W:Walks prog w A.in1 I fp wr n P St) (S:Addr) (hSf:S∉fp) (SI:Nat->Heap->Prop) (keep:∀ i h h',SI i h->(∀ b o,b∉wr->h.get? b=some o->h'.get? b=some o)->SI i h')
  (step:∀ (i:Nat) (v:Value) (s':Shared) (E':Value->Shared->Prop) (Q:Bool->Shared->Prop),P i v->SI i s'.heap->(∀ b h' tk,Heap.SameBut S s'.heap h'->SI (i+1) h'->Q b { s' with heap:=h',toks:=tk })->wpAny (model prog w) A.in1 (setAdd S v) Q E' s') :
  ∀ (k i:Nat) (s:Shared),n - i=k->i<=n->St i s.heap->SI i s.heap ->
   (∀ h' tk,SI n h'->(∀ b o,b∉wr->b≠S->s.heap.get? b=some o->h'.get? b=some o)->R (.ok (.ret .none)) { s with heap:=h',toks:=tk }) ->
   codeAny (model prog w) A (.builtin "set.update.loop" ⟨[.ref S,.ref I],[]⟩) R s:=by
 have hSw:S∉wr:=fun h=>hSf (W.sub _ h)
 intro k
 induction k with
 | zero =>
  intro i s hk hi hst hS hR
  have hin:i=n:=by lia
  subst hin
  refine codeAny_builtin F.entry_set_update_loop ?_
  rw [Around.under_plainId F.plain_set_update_loop _]
  show wpAny _ A.in1 (pyNext (.ref I) >>= _) _ _ s
  refine xaa (W.done s _ _ hst fun h' tk hk'=>?_)
  show wpAny _ A.in1 (ret Value.none) _ _ _
  exact xad (hR h' tk (keep _ _ _ hS hk') fun b o hb _ e=>hk' b o hb e)
 | succ k ih =>
  intro i s hk hi hst hS hR
  have hlt:i<n:=by lia
  refine codeAny_builtin F.entry_set_update_loop ?_
  rw [Around.under_plainId F.plain_set_update_loop _]
  show wpAny _ A.in1 (pyNext (.ref I) >>= _) _ _ s
  refine xaa (W.item i s _ _ hlt hst fun v h' tk hP hst' hk'=>?_)
  show wpAny _ A.in1 (holding [v] (setAdd S v) >>= _) _ _ _
  refine xaa (wpAny_holding (step i v _ _ _ hP (keep _ _ _ hS hk') fun b h2 tk2 sb hS2=>?_))
  refine xad ⟨plainId_quiet F.plain_set_update_loop _,ih (i+1) _ (by lia) hlt (W.frame _ _ _ hst' fun b hb o e=>?_) hS2 fun h3 tk3 hS3 hk3=>?_⟩
  ·exact sb.extBut b o (fun z=>hSf (by rw [<- z]; exact hb)) e
  ·exact hR h3 tk3 hS3 fun b o hb hbS e=>hk3 b o hb hbS (sb.extBut b o hbS (hk' b o hb e))
end
section
variable {prog:Program} {w:World} {A:Around} {E:Value->Shared->Prop} {s:Shared}
theorem rO (a:Value) {Q₁:Value->Shared->Prop}
  (h:Q₁ (.ref s.heap.objs.size) { s with heap:=s.heap.push { cls:=.type "set",dict:=none,data:=.set #[] 0 (.fresh 0 0 (!w.params.followText "set-order")) } }) :
  codeAny (model prog w) A (.call (.builtin "set.__new__") ⟨[.type "set",a],[]⟩) (wants Q₁ E) s:=by
 refine codeAny_of_tree ?_
 show wpAny _ A.in1 (do checkBuiltinCall "set.__new__" ⟨[.type "set",a],[]⟩; again (.builtin "set.__new__" ⟨[.type "set",a],[]⟩)) _ _ s
 refine xaa (wpAny_of_eq (F.newCall_set_1 a) (xad ⟨plainId_quiet F.plain_set_new _,codeAny_builtin F.entry_set_new ?_⟩))
 rw [Around.under_plainId F.plain_set_new _]
 unfold Builtin.«set.__new__» Builtin.Frozenset.newClass
 have hsub:=sub_set_self
 obtain ⟨hp,g,d,tk,os⟩:=s
 dsimp only
 wp_walk
 refine wpAny_askSetting (xad ?_)
 dsimp only
 simp only [newObj]
 refine xaa (wpAny_alloc (xad ?_))
 exact xad h
theorem mO {l:Addr} {items:Array Value} {Q:Value->Shared->Prop} (hh:A.handled=none) (hl:s.heap.IsList l items) (SI:Nat->Heap->Prop)
  (h0:∀ h,h.get? s.heap.objs.size=some { cls:=.type "set",dict:=none,data:=.set #[] 0 (.fresh 0 0 (!w.params.followText "set-order")) }->(∀ b o,s.heap.get? b=some o->h.get? b=some o)->SI 0 h)
  (keep:∀ i h h',SI i h->(∀ b o,b<=s.heap.objs.size->h.get? b=some o->h'.get? b=some o)->SI i h')
  (step:∀ (i:Nat) (v:Value) (s':Shared) (E':Value->Shared->Prop) (Q:Bool->Shared->Prop),items[i]? = some v->SI i s'.heap->(∀ b h' tk,Heap.SameBut s.heap.objs.size s'.heap h'->SI (i+1) h'->Q b { s' with heap:=h',toks:=tk }) ->
   wpAny (model prog w) A.in1.in1.in1 (setAdd s.heap.objs.size v) Q E' s')
  (h:∀ (h':Heap) (tk:Nat),SI items.size h'->(∀ b o,b<s.heap.objs.size->s.heap.get? b=some o->h'.get? b=some o)->Q (.ref s.heap.objs.size) { s with heap:=h',toks:=tk }) :
  wpAny (model prog w) A (call (.type "set") [.ref l]) Q E s:=by
 obtain ⟨c,tl,hmro⟩:=F.called_set.mro
 have hmade:=F.called_set.made
 have hsub:=F.called_set.sub
 refine wpAny_call (codeAny_of_tree ?_)
 show wpAny _ _ (callAny (.type "set") _) _ _ _
 refine xad ⟨Code.quiet_builtin _ (by decide +kernel),codeAny_builtin F.entry_type_call ?_⟩
 rw [Around.under_plain (weight_type_call_type "set" [.ref l] []) rfl]
 have h1:=F.called_set.notType
 have h2:=F.called_set.canCreate
 have hct:=F.typeCall_set_1 (.ref l)
 repeat (any_goals (first | assumption | wp_step))
 refine codeAny_mono (rO (.ref l) (E:=E) (Q₁:=fun obj s₁=>obj=.ref s.heap.objs.size/\s₁={ s with heap:=s.heap.push { cls:=.type "set",dict:=none,data:=.set #[] 0 (.fresh 0 0 (!w.params.followText "set-order")) } }) ⟨rfl,rfl⟩) fun r s₁ hr=>?_
 cases r with
 | error e=>exact hr
 | ok fl =>
  cases fl with
  | ret obj =>
   obtain ⟨rfl,rfl⟩:=hr
   generalize hled:(!w.params.followText "set-order")=led at h0 ⊢
   have hS:(s.heap.push { cls:=.type "set",dict:=none,data:=.set #[] 0 (.fresh 0 0 led) }).get? s.heap.objs.size=some { cls:=.type "set",dict:=none,data:=.set #[] 0 (.fresh 0 0 led) }:=xao _ rfl
   have hT:Shared.TypeIs { s with heap:=s.heap.push { cls:=.type "set",dict:=none,data:=.set #[] 0 (.fresh 0 0 led) } } (.ref s.heap.objs.size) "set" := ⟨_,hS,rfl⟩
   have hli:=F.called_set.init.lookup
   have hbi:=F.called_set.init.bind (.ref s.heap.objs.size)
   repeat (any_goals (first | assumption | wp_step))
   refine codeAny_mono (codeAny_call_builtin (R:=wants (fun r s₂=>r=.none/\∃ h' tk,s₂={ s with heap:=h',toks:=tk }/\SI items.size h' /\
     (∀ b o,b<s.heap.objs.size->s.heap.get? b=some o->h'.get? b=some o)) E) F.called_set.init.plain F.entry_set_init (check_set_init_1 hT ?_)) fun r₂ s₂ hr₂=>?_
   ·obtain ⟨ol,hol,hcl,nl,hdl⟩:=hl
    obtain ⟨ocls,odict,odata,oslots⟩:=ol
    simp only at hcl hdl
    subst hcl; subst hdl
    have hol':(s.heap.push { cls:=.type "set",dict:=none,data:=.set #[] 0 (.fresh 0 0 led) }).get? l=some { cls:=.type "list",dict:=odict,data:=.seq items nl,slots:=oslots }:=xae _ hol
    have hsls:=F.sub_list_set
    have hslf:=F.sub_list_frozenset
    have hne:(Value.type "list" == Value.type "dict")=false:=by decide
    have hl1:(s.heap.push { cls:=.type "set",dict:=none,data:=.set #[] 0 (.fresh 0 0 led) }).IsList l items:=⟨_,hol',rfl,nl,rfl⟩
    unfold Builtin.«set.__init__» noKeywords Builtin.Frozenset.updateFrom
    generalize hPI:pyIter=PI
    wp_walk
    subst hPI
    refine wpAny_pyIter_list hl1 ?_
    refine xaa (wpAny_runValue ?_)
    have hlS:l<s.heap.objs.size:=xan hol
    have hh3:A.in1.in1.in1.handled=none:=by simp [hh]
    have hsz:(s.heap.push { cls:=.type "set",dict:=none,data:=.set #[] 0 (.fresh 0 0 led) }).objs.size=s.heap.objs.size+1:=xbt ..
    have hneI:l≠(s.heap.push { cls:=.type "set",dict:=none,data:=.set #[] 0 (.fresh 0 0 led) }).objs.size:=by
     rw [hsz]; exact xat (xaI hlS)
    have hSf:s.heap.objs.size∉[(s.heap.push { cls:=.type "set",dict:=none,data:=.set #[] 0 (.fresh 0 0 led) }).objs.size,l]:=by
     rw [hsz]; simp only [xag,xaC,xbR,or_false,not_or]
     exact ⟨xat (xb4 _),xbW hlS⟩
    refine vo (Walks.list hh3 _ l hneI items) s.heap.objs.size hSf SI (fun i h h' hi hk=>keep i h h' hi fun b o hb e=>hk b o ?_ e) (fun i v s' E' Q' hP hi hq=>step i v s' E' Q' hP hi hq) (items.size - 0) 0 _ (by rfl) (xaz _)
     ⟨⟨_,xao _ rfl,rfl,rfl⟩,(hl1.push _)⟩ ?hS0 ?hR
    ·rw [hsz]
     simp only [xag,xbR,or_false]
     exact xat (xaV hb)
    case hS0 =>
     exact h0 _ (xae _ hS) fun b o e=>xae _ (xae _ e)
    case hR =>
     intro h' tk' hS' hk'
     show wpAny _ _ _ _ _ _
     refine xad ?_
     show wpAny _ _ (ret Value.none) _ _ _
     refine xad ⟨rfl,h',tk',rfl,hS',fun b o hb e=>?_⟩
     refine hk' b o ?_ (xat hb) (xae _ (xae _ e))
     rw [hsz]
     simp only [xag,xbR,or_false]
     exact xat (xaI hb)
   ·cases r₂ with
    | error e=>exact hr₂
    | ok fl₂ =>
     cases fl₂ with
     | ret r =>
      obtain ⟨rfl,h',tk,rfl,hS',hk'⟩:=hr₂
      repeat (any_goals (first | assumption | wp_step))
      exact h _ _ hS' hk'
     | _=>exact hr₂.elim
  | _=>exact hr.elim
end
theorem lX:Manifest.owners.lookup (String.ofList ['r','o','t','a','r','e','t','i','_','t','e','s'].reverse)=some Manifest.sig_set_iterator:=by kernel_rfl
theorem aX:Slot "set_iterator" "__next__" "set_iterator.__next__" :=
 .of (owner := "set_iterator") (n := "__next__") (by rw [typeLookup_type,builtinLookup_eq_fast]; kernel_rfl) (by decide +kernel) (by decide +kernel) (by decide +kernel)
  (by first | exact .inl (by decide +kernel) | exact .inr (by decide +kernel)) (by rw [isSubtype_type]; kernel_rfl)
theorem jg:entryFor table "set_iterator.__next__" = some Builtin.«set_iterator.__next__» := entryFor_of_tree (by kernel_rfl)
theorem lH (a:Value):argsOk "set_iterator.__next__" ⟨[a],[]⟩:=by
 unfold argsOk; rw [signature?_of (id := "set_iterator.__next__") (n:=['_','_','t','x','e','n','_','_']) (o:=['r','o','t','a','r','e','t','i','_','t','e','s']) (by kernel_rfl) lX]; kernel_rfl
theorem fM:Slot "set_iterator" "__iter__" "set_iterator.__iter__" :=
 .of (owner := "set_iterator") (n := "__iter__") (by rw [typeLookup_type,builtinLookup_eq_fast]; kernel_rfl) (by decide +kernel) (by decide +kernel) (by decide +kernel)
  (by first | exact .inl (by decide +kernel) | exact .inr (by decide +kernel)) (by rw [isSubtype_type]; kernel_rfl)
theorem jj:entryFor table "set.__iter__" = some Builtin.«frozenset.__iter__» :=
 entryFor_alias (id' := "frozenset.__iter__") (by kernel_rfl) rfl (by decide +kernel) (by kernel_rfl)
theorem gm {α:Type}:∀ (l:List α) (i:Nat) (h:i<l.length),(l[i] :: l.eraseIdx i).Perm l
 | x :: l,0,_=>.refl _
 | x :: l,i+1,h=>by
  have ih:=gm l i (by simpa using h)
  exact (List.Perm.swap _ _ _).trans (ih.cons x)
theorem uF {α:Type} (next:Nat->Nat):∀ (fuel k:Nat) (left:List α) (out:Array α),left.length=fuel->(pickOrder.go next fuel k left out).toList.Perm (out.toList++left)
 | 0,k,left,out,h=>by
  have:left=[]:=xbH.mp h
  subst this
  unfold pickOrder.go
  rw [xaO]
 | fuel+1,k,left,out,h=>by
  unfold pickOrder.go
  have hlt:next k % left.length<left.length:=xcf _ (by lia)
  rw [xau hlt]
  dsimp only
  refine (uF next fuel (k+1) _ _ (by rw [List.length_eraseIdx]; split <;> lia)).trans ?_
  rw [Array.toList_push,xbZ]
  refine List.Perm.append_left _ ?_
  exact gm _ _ hlt
theorem iV {α:Type} (next:Nat->Nat) (xs:Array α):(pickOrder next xs).toList.Perm xs.toList:=by
 unfold pickOrder
 have:=uF next xs.size 0 xs.toList #[] (by simp)
 simpa using this
section
variable {prog:Program} {w:World} {A:Around} {E:Value->Shared->Prop} {s:Shared}
theorem m7 {M:Model} {src:Source} {n:Nat} {Q:Nat->Shared->Prop} (hn:n≠0) (h:∀ i d,i<n->Q i { s with drawn:=d }):wpAny M A (choose src n) Q E s:=fun Γ p _=>⟨hn,h _ _ (xcf _ (Nat.pos_of_ne_zero hn))⟩
theorem yr {α:Type} (n:Nat):∀ (xs:List α) (s:Shared) (Q:List α->Shared->Prop),xs.length=n->(∀ ys d,ys.Perm xs->Q ys { s with drawn:=d })->wpAny (model prog w) A (drawOrder n xs) Q E s:=by
 induction n with
 | zero =>
  intro xs s Q h q
  have:xs=[]:=xbH.mp h
  subst this
  unfold drawOrder
  exact xad (q [] s.drawn (.refl _))
 | succ n ih =>
  intro xs s Q h q
  cases xs with
  | nil=>cases h
  | cons x xs =>
   unfold drawOrder
   refine xaa (m7 (by simp) fun i d hi=>?_)
   rw [xau hi]
   dsimp only
   refine xaa (ih _ _ _ (by rw [List.length_eraseIdx,if_pos hi]; simp at h ⊢; lia) fun ys d' py=>?_)
   refine xad ?_
   exact q _ d' ((py.cons _).trans (gm _ _ hi))
def SIt (h:Heap) (I:Addr) (first:Value) (i:Nat) (a:Addr) (n ep:Nat):Prop :=
 h.get? I=some { cls:=.type "set_iterator",dict:=none,data:=.fields #[first,.int i 0,.ref a,.int n 0,.int ep 0],slots:=#[] }
def SOb (h:Heap) (a:Addr) (es:Array (Int × Value)) (ep:Nat) (t:SetTable):Prop:=∃ o,h.get? a=some o/\o.data=.set es ep t
variable {a I:Addr} {es:Array (Int × Value)} {ep:Nat} {t:SetTable} {first:Value} {i n:Nat}
theorem SIt.typeIs (h:SIt s.heap I first i a n ep):s.TypeIs (.ref I) "set_iterator" := ⟨_,h,rfl⟩
theorem uf {Q:Option Value->Shared->Prop} (hit:SIt s.heap I first i a n ep)
  (h:wpAny (model prog w) A.in1 (Builtin.«set_iterator.__next__» ⟨[.ref I],[]⟩) (fun fin s'=>∃ v,fin=.done (.ret v)/\Q (some v) s') (fun e s'=>wpAny (model prog w) A (isInstance e (.type "StopIteration")) (fun b s''=>b=true/\Q none s'') E s') s) :
  wpAny (model prog w) A (pyNext (.ref I)) Q E s:=by
 unfold pyNext
 refine xaa (wpAny_attempt (wpAny_callSpecial?_slot (name:=Str.ofString "__next__") hit.typeIs aX
  (wpAny_call_entry aX hit.typeIs jg ?_ (lH _))))
 refine xa2 h (fun fin s' ⟨v,e,q⟩=>⟨v,e,xad q⟩) fun e s' q=>?_
 refine xaa (xa2 q (fun b s'' hx9=>?_) fun _ _ x=>x)
 obtain ⟨e,q⟩:=hx9
 subst e
 rw [if_pos rfl]
 exact xad q
theorem rM {P:Fin->Shared->Prop} {Q:Option Value->Shared->Prop} (hh:A.handled=none) (hQ:∀ h',(∀ b o,s.heap.get? b=some o->h'.get? b=some o)->Q none { s with heap:=h' }) :
  wpAny (model prog w) A.in1 (newExc (.type "StopIteration") [] >>= fun e=>raiseNew e) P (fun e s'=>wpAny (model prog w) A (isInstance e (.type "StopIteration")) (fun b s''=>b=true/\Q none s'') E s') s:=by
 refine xaa ?_
 simp only [newExc,newTuple]
 refine xaa (wpAny_newObj_type ?_ (by size_fits))
 refine xaa (m:=firstArgMember _ _) (wpAny_of_eq (a:=Value.none) (by first | rfl | (simp only [firstArgMember]; rfl)) ?_)
 refine wpAny_newObj_type ?_ (by size_fits)
 simp only [raiseNew]
 refine xaa (wpAny_handled ?_)
 rw [show A.in1.handled=none from hh]
 refine xaa (xad (wpAny_throw ?_))
 refine wpAny_isInstance (T := "StopIteration") (b:=true) ⟨_,xao _ rfl,rfl⟩ isSubtype_stop ⟨rfl,?_⟩
 exact hQ _ fun b o e=>xae _ (xae _ e)
theorem fK {Q:Option Value->Shared->Prop} {slot:Nat} {r:Option (Value × Nat)} (hh:A.handled=none) (hne:a≠I) (hit:SIt s.heap I (.int slot 0) i a es.size ep) (hob:SOb s.heap a es ep t) (hf:t.fits es.size=true)
  (hr:∀ (A':Around) (E':Value->Shared->Prop) (Q':Option (Value × Nat)->Shared->Prop),Q' r s->wpAny (model prog w) A' (setNext a slot i ep) Q' E' s)
  (h1:∀ x nx h',r=some (x,nx)->SIt h' I (.int nx 0) (i+1) a es.size ep->Heap.SameBut I s.heap h'->Q (some x) { s with heap:=h' })
  (h2:∀ h',r=none->(∀ b o,b≠I->s.heap.get? b=some o->h'.get? b=some o)->Q none { s with heap:=h' }) :
  wpAny (model prog w) A (pyNext (.ref I)) Q E s:=by
 obtain ⟨o,ho,hd⟩:=hob
 refine uf hit ?_
 unfold Builtin.«set_iterator.__next__»
 refine xaa (m:=slotArgs "__next__" 0 ⟨[.ref I],[]⟩) (wpAny_of_eq (a:=(.ref I,[])) rfl ?_)
 dsimp only
 refine xaa (wpAny_fieldsOf hit rfl ?_)
 dsimp only
 refine xaa (wpAny_setEntries_of ho hd hf ?_)
 rw [if_neg (by simp)]
 simp only [xby]
 refine xaa (hr _ _ _ ?_)
 cases r with
 | some p =>
  obtain ⟨x,nx⟩:=p
  dsimp only
  refine xaa (wpAny_setField_rec hit (by simp) fun g1 e1 sb1=>?_)
  refine xaa (wpAny_setField_rec (s:={ s with heap:=g1 }) e1 (by simp) fun g2 e2 sb2=>?_)
  exact xad ⟨x,rfl,h1 x nx g2 rfl (by unfold SIt; simpa [rawInt] using e2) (sb1.trans sb2)⟩
 | none =>
  dsimp only
  refine xaa (wpAny_setField_rec hit (by simp) fun g1 e1 sb1=>?_)
  exact rM (s:={ s with heap:=g1 }) hh fun h' k=>h2 h' rfl fun b o hb e=>k b o (sb1.extBut b o hb e)
theorem jL {Q:Option Value->Shared->Prop} {T:Addr} {ix:List Nat} {oT:Obj} {kT:Nat} (hh:A.handled=none) (hit:SIt s.heap I (.ref T) i a es.size ep) (hob:SOb s.heap a es ep t) (hf:t.fits es.size=true)
  (hT:s.heap.get? T=some oT) (hTd:oT.data=.seq (ix.map fun (k:Nat)=>Value.int k 0).toArray kT)
  (h1:∀ k e h',ix[i]? = some k->es[k]? = some e->SIt h' I (.ref T) (i+1) a es.size ep->Heap.SameBut I s.heap h'->Q (some e.2) { s with heap:=h' }) (hix:∀ k∈ix,k<es.size)
  (h2:∀ h',ix[i]? = none->(∀ b o,b≠I->s.heap.get? b=some o->h'.get? b=some o)->Q none { s with heap:=h' }) :
  wpAny (model prog w) A (pyNext (.ref I)) Q E s:=by
 obtain ⟨o,ho,hd⟩:=hob
 refine uf hit ?_
 unfold Builtin.«set_iterator.__next__»
 refine xaa (m:=slotArgs "__next__" 0 ⟨[.ref I],[]⟩) (wpAny_of_eq (a:=(.ref I,[])) rfl ?_)
 dsimp only
 refine xaa (wpAny_fieldsOf hit rfl ?_)
 dsimp only
 refine xaa (wpAny_setEntries_of ho hd hf ?_)
 rw [if_neg (by simp)]
 refine xaa (wpAny_seqItems hT hTd ?_)
 dsimp only
 simp only [xby,List.getElem?_toArray,xaH]
 cases hk:ix[i]? with
 | some k =>
  dsimp only [Option.map]
  have hkl:=hix k (xaB hk)
  refine xaa ?_
  unfold setNextDrawn
  refine xaa (wpAny_setState_of ho hd hf ?_)
  dsimp only
  simp only [xby]
  rw [if_neg (by simp),xaJ hkl]
  refine xad ?_
  refine xaa (wpAny_setField_rec hit (by simp) fun g1 e1 sb1=>?_)
  exact xad ⟨_,rfl,h1 k es[k] g1 hk (xaJ hkl) (by unfold SIt; simpa [rawInt] using e1) sb1⟩
 | none =>
  dsimp only [Option.map]
  refine xaa (wpAny_setField_rec hit (by simp) fun g1 e1 sb1=>?_)
  refine xaa (wpAny_setField_rec (s:={ s with heap:=g1 }) e1 (by simp) fun g2 e2 sb2=>?_)
  exact rM (s:={ s with heap:=g2 }) hh fun h' k=>h2 h' hk fun b o hb e=>k b o ((sb1.trans sb2).extBut b o hb e)
theorem jW (a:Value):argsOk "set_iterator.__iter__" ⟨[a],[]⟩:=by
 unfold argsOk; rw [signature?_of (id := "set_iterator.__iter__") (n:=['_','_','r','e','t','i','_','_']) (o:=['r','o','t','a','r','e','t','i','_','t','e','s']) (by kernel_rfl) lX]; kernel_rfl
theorem jq:entryFor table "set_iterator.__iter__" = some Builtin.«dict_keyiterator.__iter__» :=
 entryFor_alias (id' := "dict_keyiterator.__iter__") (by kernel_rfl) rfl (by decide +kernel) (by kernel_rfl)
theorem ir {Q:Value->Shared->Prop} (hit:SIt s.heap I first i a n ep) (h:Q (.ref I) s):wpAny (model prog w) A (pyIter (.ref I)) Q E s:=by
 refine wpAny_pyIter_slot hit.typeIs fM (wpAny_call_entry fM hit.typeIs jq ?_ (jW _))
 show wpAny _ _ (ret (.ref I)) _ _ s
 exact xad ⟨_,rfl, "set_iterator",_,hit.typeIs,aX.lookup,h⟩
theorem lO {slot:Nat} {Q:Option (Value × Nat)->Shared->Prop} (hb:w.params.followText "set-order" = true) (hob:SOb s.heap a es ep t) (hf:t.fits es.size=true)
  (h:Q (((pickOrder (w.params.setOrder a ep) es)[i]?).map fun e=>(e.2,slot)) s):wpAny (model prog w) A (setNext a slot i ep) Q E s:=by
 obtain ⟨o,ho,hd⟩:=hob
 unfold setNext
 refine xaa (wpAny_setState_of ho hd hf ?_)
 dsimp only
 unfold setsByText
 refine xaa (xaa (wpAny_askSetting (xad ?_)))
 dsimp only
 rw [if_pos (by exact hb),if_neg (by simp)]
 refine xaa ?_
 unfold setWalk
 refine xaa (wpAny_setState_of ho hd hf ?_)
 dsimp only
 unfold setsByText
 refine xaa (xaa (wpAny_askSetting (xad ?_)))
 dsimp only
 rw [if_pos (by exact hb)]
 refine xaa (wpAny_askSetting (xad ?_))
 exact xad h
theorem jF {slot:Nat} {Q:Option (Value × Nat)->Shared->Prop} (hb:w.params.followText "set-order" = false) (hl:t.led=true) (hdr:(!t.plain && decide (es.size>1))=false) (hob:SOb s.heap a es ep t) (hf:t.fits es.size=true)
  (h:Q (match es[below t.place slot]?,t.place[below t.place slot]? with
  | some (_,x),some j=>some (x,j+1)
  | _,_=>none) s):wpAny (model prog w) A (setNext a slot i ep) Q E s:=by
 obtain ⟨o,ho,hd⟩:=hob
 unfold setNext
 refine xaa (wpAny_setState_of ho hd hf ?_)
 dsimp only
 unfold setsByText
 refine xaa (xaa (wpAny_askSetting (xad ?_)))
 dsimp only
 rw [if_neg (by rw [show (model prog w).w.params.followText "set-order" = false from hb]; exact xam)]
 have e0:lJ es t=(!t.plain && decide (es.size>1)):=rfl
 unfold lJ at e0
 rw [e0,hdr,if_neg xam]
 refine xaa (m:=Ds es t) ?_
 show wpAny _ _ (if (!t.led && !es.isEmpty)=true then unsupported "set:maker-not-led" else pure ()) _ _ s
 rw [if_neg (by rw [hl]; simp)]
 exact xad (xad h)
def PV (ys:List (Int × Value)) (i:Nat) (v:Value):Prop:=∃ e,ys[i]? = some e/\v=e.2
theorem SIt.keep {h h':Heap} (x:SIt h I first i a n ep) (e:∀ o,h.get? I=some o->h'.get? I=some o):SIt h' I first i a n ep:=e _ x
theorem SOb.keep {h h':Heap} (x:SOb h a es ep t) (e:∀ o,h.get? a=some o->h'.get? a=some o):SOb h' a es ep t:=let ⟨o,ho,r⟩:=x; ⟨o,e _ ho,r⟩
theorem uv (hh:A.handled=none) (hne:a≠I) (hb:w.params.followText "set-order" = true) (hf:t.fits es.size=true) :
  Walks prog w A I [I,a] [I] es.size (PV (pickOrder (w.params.setOrder a ep) es).toList) (fun i h=>(∃ slot:Nat,SIt h I (.int slot 0) i a es.size ep)/\SOb h a es ep t) where
 sub:=fun b hb=>by simp at hb; simp [hb]
 frame:=fun _ _ _ ⟨⟨sl,x⟩,y⟩ hk=>⟨⟨sl,x.keep fun o e=>hk I (by simp) o e⟩,y.keep fun o e=>hk a (by simp) o e⟩
 item:=fun i s Q E hi ⟨⟨sl,x⟩,y⟩ hQ=>by
  have hlen:(pickOrder (w.params.setOrder a ep) es).size=es.size:=by
   have:=(iV (w.params.setOrder a ep) es).length_eq
   simpa using this
  refine fK hh hne x y hf (r:=((pickOrder (w.params.setOrder a ep) es)[i]?).map fun e=>(e.2,sl)) (fun A' E' Q' q=>lO hb y hf q) (fun v nx h' e x' sb=>?_) fun h' e k=>?_
  ·rw [xaJ (by lia)] at e
   cases e
   exact hQ _ h' s.toks ⟨_,by rw [xaE]; exact xaJ (by lia),rfl⟩ ⟨⟨_,x'⟩,y.keep fun o e=>sb.extBut _ _ hne e⟩ fun b o hb e=>sb.extBut b o (fun h=>hb (by simp [h])) e
  ·rw [xaJ (by lia)] at e
   cases e
 done:=fun s Q E ⟨⟨sl,x⟩,y⟩ hQ=>by
  have hlen:(pickOrder (w.params.setOrder a ep) es).size=es.size:=by
   have:=(iV (w.params.setOrder a ep) es).length_eq
   simpa using this
  refine fK hh hne x y hf (r:=((pickOrder (w.params.setOrder a ep) es)[es.size]?).map fun e=>(e.2,sl)) (fun A' E' Q' q=>lO hb y hf q) (fun v nx h' e x' sb=>?_) fun h' e k=>?_
  ·rw [xaZ (by lia)] at e
   cases e
  ·exact hQ h' s.toks fun b o hb e=>k b o (fun h=>hb (by simp [h])) e
 self:=fun _ _ _ _ ⟨⟨sl,x⟩,y⟩ hQ=>ir x hQ
def slotAt (t:SetTable):Nat->Nat
 | 0=>0
 | i+1=>t.place.getD i 0+1
theorem gB (U:Up t.place) {i:Nat} (h:i<=t.place.size):below t.place (slotAt t i)=i:=by
 cases i with
 | zero =>
  obtain ⟨_,b,_⟩:=aP U 0
  by_cases z:below t.place 0=0
  ·exact z
  ·exact absurd (b 0 (Nat.pos_of_ne_zero z)) (xbw _)
 | succ i=>exact rD U (by assumption)
theorem qC (hh:A.handled=none) (hne:a≠I) (hb:w.params.followText "set-order" = false) (hl:t.led=true) (hdr:(!t.plain && decide (es.size>1))=false) (U:Up t.place) (hz:t.place.size=es.size) (hf:t.fits es.size=true) :
  Walks prog w A I [I,a] [I] es.size (PV es.toList) (fun i h=>SIt h I (.int (slotAt t i:Nat) 0) i a es.size ep/\SOb h a es ep t) where
 sub:=fun b hb=>by simp at hb; simp [hb]
 frame:=fun _ _ _ ⟨x,y⟩ hk=>⟨x.keep fun o e=>hk I (by simp) o e,y.keep fun o e=>hk a (by simp) o e⟩
 item:=fun i s Q E hi ⟨x,y⟩ hQ=>by
  have hbl:=gB (t:=t) U (i:=i) (by lia)
  have e1:es[below t.place (slotAt t i)]? = some es[i]:=by rw [hbl]; exact xaJ hi
  have e2:t.place[below t.place (slotAt t i)]? = some (t.place.getD i 0):=by rw [hbl]; exact tX (by lia)
  refine fK hh hne x y hf (r:=some (es[i].2,t.place.getD i 0+1)) (fun A' E' Q' q=>jF hb hl hdr y hf (by rw [e1,e2]; exact q)) (fun v nx h' e x' sb=>?_) fun h' e k=>nomatch e
  cases e
  exact hQ _ h' s.toks ⟨_,by rw [xaE]; exact xaJ hi,rfl⟩ ⟨x',y.keep fun o e=>sb.extBut _ _ hne e⟩ fun b o hb e=>sb.extBut b o (fun h=>hb (by simp [h])) e
 done:=fun s Q E ⟨x,y⟩ hQ=>by
  have hbl:=gB (t:=t) U (i:=es.size) (by lia)
  have e1:es[below t.place (slotAt t es.size)]? = none:=by rw [hbl]; exact xaZ (xah _)
  refine fK hh hne x y hf (r:=none) (fun A' E' Q' q=>jF hb hl hdr y hf (by rw [e1]; exact q)) (fun v nx h' e x' sb=>nomatch e) fun h' e k=>?_
  exact hQ h' s.toks fun b o hb e=>k b o (fun h=>hb (by simp [h])) e
 self:=fun _ _ _ _ ⟨x,y⟩ hQ=>ir x hQ
theorem qO {T:Addr} {ix:List Nat} {kT:Nat} (hh:A.handled=none) (hne:a≠I) (hTI:T≠I) (hf:t.fits es.size=true) (hp:ix.Perm (List.range es.size)) :
  Walks prog w A I [I,a,T] [I] es.size (PV (ix.filterMap fun k=>es[k]?)) (fun i h=>SIt h I (.ref T) i a es.size ep/\SOb h a es ep t/\∃ o,h.get? T=some o/\o.data=.seq (ix.map fun (k:Nat)=>Value.int k 0).toArray kT):=by
 have hlen:ix.length=es.size:=by simpa using hp.length_eq
 have hix:∀ k∈ix,k<es.size:=fun k hk=>xaS.mp (hp.mem_iff.mp hk)
 obtain ⟨f1,f2⟩:=pW (l:=ix) (f:=fun k=>es[k]?) fun k hk=>by simp [hix k hk]
 exact {
  sub:=fun b hb=>by simp at hb; simp [hb]
  frame:=fun _ _ _ ⟨x,y,o,z,zd⟩ hk=>⟨x.keep fun o e=>hk I (by simp) o e,y.keep fun o e=>hk a (by simp) o e,o,hk T (by simp) o z,zd⟩
  item:=fun i s Q E hi ⟨x,y,o,z,zd⟩ hQ=>by
   refine jL hh x y hf z zd (fun k e h' e1 e2 x' sb=>?_) hix fun h' e k=>?_
   ·refine hQ _ h' s.toks ⟨e,by rw [f2,e1]; exact e2,rfl⟩ ⟨x',y.keep fun o e=>sb.extBut _ _ hne e,o,sb.extBut _ _ hTI z,zd⟩ fun b o hb e=>sb.extBut b o (fun h=>hb (by simp [h])) e
   ·rw [xau (by lia)] at e; cases e
  done:=fun s Q E ⟨x,y,o,z,zd⟩ hQ=>by
   refine jL hh x y hf z zd (fun k e h' e1 e2 x' sb=>?_) hix fun h' e k=>?_
   ·rw [xaF (by lia)] at e1; cases e1
   ·exact hQ h' s.toks fun b o hb e=>k b o (fun h=>hb (by simp [h])) e
  self:=fun _ _ _ _ ⟨x,_⟩ hQ=>ir x hQ }
end
section
variable {prog:Program} {w:World} {A:Around} {E:Value->Shared->Prop} {s:Shared} {a:Addr} {o:Obj} {es:Array (Int × Value)} {ep:Nat} {t:SetTable}
theorem wW {Q:Value->Shared->Prop} (hh:A.handled=none) (ho:s.heap.get? a=some o) (hex:o.ExactSet) (hd:o.data=.set es ep t) (hf:t.fits es.size=true) (U:Up t.place) (hz:t.place.size=es.size) (hl:t.led=(!w.params.followText "set-order")) (hn:es.size<=sizeLine)
  (h:∀ (I:Addr) (h2:Heap) d (fp:List Addr) (St:Nat->Heap->Prop) (ys:List (Int × Value)),(∀ b o,s.heap.get? b=some o->h2.get? b=some o)->s.heap.objs.size<=I->(∀ b∈fp,b=a\/s.heap.objs.size<=b)->ys.Perm es.toList ->
   Walks prog w A I fp [I] es.size (PV ys) St->St 0 h2->Q (.ref I) { s with heap:=h2,drawn:=d }):wpAny (model prog w) A (pyIter (.ref a)) Q E s:=by
 have hT:s.TypeIs (.ref a) "set" := ⟨o,ho,hex.1⟩
 have hlt:a<s.heap.objs.size:=xan ho
 refine wpAny_pyIter_slot hT F.slot_set_iter (wpAny_call_entry F.slot_set_iter hT jj ?_ (F.args_set_iter_1 _))
 unfold Builtin.«frozenset.__iter__»
 refine xaa (m:=Builtin.Frozenset.slot0 "__iter__" ⟨[.ref a],[]⟩) (wpAny_of_eq (a:=a) rfl ?_)
 refine xaa ?_
 unfold Builtin.Frozenset.sizeOf
 refine xaa (wpAny_setEntries_of ho hd hf (xad ?_))
 refine xaa ?_
 unfold setDrawn
 refine xaa (wpAny_setState_of ho hd hf ?_)
 dsimp only
 unfold setsByText
 refine xaa (xaa (wpAny_askSetting (xad ?_)))
 refine xad ?_
 have e0:lJ es t=(!t.plain && decide (es.size>1)):=rfl
 unfold lJ at e0
 rw [e0]
 show wpAny _ _ (if (!w.params.followText "set-order" && (!t.plain && decide (es.size>1)))=true then _ else _) _ _ s
 cases hb:w.params.followText "set-order" with
 | true =>
  rw [if_neg (by simp)]
  refine xaa (xad ?_)
  refine xaa (wpAny_setEpoch_of ho hd hf ?_)
  refine xaa (wpAny_newObj_type ?_)
  refine xad ⟨_,rfl, "set_iterator",_,⟨_,xao _ rfl,rfl⟩,aX.lookup,?_⟩
  have ho':(s.heap.push { cls:=.type "set_iterator",data:=.fields #[rawInt 0,rawInt 0,.ref a,rawInt es.size,rawInt ep] }).get? a=some o:=xae _ ho
  exact h s.heap.objs.size _ s.drawn _ _ _ (fun b o e=>xae _ e) (xah _) (fun b hb=>by
   rcases xag.mp hb with rfl | hb
   ·exact .inr (xah _)
   ·exact .inl (xaC.mp hb)) (iV _ _) (uv (ep:=ep) hh (xat hlt) hb hf) ⟨⟨0,xao _ rfl⟩,o,ho',hd⟩
 | false =>
  cases hdr:(!t.plain && decide (es.size>1)) with
  | false =>
   rw [if_neg (by simp)]
   refine xaa (xad ?_)
   refine xaa (wpAny_setEpoch_of ho hd hf ?_)
   refine xaa (wpAny_newObj_type ?_)
   refine xad ⟨_,rfl, "set_iterator",_,⟨_,xao _ rfl,rfl⟩,aX.lookup,?_⟩
   have ho':(s.heap.push { cls:=.type "set_iterator",data:=.fields #[rawInt 0,rawInt 0,.ref a,rawInt es.size,rawInt ep] }).get? a=some o:=xae _ ho
   exact h s.heap.objs.size _ s.drawn _ _ _ (fun b o e=>xae _ e) (xah _) (fun b hb=>by
    rcases xag.mp hb with rfl | hb
    ·exact .inr (xah _)
    ·exact .inl (xaC.mp hb)) (.refl _) (qC (ep:=ep) hh (xat hlt) hb (by rw [hl,hb]; rfl) hdr U hz hf) ⟨xao _ rfl,o,ho',hd⟩
  | true =>
   rw [if_pos (by simp)]
   refine xaa (yr es.size (List.range es.size) s _ (by simp) fun ix d hp=>?_)
   refine xaa (wpAny_newObj_type ?_ ?hzz)
   case hzz =>
    have:=hp.length_eq
    rw [xck] at this
    show (ix.map fun (i:Nat)=>rawInt i).toArray.size<=sizeLine
    rw [xaw,xaf,this]; exact hn
   have ho1:(s.heap.push { cls:=.type "tuple",data:=.seq (ix.map fun (i:Nat)=>rawInt i).toArray }).get? a=some o:=xae _ ho
   refine xaa (wpAny_setEpoch_of ho1 hd hf ?_)
   refine xaa (wpAny_newObj_type ?_)
   refine xad ⟨_,rfl, "set_iterator",_,⟨_,xao _ rfl,rfl⟩,aX.lookup,?_⟩
   have hs1:(s.heap.push { cls:=.type "tuple",data:=.seq (ix.map fun (i:Nat)=>rawInt i).toArray }).objs.size=s.heap.objs.size+1:=xbt ..
   refine h (s.heap.push { cls:=.type "tuple",data:=.seq (ix.map fun (i:Nat)=>rawInt i).toArray }).objs.size _ d [(s.heap.push { cls:=.type "tuple",data:=.seq (ix.map fun (i:Nat)=>rawInt i).toArray }).objs.size,a,s.heap.objs.size] _ (ix.filterMap fun k=>es[k]?) (fun b o e=>xae _ (xae _ e)) (by rw [hs1]; exact Nat.le_succ _) (fun b hb=>?_) ?_
    (qO (ep:=ep) (kT:=0) (T:=s.heap.objs.size) (ix:=ix) (t:=t) hh (by rw [hs1]; exact xat (xaI hlt)) (by rw [hs1]; exact xat (xb4 _)) hf hp) ⟨xao _ rfl,⟨o,xae _ ho1,hd⟩,_,xae _ (xao _ rfl),rfl⟩
   ·rcases xag.mp hb with rfl | hb
    ·exact .inr (by rw [hs1]; exact Nat.le_succ _)
    ·rcases xag.mp hb with rfl | hb
     ·exact .inl rfl
     ·rw [xaC.mp hb]; exact .inr (xah _)
   ·have:=hp.filterMap fun k=>es[k]?
    rw [pQ] at this
    exact this
theorem wJ {Q:Bool->Shared->Prop} (hT:s.TypeIs (.ref a) "set") (h:Q false s):wpAny (model prog w) A (Builtin.List.listLengthHint (.ref a)) Q E s:=by
 unfold Builtin.List.listLengthHint
 refine xaa (wpAny_specialOf hT PySem.F.slot_set_len.lookup ?_)
 generalize hid:("set.__len__" : String)=id0
 wp_delta
 rw [show splitId id0=some ("set", "__len__") from by subst hid; decide +kernel]
 subst hid
 refine xaa (wpAny_isInstance (T := "set") (b:=true) hT (by rw [isSubtype_type]; kernel_rfl) ?_)
 refine wpAny_ite_split (fun hab=>absurd hab (by decide)) (fun _=>?_)
 refine wpAny_ite_split (fun _=>?_) (fun hab=>absurd (by decide +kernel) hab)
 refine xaa (wpAny_typeOf hT ?_)
 exact xad h
theorem zZ {R:Result->Shared->Prop} (hh:A.handled=none) (ho:s.heap.get? a=some o) (hex:o.ExactSet) (hd:o.data=.set es ep t) (hf:t.fits es.size=true) (U:Up t.place) (hz:t.place.size=es.size) (hl:t.led=(!w.params.followText "set-order")) (hn:es.size<=sizeLine)
  (S:Addr) (hSa:S≠a) (res:Value) (c₀:Nat) (hS:s.heap.get? S=some { cls:=.type "list",data:=.seq #[] c₀ })
  (hR:∀ h' tk d acc' c' ys,(∀ b o,b≠S->s.heap.get? b=some o->h'.get? b=some o)->h'.get? S=some { cls:=.type "list",dict:=none,data:=.seq acc' c',slots:=#[] }->ys.Perm es.toList->ItemsOf (PV ys) acc' es.size->R (.ok (.ret res)) { s with heap:=h',toks:=tk,drawn:=d }) :
  wpAny (model prog w) A.in1 (Builtin.List.listExtendWith (.ref S) (.ref a) res)
   (fun fin s'=>match fin with | .done f=>R (.ok f) s' | .again c'=>c'.quiet=true/\codeAny (model prog w) A c' R s') (fun e s'=>R (.error e) s') s:=by
 have hT:s.TypeIs (.ref a) "set" := ⟨o,ho,hex.1⟩
 have hSl:=xan hS
 unfold Builtin.List.listExtendWith
 refine xaa (wpAny_typeOf hT ?_)
 have h1:Builtin.List.listSameRef (.ref S) (.ref a)=false:=by simp [Builtin.List.listSameRef,hSa]
 simp only [h1,show (Value.type "set" == Value.type "list")=false by decide,show (Value.type "set" == Value.type "tuple")=false by decide,Bool.or_false,xax,if_false]
 refine xaa (wW (A:=A.in1) hh ho hex hd hf U hz hl hn fun I h2 d fp St ys kp hI hfp hp W st=>?_)
 have hSf:S∉fp:=fun hm=>by
  rcases hfp S hm with z | z
  ·exact hSa z
  ·exact absurd hSl (Nat.not_lt.mpr z)
 have key:∀ (h:Heap) (c₁ tk:Nat),St 0 h->(∀ b o,b≠S->s.heap.get? b=some o->h.get? b=some o) ->
   h.get? S=some { cls:=.type "list",data:=.seq #[] c₁ }->codeAny (model prog w) A (.builtin "list.extend.loop" ⟨[.ref S,.ref I,res],[]⟩) R { s with heap:=h,toks:=tk,drawn:=d }:=by
  intro h c₁ tk hst hk hS₁
  refine codeAny_extend_loopS W.toS hn S hSf res es.size 0 _ #[] c₁ rfl (xaz _) hst hS₁ (ItemsOf.nil _) fun s' acc' c' hm hS' hacc=>?_
  rw [Moved.eq_with hm]
  refine hR s'.heap s'.toks d acc' c' ys (fun b o hb e=>hm.heap b o (fun hmem=>?_) (hk b o hb e)) hS' hp hacc
  rcases xag.mp hmem with e' | hmem
  ·exact hb e'
  ·exact absurd (xan e) (by rw [xaC.mp hmem]; exact Nat.not_lt.mpr hI)
 have hS₁:h2.get? S=some { cls:=.type "list",data:=.seq #[] c₀ }:=kp _ _ hS
 refine xaa (wpAny_holding (wJ (s:={ s with heap:=h2,drawn:=d }) ⟨o,kp _ _ ho,hex.1⟩ ?_))
 refine wpAny_ite_split (fun _=>?_) (fun _=>xad ⟨plainId_quiet PySem.F.plain_extend_loop _,key _ c₀ _ st (fun b o _ e=>kp b o e) hS₁⟩)
 refine xaa (wpAny_rule ?_)
 refine xaa ?_
 show wpAny _ _ (updateSeq S (·.push .none) >>= fun _=>updateSeq S (·.pop)) _ _ _
 refine xaa (wpAny_updateSeq hS₁ rfl ?_)
 have hS₂:=xbu (Obj.mapSeq (·.push Value.none)) hS₁ rfl
 refine wpAny_updateSeq (hz:=by seq_fits) hS₂ rfl ?_
 have hS₃:=xbu (Obj.mapSeq (·.pop)) hS₂ rfl
 refine xad ⟨plainId_quiet PySem.F.plain_extend_loop _,key _ _ _ ?_ (fun b o hb e=>?_) hS₃⟩
 ·refine W.frame 0 _ _ st fun b hb o e=>?_
  have hbS:b≠S:=fun h=>hSf (h ▸ hb)
  exact (xbr _ _ (Ne.symm hbS)).trans ((xbr _ _ (Ne.symm hbS)).trans e)
 ·exact (xbr _ _ (Ne.symm hb)).trans ((xbr _ _ (Ne.symm hb)).trans (kp _ _ e))
theorem qJ {ys:List (Int × Value)} {acc:Array Value} {n:Nat} (h:ItemsOf (PV ys) acc n) (hn:ys.length=n):acc.toList=ys.map (·.2):=by
 apply xbg
 intro i
 rw [xaH]
 by_cases hi:i<n
 ·have hi':i<acc.size:=by rw [h.1]; exact hi
  have e1:acc[i]? = some acc[i]:=xaJ hi'
  obtain ⟨e,he,hv⟩:=h.2 i acc[i] e1
  rw [xaE,e1,he,hv]; rfl
 ·rw [xaF (by rw [xa0,h.1]; exact xaW ‹_›),xaF (by lia)]; rfl
theorem gM {R:Result->Shared->Prop} (hh:A.handled=none) (ho:s.heap.get? a=some o) (hex:o.ExactSet) (hd:o.data=.set es ep t) (hf:t.fits es.size=true) (U:Up t.place) (hz:t.place.size=es.size) (hl:t.led=(!w.params.followText "set-order")) (hn:es.size<=sizeLine)
  (hR:∀ h' tk d acc' c' ys,(∀ b o,s.heap.get? b=some o->h'.get? b=some o)->h'.get? s.heap.objs.size=some { cls:=.type "list",dict:=none,data:=.seq acc' c',slots:=#[] }->ys.Perm es.toList->ItemsOf (PV ys) acc' es.size->R (.ok (.ret (.ref s.heap.objs.size))) { s with heap:=h',toks:=tk,drawn:=d }) :
  codeAny (model prog w) A (.builtin "proto.collect" ⟨[.ref a],[]⟩) R s:=by
 have hlt:a<s.heap.objs.size:=xan ho
 have hS:(s.heap.push { cls:=.type "list",data:=.seq ([]:List Value).toArray }).get? s.heap.objs.size=some { cls:=.type "list",data:=.seq ([]:List Value).toArray }:=xao _ rfl
 refine codeAny_builtin F.entry_proto_collect ?_
 rw [Around.under_plainId F.plain_proto_collect _]
 show wpAny _ A.in1 (newList [] >>= fun l=>again (.builtin "list.__iadd__" ⟨[l,.ref a],[]⟩)) _ _ s
 refine xaa (wpAny_newObj_type ?_)
 refine xad ⟨plainId_quiet F.plain_list_iadd _,codeAny_builtin F.entry_list_iadd ?_⟩
 rw [Around.under_plainId F.plain_list_iadd _]
 show wpAny _ A.in1 (Builtin.List.listExtendWith (.ref s.heap.objs.size) (.ref a) (.ref s.heap.objs.size)) _ _ _
 exact zZ (R:=R) (s:={ s with heap:=s.heap.push { cls:=.type "list",data:=.seq ([]:List Value).toArray } }) hh (xae _ ho) hex hd hf U hz hl hn s.heap.objs.size (xbW hlt) _ 0 hS fun h' tk d acc' c' ys kp eo hp ia =>
  hR h' tk d acc' c' ys (fun b o e=>kp b o (xat (xan e)) (xae _ e)) eo hp ia
theorem oM {Q:List Value->Shared->Prop} (hh:A.handled=none) (ho:s.heap.get? a=some o) (hex:o.ExactSet) (hd:o.data=.set es ep t) (hf:t.fits es.size=true) (U:Up t.place) (hz:t.place.size=es.size) (hl:t.led=(!w.params.followText "set-order")) (hn:es.size<=sizeLine)
  (hQ:∀ h' tk d vs,(∀ b o,s.heap.get? b=some o->h'.get? b=some o)->s.heap.objs.size<=h'.objs.size->vs.Perm (es.toList.map (·.2))->Q vs { s with heap:=h',toks:=tk,drawn:=d }):wpAny (model prog w) A (collect (.ref a)) Q E s:=by
 unfold collect
 refine xaa (wpAny_runValue (gM hh ho hex hd hf U hz hl hn fun h' tk d acc c ys kp eo hp ia=>?_))
 show wpAny _ A (load s.heap.objs.size >>= _) _ _ { s with heap:=h',toks:=tk,drawn:=d }
 refine xaa (wpAny_load eo ?_)
 refine xad (hQ h' tk d _ kp (xaP (xan eo)) ?_)
 rw [qJ ia (by rw [hp.length_eq]; simp)]
 exact hp.map _
end
end TS
namespace Tim
open PySem PyProof.Rows
section
variable {prog:Program} {w:World} {A:Around} {E:Value->Shared->Prop} {s:Shared} {κ:SortKind} {r:Value->Int} {P:Value->Prop}
theorem nQ {v:Value} {R:List Value->Prop} {Q:Value->Shared->Prop}
  (hcol:∀ (A':Around) (E':Value->Shared->Prop) (Q':List Value->Shared->Prop),A'.handled=A.handled->(∀ vs h1 tk d,R vs->(∀ b o,s.heap.get? b=some o->h1.get? b=some o)->s.heap.objs.size<=h1.objs.size->Q' vs { s with heap:=h1,toks:=tk,drawn:=d })->wpAny (model prog w) A' (collect v) Q' E' s)
  (hsz:∀ vs,R vs->vs.length<=63) (hP:∀ vs,R vs->∀ v∈vs,P v)
  (hk:∀ vs,R vs->2<=vs.length->∀ (A':Around) (E':Value->Shared->Prop) (s':Shared),(∀ b o,s.heap.get? b=some o->s'.heap.get? b=some o)->∀ (Q:SortKind->Shared->Prop),Q κ s'->wpAny (model prog w) A' (keyKind' vs.toArray) Q E' s')
  (C:∀ (s':Shared),(∀ b o,s.heap.get? b=some o->s'.heap.get? b=some o)->Cmp prog w A.in1.in1 s' κ r P)
  (h:∀ (vs:List Value) (h':Heap) (a:Addr) (out:List Value) (n tk:Nat) d,R vs->out.Perm vs->(out.Pairwise fun x y=>r x<=r y)->(∀ b o,s.heap.get? b=some o->h'.get? b=some o)->s.heap.objs.size<=a->h'.get? a=some (seqObj "list" out.toArray n)->Q (.ref a) { s with heap:=h',toks:=tk,drawn:=d }) :
  wpAny (model prog w) A (call (.builtin "sorted") [v]) Q E s:=by
 refine Calls.call_function_entry kind_sorted plain_sorted entry_sorted (args_sorted1 _) ?_
 unfold Builtin.«sorted»
 refine xaa (m:=checkCount "sorted" 1 1 _) (xad ?_)
 refine xaa (hcol _ _ _ rfl fun vs h1 tk d hR kp hz=>?_)
 have h63:=hsz vs hR
 have hsz':vs.length<=sizeLine:=xaq h63 (by rw [sizeLine_eq]; decide)
 refine xaa (wpAny_newList ?_ (by simpa using hsz'))
 have hoL:(h1.push (seqObj "list" vs.toArray 0)).get? h1.objs.size=some (seqObj "list" vs.toArray 0):=xao _ rfl
 have old:∀ b o,s.heap.get? b=some o->(bU (h1.push (seqObj "list" vs.toArray 0)) h1.objs.size vs).get? b=some o:=fun b o e=>by
  have hlt:b<h1.objs.size:=xan (kp b o e)
  rw [eN (xat hlt) (by rw [size_push']; exact xaI hlt)]
  exact xae _ (kp b o e)
 show wpAny _ _ _ _ _ { s with heap:=h1.push (seqObj "list" vs.toArray 0),toks:=tk,drawn:=d }
 refine xaa (wpAny_holding (wpAny_call_entry slot_list_sort ⟨_,hoL,rfl⟩ entry_list_sort (dG (r:=r) (s:={ s with heap:=h1.push (seqObj "list" vs.toArray 0),toks:=tk,drawn:=d }) hoL h63 (hP vs hR)
  (fun h2=>hk vs hR h2 _ _ _ old) (fun h2=>C _ old) fun out a1 a2=>⟨_,rfl,?_⟩) (args_list_sort _)))
 obtain ⟨n,e⟩:=sortedHeap_at (out:=out) hoL
 refine xad ⟨_,rfl,h vs _ h1.objs.size out.toList n tk d hR a1 a2 (fun b o e=>?_) hz (by rw [xbP]; exact e)⟩
 have hlt:b<h1.objs.size:=xan (kp b o e)
 rw [sortedHeap_old (xat hlt) (by rw [size_push']; exact xaI hlt)]
 exact xae _ (kp b o e)
end
end Tim
namespace TS
open PySem PySem.SetTable PyProof.Rows
section
variable {prog:Program} {w:World} {K:Type} [DecidableEq K] {knd:KeyKind prog w K} {A:Around} {E:Value->Shared->Prop} {s:Shared}
theorem vU {α:Type} (led:Bool):TI (α:=α) (SetTable.fresh 0 0 led) #[] :=
 ⟨⟨3,rfl,xah _⟩,rfl,fun i j h hj=>absurd hj (xbw _),fun i hi=>absurd hi (xbw _),rfl,(by show 0 * 5<7 * 3; decide),fun i h x e=>by simp at e⟩
theorem m5 {l:Addr} {items:Array Value} {xs:List (List K × Addr)} {Q:Value->Shared->Prop} (hh:A.handled=none) (hu:A.units+8<cLine) (hl:s.heap.IsList l items) (hi:items.toList=xs.map fun p=>Value.ref p.2)
  (his:∀ p∈xs,IsTupleKey knd s.heap p.1 p.2) (hz:xs.length<=63) (hsc:∀ k v,knd.is k v=true->v.scannable=true)
  (h:∀ h' tk ks,SetT knd h' s.heap.objs.size ks->(∀ k,k∈ks.map (·.1)↔k∈xs.map (·.1))->(∀ p∈ks,p∈xs)->(∀ b o,s.heap.get? b=some o->h'.get? b=some o)->Q (.ref s.heap.objs.size) { s with heap:=h',toks:=tk }) :
  wpAny (model prog w) A (call (.type "set") [.ref l]) Q E s:=by
 have lt:∀ p∈xs,p.2<s.heap.objs.size:=fun p hp=>by
  obtain ⟨o,_,_,ho,_⟩:=his p hp
  exact xan ho
 refine mO hh hl (fun i h=>∃ ks,SetT knd h s.heap.objs.size ks/\(∀ k,k∈ks.map (·.1)↔k∈(xs.take i).map (·.1))/\(∀ p∈ks,p∈xs)/\ks.length<=i/\∀ p∈xs,IsTupleKey knd h p.1 p.2) (fun h e k=>?_) (fun i h h' ⟨ks,S,m1,m2,m3,m4⟩ k=>?_) (fun i v s' E' Q' hv ⟨ks,S,m1,m2,m3,m4⟩ q=>?_) fun h' tk ⟨ks,S,m1,m2,m3,m4⟩ k=>?_
 ·exact ⟨[],⟨⟨_,#[],0,_,e,⟨rfl,rfl,rfl⟩,rfl,vU _,(by show 7<=8191; decide),rfl,rfl⟩,xaQ,fun p hp=>nomatch hp⟩,fun k=>by simp,(fun p hp=>nomatch hp),xah _,fun p hp=>IsTupleKey.stay (his p hp) fun o ho=>k _ _ ho⟩
 ·obtain ⟨⟨o,es,ep,t,ho,r⟩,nd,is⟩:=S
  exact ⟨ks,⟨⟨o,es,ep,t,k _ _ (xah _) ho,r⟩,nd,fun p hp=>IsTupleKey.stay (is p hp) fun o ho=>k _ _ (xaP (lt p (m2 p hp))) ho⟩,m1,m2,m3,fun p hp=>IsTupleKey.stay (m4 p hp) fun o ho=>k _ _ (xaP (lt p hp)) ho⟩
 ·have hv':items.toList[i]? = some v:=by rw [xaE]; exact hv
  rw [hi,xaH] at hv'
  cases ex:xs[i]? with
  | none=>rw [ex] at hv'; cases hv'
  | some p =>
   rw [ex] at hv'
   cases hv'
   have hp:=xaB ex
   have hil:i<xs.length:=(xaj.mp ex).1
   have tk1:(xs.take (i+1)).map (·.1)=(xs.take i).map (·.1)++[p.1]:=by
    rw [xb1,ex,xbL]; rfl
   unfold setAdd
   refine wpAny_holding (xaa (wpAny_pyHash_tuple (by show A.units+3<cLine; lia) (m4 p hp) ?_))
   refine Cg (s:={ s' with toks:=s'.toks+(p.1.length+1) }) S (m4 p hp) (by lia) (by show A.units+3<cLine; lia) hsc fun b h' ks' sb S' c=>?_
   refine q b h' _ sb ⟨ks',S',fun k=>?_,fun p' hp'=>?_,?_,fun p' hp'=>IsTupleKey.stay (m4 p' hp') fun o ho=>sb.extBut _ _ (xat (lt p' hp')) ho⟩
   ·rw [tk1,xal,xaC,<- m1]
    rcases c with ⟨c1,rfl⟩ | ⟨c1,c2⟩
    ·exact ⟨.inl,fun z=>z.elim id fun e=>e ▸ c1⟩
    ·rw [(c2.map _).mem_iff,xap,xag]
     exact ⟨fun z=>z.symm,fun z=>z.symm⟩
   ·rcases c with ⟨c1,rfl⟩ | ⟨c1,c2⟩
    ·exact m2 p' hp'
    ·rcases xag.mp (c2.mem_iff.mp hp') with rfl | z
     ·exact hp
     ·exact m2 p' z
   ·rcases c with ⟨c1,rfl⟩ | ⟨c1,c2⟩
    ·lia
    ·rw [c2.length_eq]; simp; lia
 ·have e:items.size=xs.length:=by
   have:=congrArg List.length hi
   simpa using this
  rw [e,xbS] at m1
  exact h h' tk ks S m1 m2 fun b o ho=>k b o (xan ho) ho
end
end TS
namespace L2
open PySem PySem.Spec PyProof.Rows
section
variable {X:Cx} {pins:List (Addr × Obj)} {σ:St} {H:Hp} {s:Shared}
theorem Inv.drawn {d} (I:Inv X pins σ H s):Inv X pins σ H { s with drawn:=d }:=⟨I.ok,I.os,I.bare,I.base,I.loc,I.cell,I.free,I.freeC,I.pin,I.hok,I.len⟩
theorem vQ {prog:Program} {w:World}:∀ (k:Key) (v:Value),(mixKind prog w).is k v=true->v.scannable=true:=fun k v h=>by
 rcases keyIs_shape h with ⟨i,t,rfl,rfl⟩ | ⟨x,t,rfl,rfl⟩ <;> rfl
def eY (K:PySem.W.Frag):V->Hp->VK->Prop:=fun x H Q=>match x with
 | .ref p=>∃ ys ks b0 sh,SqL K H p ys/\ys.length<=63/\bu H ys ks/\(∀ k∈ks,shOf k=b0 :: sh) /\
   ∀ zs ms l,bu H zs ms->ms.Nodup->(∀ k,k∈ms↔k∈ks)->(ms.Pairwise fun a b=>ltK b a=false)->H l=none->Q (.ref l) (upd H l (.lst zs))
 | _=>False
theorem bu.pairs {H:Hp} {ys:List V} {ks:List (List Key)} {vs:List Value} (h:bu H ys ks) (hv:Vals ys vs):∃ xs:List (List Key × Addr),vs=xs.map (fun p=>Value.ref p.2)/\xs.map (·.1)=ks/\∀ p∈xs,H p.2=some (.tup (p.1.map kV)):=by
 induction ys generalizing ks vs with
 | nil=>exact ⟨[],Paired.n0 hv,(show ks=[] from Paired.n0 h).symm,fun p hp=>nomatch hp⟩
 | cons y ys ih =>
  obtain ⟨k,ks,rfl,⟨b,rfl,g⟩,t⟩:=Paired.c h
  obtain ⟨v,vs,rfl,rfl,rs⟩:=Paired.c hv
  obtain ⟨xs,e1,e2,e3⟩:=ih t rs
  refine ⟨(k,b) :: xs,by rw [e1]; rfl,by rw [<- e2]; rfl,fun p hp=>?_⟩
  rcases xag.mp hp with rfl | hp
  ·exact g
  ·exact e3 p hp
end
section
variable {X:Cx} {e:Expr} {te:TE} {p p2 pos pos2:Pos}
theorem oJ (hc:X.calm=true) (hu:X.A.units+64<cLine) (hg:Gl X "sorted") (hm:X.mg "sorted" = none) (hg2:Gl X "set") (hm2:X.mg "set" = none) (he:PE X e te)
  (hv:bootBuiltins "sorted" = some (.builtin "sorted")) (hv2:bootBuiltins "set" = some (.type "set"))
  (hs2:starEach [e] X.env=(false,eval e X.env) :: starEach [] X.env:=by rfl)
  (hs:starEach [.Call (.Name "set" p2) [e] [] pos2] X.env=(false,eval (.Call (.Name "set" p2) [e] [] pos2) X.env) :: starEach [] X.env:=by rfl) :
  PE X (.Call (.Name "sorted" p) [.Call (.Name "set" p2) [e] [] pos2] [] pos) (tUn (eY X.K) te):=by
 intro pins s σ H Q I h
 refine wpAny_Call_Name_kw (ld_blt I hg hm hv ?_ (by decide) (by decide))
 refine PyProof.Rows.callWith_builtin1 ?_ hs rfl
 rw [hs]
 refine Calls.spliced_cons ?_
 refine wpAny_Call_Name_kw (ld_blt I hg2 hm2 hv2 ?_ (by decide) (by decide))
 refine PyProof.Rows.callWith_type1 ?_ hs2 rfl
 rw [hs2]
 refine Calls.spliced_cons (thn (he pins s σ H _ I h) fun u s1 hx5=>L2.ex2 hx5 fun x H1 I1 r1 q1=>Calls.spliced_nil ?_)
 have q1:eY X.K x H1 Q:=q1
 obtain ⟨a,rfl⟩:∃ a,x=.ref a:=by
  unfold eY at q1
  split at q1
  ·exact ⟨_,rfl⟩
  ·exact q1.elim
 obtain ⟨ys,ks,b0,sh,hl,hz1,ht,hsh,q⟩:=q1
 cases r1
 obtain ⟨vs,rv,pl,hz⟩:=I1.list hl
 obtain ⟨xs,ex,ek,hx⟩:=ht.pairs rv
 have hhd:X.A.handled=none:=I1.ok.hd hc
 have hlen:xs.length=ys.length:=by rw [rv.length,ex,xaf]
 have his:∀ p∈xs,IsTupleKey (mixKind X.prog X.w) s1.heap p.1 p.2:=fun p hp=>by
  obtain ⟨us,ru,o,e1,c1,n1,d1⟩:=I1.tup (hx p hp)
  exact ⟨o,us.toArray,n1,e1,c1,d1,by simpa using items_are ru⟩
 refine TS.m5 (knd:=mixKind X.prog X.w) hhd (by lia) pl.isList (by simpa using ex) his (by lia) vQ fun h2 tk ks' S m1 m2 kp=>?_
 refine Calls.spliced_nil ?_
 obtain ⟨⟨o,es,ep,t,ho,hex,hd,T,hM,hL,hes⟩,nd,is⟩:=S
 have hent:es.toList.map (·.2)=ks'.map fun p=>Value.ref p.2:=by rw [hes,xaG]; rfl
 have hksl:ks'.length<=63:=by
  have:=TS.eZ nd (m:=ks) fun k hk=>by rw [<- ek]; exact (m1 k).mp hk
  rw [xaf] at this
  have:ks.length=xs.length:=by rw [<- ek,xaf]
  lia
 have hesz:es.size=ks'.length:=by
  have:=congrArg List.length hes
  simpa using this
 have memk:∀ p∈ks',p.1∈ks:=fun p hp=>by rw [<- ek]; exact xak.mpr ⟨p,m2 p hp,rfl⟩
 have mem:∀ vs':List Value,vs'.Perm (ks'.map fun p=>Value.ref p.2)->∀ v∈vs',∃ b k,v=.ref b/\H1 b=some (.tup (k.map kV))/\k∈ks:=fun vs' pv v hv=>by
  obtain ⟨p,hp,rfl⟩:=xak.mp (pv.mem_iff.mp hv)
  exact ⟨p.2,p.1,rfl,hx p (m2 p hp),memk p hp⟩
 have h12:s1.heap.objs.size<=h2.objs.size:=xaP (xan ho)
 refine Tim.nQ (s:={ s1 with heap:=h2,toks:=tk }) (κ:=tuples' true) (R:=fun vs'=>vs'.Perm (ks'.map fun p=>Value.ref p.2)) (r:=fun v=>rkK ks (jn H1 v)) (P:=fun v=>∃ b k,v=.ref b/\H1 b=some (.tup (k.map kV))/\shOf k=b0 :: sh/\k∈ks)
  (fun A' E' Q' hA hQ=>TS.oM (s:={ s1 with heap:=h2,toks:=tk }) (hA.trans hhd) ho hex hd T.fits T.up T.sz hL (by rw [hesz,sizeLine_eq]; lia) fun h' tk' d vs' kp' hz' pv=>hQ vs' h' tk' d (by rw [<- hent]; exact pv) kp' hz')
  (fun vs' pv=>by rw [pv.length_eq,xaf]; lia) (fun vs' pv v hv=>?_) (fun vs' pv h2' A' E' s' kp' Q' q'=>?_) (fun s' kp'=>pD I1 fun b o e=>kp' b o (kp b o e)) fun vs' h' a' out n tk' d pv pm pw kp' ha eo=>?_
 ·obtain ⟨b,k,e1,e2,e3⟩:=mem vs' pv v hv
  exact ⟨b,k,e1,e2,hsh k e3,e3⟩
 ·obtain ⟨zs,z1,z2⟩:=bu.of (H:=H1) (ks:=ks) vs' (mem vs' pv)
  obtain ⟨fs,f1,f2,f3⟩:=kat_tups I1 (s':=s') (fun b o e=>kp' b o (kp b o e)) z1 z2 fun k hk=>by
   obtain ⟨v,hv,rfl⟩:=xak.mp hk
   obtain ⟨b,k,rfl,e2,e3⟩:=mem vs' pv v hv
   rw [bD e2]; exact hsh k e3
  cases b0 with
  | true =>
   refine PySem.W.kat_kind (T:=.type "int") f1 (by lia) (fun f hf=>?_) (by decide) q'
   obtain ⟨i,t,rfl⟩:=(f3 f hf).1 rfl
   exact .now
  | false =>
   refine PySem.W.kat_kind (T:=.type "str") f1 (by lia) (fun f hf=>?_) (by decide) q'
   obtain ⟨i,t,rfl⟩:=(f3 f hf).2 rfl
   exact .now
 ·have pm2:=pm.trans pv
  obtain ⟨zs,z1,z2⟩:=bu.of (H:=H1) (ks:=ks) out fun v hv=>mem _ pm2 v hv
  have zl:=z2.length
  have ol:=pm2.length_eq
  rw [xaf] at ol
  have ekk:(ks'.map fun p=>Value.ref p.2).map (jn H1)=ks'.map (·.1):=by
   rw [xaG]
   exact xbq fun p hp=>bD (hx p (m2 p hp))
  have pms:(out.map (jn H1)).Perm (ks'.map (·.1)):=by rw [<- ekk]; exact pm2.map _
  refine ⟨.ref a',_,(I1.laid (a:=a') (t':=tk') (fun b o e=>kp' b o (kp b o e)) (xaq h12 ha) (show ObjOk X.prog X.w _ h' _ (.lst zs) from ⟨by rw [sizeLine_eq]; lia,out,n,z2,eo⟩)).drawn,rfl,
   q zs _ _ z1 (pms.nodup_iff.mpr nd) (fun k=>by rw [pms.mem_iff,m1,ek]) ?_ (I1.hok.fresh (xaq h12 ha))⟩
  rw [xaK]
  refine pw.imp_of_mem fun {x y} mx my hle=>?_
  obtain ⟨b,k,rfl,hb,kk⟩:=mem _ pm2 x mx
  obtain ⟨c,m,rfl,hc',km⟩:=mem _ pm2 y my
  rw [bD hb,bD hc'] at *
  have:=uN (L:=ks) ((hsh m km).trans (hsh k kk).symm) km
  rw [<- this]
  exact decide_eq_false (by lia)
end
end L2
namespace TS
open PySem PySem.SetTable PyProof.Rows
section
variable {prog:Program} {w:World} {K:Type} [DecidableEq K] {knd:KeyKind prog w K}
def entK (knd:KeyKind prog w K) (p:K × Value):Int × Value:=(knd.hash p.1,p.2)
structure SetK (knd:KeyKind prog w K) (h:Heap) (a:Addr) (ks:List (K × Value)):Prop where
 ob:∃ o es ep t,h.get? a=some o/\o.ExactSet/\o.data=.set es ep t/\TI t es/\t.mask<=8191/\t.led=(!w.params.followText "set-order")/\es.toList=ks.map (entK knd)
 nd:(ks.map (·.1)).Nodup
 is:∀ p∈ks,knd.is p.1 p.2=true
end
end TS
namespace L2
open PySem PySem.Spec PyProof.Rows
end L2
namespace L2.Q
open PySem PySem.Spec PyProof.Rows
section
variable {X:Cx} {K:PySem.W.Frag} {e:Expr} {te:WE} {p p2 pos pos2:Pos}
theorem Bm:bootBuiltins "set" = some (.type "set"):=by decide +kernel
def dw:W1:=fun _ x Q=>match x with
 | .list xs=>∃ (ks:List (List Key)) (sh:List Bool),xs=ks.map keyT/\ks.length<=63/\(∀ k∈ks,shOf k=false :: sh)/\∀ ms:List (List Key),ms.Nodup->(∀ k,k∈ms↔k∈ks)->(ms.Pairwise fun a b=>ltK b a=false)->Q (.ow true) (.list (ms.map keyT))
 | _=>False
theorem oG:Br1 K (eY K) dw:=by
 intro Hs H m x v As Qd Qv w rx h f
 have r1:=rx.rep w
 cases r1 with
 | list z s q =>
  obtain ⟨ks,sh,rfl,hz,hs,h⟩:=h
  obtain ⟨ta,ok⟩:=zp q
  have hl:=q.length
  rw [xaf] at hl
  refine ⟨_,ks,false,sh,s,by lia,ta,hs,fun zs ms l tz nd mm pw hl'=>?_⟩
  have rr:=jP (K:=K) tz fun k hk=>ok k ((mm k).mp hk)
  have:ms.length<=ks.length:=TS.eZ nd fun k hk=>(mm k).mp hk
  exact f.lst w (by rw [xaf,sizeLine_eq]; lia) rr (eV ms) (h ms nd mm pw) l hl'
 | _=>exact h.elim
theorem qQ (hu:X.A.units+64<cLine) (hg:Gl X "sorted") (hm:X.mg "sorted" = none) (hg2:Gl X "set") (hm2:X.mg "set" = none) (he:QE X K e te) (hc:X.calm=true:=by rfl) (hK:X.K=K:=by rfl)
  (hs2:starEach [e] X.env=(false,eval e X.env) :: starEach [] X.env:=by rfl)
  (hs:starEach [.Call (.Name "set" p2) [e] [] pos2] X.env=(false,eval (.Call (.Name "set" p2) [e] [] pos2) X.env) :: starEach [] X.env:=by rfl) :
  QE X K (.Call (.Name "sorted" p) [.Call (.Name "set" p2) [e] [] pos2] [] pos) (wUn dw te):=by
 subst hK
 refine PE.imp (oJ hc hu hg hm hg2 hm2 he h_ Bm hs2 hs) fun σ H Qv hx9=>?_
 obtain ⟨Hs,ρ,tot,Q,sr,h,fin⟩:=hx9
 exact ⟨Hs,ρ,tot,_,sr,h,fun v H1 Hs1 m x As g1 r1 f1 q1=>oG Hs1 H1 m x v As Q Qv g1.wf r1 q1 (Fin.after fin g1)⟩
end
end L2.Q
namespace L2.Q.R
open PySem PySem.Spec PyProof.Rows L2.Q
section
variable {Q:Md->L2.Q.D->Prop} {m:Md} {xs:List L2.Q.D}
theorem Ab:dw m (.list xs) Q = ∃ (ks:List (List Key)) (sh:List Bool),xs=ks.map keyT/\ks.length<=63/\(∀ k∈ks,shOf k=false :: sh)/\∀ ms:List (List Key),ms.Nodup->(∀ k,k∈ms↔k∈ks)->(ms.Pairwise fun a b=>ltK b a=false)->Q (.ow true) (.list (ms.map keyT)):=rfl
end
end L2.Q.R
namespace L2
open PySem PySem.Spec PyProof.Rows
end L2
namespace L2.Q
open PySem PySem.Spec PyProof.Rows
end L2.Q
namespace L2.Q.R
open PySem PySem.Spec PyProof.Rows L2.Q
end L2.Q.R
namespace L2
open PySem PySem.Spec PyProof.Rows Builtin Builtin.Str Builtin.Int
end L2
namespace L2.Q
open PySem PySem.Spec PyProof.Rows
section
variable {X:Cx} {K:PySem.W.Frag}
def anyD (ys:List D) (x:D):Bool:=ys.any fun z=>eqD z x
def fInR (neg:Bool):W2:=fun _ x _ y Q=>∃ ys,(y=.list ys\/y=.tup ys)/\okD 12 x=true/\okD 12 y=true/\Q .sh (.bl (if neg then !anyD ys x else anyD ys x))
def rInR (K:PySem.W.Frag) (neg:Bool):R2:=fun x y H Q=>∃ d e xs,L2.Rep K H d x/\L2.Rep K H e y/\(e=.list xs\/e=.tuple xs)/\d.canLay0=true/\PyData.canLayAll0 xs=true/\d.depth<=60/\Q (.bl (if neg then !(xs.any fun z=>PyData.eqv z d) else xs.any fun z=>PyData.eqv z d)) H
theorem t_ (hu:X.A.units+64<cLine):OpR X (compareOp .NotIn) (rInR X.K true):=by
 intro pins s σ H x y v u Q I rx ry h
 obtain ⟨d,e,xs,h1,h2,h3,h4,h5,h6,q⟩:=h
 obtain ⟨as,r1⟩:=h1.reads I rx
 obtain ⟨bs,r2⟩:=h2.reads I ry
 rcases h3 with rfl | rfl
 ·exact PySem.SeqAt.notIn_list_reads r2 r1 h5 h4 (by lia) ⟨.bl _,H,I,rfl,q⟩
 ·exact PySem.SeqAt.notIn_tuple_reads r2 r1 h5 h4 (by lia) ⟨.bl _,H,I,rfl,q⟩
theorem uh (hu:X.A.units+64<cLine) (hK:X.K=K:=by rfl):OpR X (compareOp .NotIn) (rInR K true):=by subst hK; exact t_ hu
theorem zA (ys:List D) (x:D):((pys ys).any fun z=>PyData.eqv z x.py)=anyD ys x:=by
 induction ys with
 | nil=>rfl
 | cons y ys ih =>
  rw [pys,xbp,ih]
  rfl
theorem xZ {neg:Bool}:Br2 K (rInR K neg) (fInR neg):=by
 intro Hs H m x v As n y u Bs Qd Qv w rx ry h f
 obtain ⟨ys,hy,o1,o2,q⟩:=h
 have l1:=dW 12 x o1
 have l2:=dW 12 y o2
 refine ⟨x.py,y.py,pys ys,(rx.rep w).l2 o1,(ry.rep w).l2 o2,?_,l1.1,?_,by lia,?_⟩
 ·rcases hy with rfl | rfl
  ·exact .inl rfl
  ·exact .inr rfl
 ·rcases hy with rfl | rfl
  ·exact l2.1
  ·exact l2.1
 ·rw [zA]
  exact f.sh w (.bl _) q
def owl (o:Option (Option Sl)) (k:List D->Prop):Prop:=match o with
 | some (some (.ow true (.list xs)))=>k xs
 | _=>False
def intD (y:D) (k:Int->Prop):Prop:=match y with
 | .int i=>k i
 | _=>False
def outM (d:D):Md:=bif d.flat then .sh else .ow true
end
end L2.Q
namespace L2.Q.R
open PySem PySem.Spec PyProof.Rows L2.Q
section
variable {m m':Md} {x:L2.Q.D} {ys:List L2.Q.D} {Q:Md->L2.Q.D->Prop}
theorem Ew {k:List L2.Q.D->Prop}:owl (some (some (.ow true (.list ys)))) k=k ys:=rfl
theorem Gk {i:Int} {k:Int->Prop}:intD (.int i) k=k i:=rfl
theorem Em {neg:Bool}:fInR neg m x m' (.list ys) Q=(okD 12 x=true/\okD 12 (.list ys)=true/\Q .sh (.bl (if neg then !anyD ys x else anyD ys x))):=by
 apply propext
 exact ⟨fun ⟨zs,h,a,b,c⟩=>by rcases h with h | h <;> cases h; exact ⟨a,b,c⟩,fun ⟨a,b,c⟩=>⟨ys,.inl rfl,a,b,c⟩⟩
theorem Gu {neg:Bool}:fInR neg m x m' (.tup ys) Q=(okD 12 x=true/\okD 12 (.tup ys)=true/\Q .sh (.bl (if neg then !anyD ys x else anyD ys x))):=by
 apply propext
 exact ⟨fun ⟨zs,h,a,b,c⟩=>by rcases h with h | h <;> cases h; exact ⟨a,b,c⟩,fun ⟨a,b,c⟩=>⟨ys,.inr rfl,a,b,c⟩⟩
end
end L2.Q.R
namespace L2
open PySem PySem.Spec PyProof.Rows
end L2
namespace L2.Q
open PySem PySem.Spec PyProof.Rows
section
variable {K:PySem.W.Frag} {a:Expr}
def onD (x:D) (f:List (Key × D)->Prop) (g:List (List Key × D)->Prop):Prop:=match x with
 | .dK kvs=>f kvs
 | .dT kvs=>g kvs
 | _=>False
def tupD (y:D) (k:List D->Prop):Prop:=match y with
 | .tup ys=>k ys
 | _=>False
def gotG (o:Option D) (m n:Md) (z:D) (Q:Md->D->Prop):Prop:=match o with
 | some d=>Q (itm m d) d
 | none=>Q n z
def owdT (o:Option (Option Sl)) (k:List (List Key × D)->Prop):Prop:=match o with
 | some (some (.ow true (.dT kvs)))=>k kvs
 | _=>False
theorem SRel.place {Hs H:Hp} {ρ:Env} {σ:St} {tot:List Addr} {i:Nat} {fl:Bool} {d:D} (sr:SRel K Hs ρ σ H tot) (e:ρ[i]? = some (some (.ow fl d))):∃ v,σ[i]? = some (some v)/\Place K Hs H σ fl d v fun fl2 d2=>ρ.set i (some (.ow fl2 d2)):=by
 obtain ⟨v,As,t,e2,ne,r,sb,g⟩:=SR.put i sr.sr e sr.nod
 refine ⟨v,e2,As,r,ne,sb.nodup sr.nod,fun a h=>sr.own a (sb.subset h),fun Hs2 H2 fl2 d2 As2 s2 w2 n2 _ r2 ne2 nd2 o2 st=>?_⟩
 obtain ⟨t2,x,y,z⟩:=g Hs2 H2 fl2 d2 As2 s2 r2 ne2 nd2 (fun a ha m=>(o2 a ha).2.elim id fun q=>absurd q (sr.sr.own a m).ne) fun a ha m=>st a (sr.sr.own a ha).ne m
 exact ⟨t2,z,w2,x,fun a h=>(y a h).elim (fun q=>n2 a (sr.own a q) (sr.sr.own a q).ne) fun q=>(o2 a q).1⟩
end
end L2.Q
namespace L2
open PySem PySem.Spec PyProof.Rows
end L2
namespace L2.Q
open PySem PySem.Spec PyProof.Rows
section
variable {K:PySem.W.Frag} {a b c:Expr}
def owdK (d:D) (k:List (Key × D)->Prop):Prop:=match d with
 | .dK kvs=>k kvs
 | _=>False
theorem SR.take {Hs H:Hp} {ρ:Env} {σ:St} {tot:List Addr} (i:Nat) {fl:Bool} {d:D} (s:SR K Hs H ρ σ tot):ρ[i]? = some (some (.ow fl d))->tot.Nodup ->
  ∃ (v:V) (As tot':List Addr),σ[i]? = some (some v)/\RepO K Hs H fl d v As/\As.Sublist tot/\tot'.Sublist tot/\(∀ a∈As,a∉tot')/\SR K Hs H (ρ.set i none) σ tot':=by
 induction s generalizing i with
 | nil=>intro e; simp at e
 | non q ih =>
  intro e n
  cases i with
  | zero=>simp at e
  | succ i =>
   obtain ⟨v,As,t,o,a,b,c,d,f⟩:=ih i e n
   exact ⟨v,As,t,o,a,b,c,d,.non f⟩
 | sh r q ih =>
  intro e n
  cases i with
  | zero=>simp at e
  | succ i =>
   obtain ⟨v,As,t,o,a,b,c,d,f⟩:=ih i e n
   exact ⟨v,As,t,o,a,b,c,d,.sh r f⟩
 | xc q ih =>
  intro e n
  cases i with
  | zero=>simp at e
  | succ i =>
   obtain ⟨v,As,t,o,a,b,c,d,f⟩:=ih i e n
   exact ⟨v,As,t,o,a,b,c,d,.xc f⟩
 | ow ne r q ih =>
  intro e n
  obtain ⟨n1,n2,n3⟩:=xar.mp n
  cases i with
  | zero =>
   simp at e
   obtain ⟨rfl,rfl⟩:=e
   exact ⟨_,_,_,rfl,r,xbc _ _,xas _ _,fun a h m=>n3 a h a m rfl,.non q⟩
  | succ i =>
   obtain ⟨v,As,t,o,a,b,c,d,f⟩:=ih i e n2
   exact ⟨v,As,_,o,a,b.trans (xas _ _),c.append_left _,jZ n b d,.ow ne r f⟩
 | lk ne r q ih =>
  intro e n
  obtain ⟨n1,n2,n3⟩:=xar.mp n
  cases i with
  | zero=>simp at e
  | succ i =>
   obtain ⟨v,As,t,o,a,b,c,d,f⟩:=ih i e n2
   exact ⟨v,As,_,o,a,b.trans (xas _ _),c.append_left _,jZ n b d,.lk ne r f⟩
theorem xT {o:Option (Option Sl)} {k:List D->Prop} (h:owl o k):∃ xs,o=some (some (.ow true (.list xs)))/\k xs:=by
 unfold owl at h
 split at h
 ·exact ⟨_,rfl,h⟩
 ·exact h.elim
theorem yC {i j:Nat} (hij:i≠j) {Hs H:Hp} {ρ:Env} {σ:St} {tot:List Addr} {hs xs:List D} (sr:SRel K Hs ρ σ H tot) (ei:ρ[i]? = some (some (.ow true (.list hs)))) (ej:ρ[j]? = some (some (.ow true (.list xs))))
  (fl:flats xs=true) (hz1:hs.length<sizeLine) :
  ∃ a ws c vs tot2,σ[i]? = some (some (.ref a))/\H a=some (.lst ws)/\ws.length<sizeLine/\σ[j]? = some (some (.ref c))/\upd H a (.lst (ws++[.ref c])) c=some (.lst vs)/\Reps K Hs xs vs/\vs.length<=sizeLine /\
   SRel K Hs ((ρ.set j none).set i (some (.ow true (.list (hs++[.list xs]))))) σ (upd H a (.lst (ws++[.ref c]))) tot2:=by
 obtain ⟨v,As,tot',e1,r,sb,st,dj,s1⟩:=SR.take j sr.sr ej sr.nod
 have ei':(ρ.set j none)[i]? = some (some (.ow true (.list hs))):=by rw [xbf (Ne.symm hij)]; exact ei
 obtain ⟨u,Ai,_,e2,ne,ri,si,g⟩:=SR.put i s1 ei' (st.nodup sr.nod)
 cases r with
 | sh hf _=>exact absurd (hf rfl) (by simp [D.flat])
 | @list c vs _ B hz ec rs =>
  cases ri with
  | sh _ _=>exact absurd rfl ne
  | @list a ws _ A hw ea ra =>
   have hac:c≠a:=fun z=>dj c xac (si.subset (z ▸ xac))
   have nd1:=si.nodup (st.nodup sr.nod)
   obtain ⟨na,nA⟩:=xaD.mp nd1
   have ndj:=sb.nodup sr.nod
   have dA:∀ x∈c :: B,x∉a :: A:=fun x hx m=>dj x hx (si.subset m)
   have nB:∀ x∈c :: B,x≠a:=fun x hx z=>dA x hx (z ▸ xac)
   have hl:=ra.length
   have r3:RepO K Hs (upd H a (.lst (ws++[.ref c]))) true (.list (hs++[.list xs])) (.ref a) (a :: (A++((c :: B)++[]))):=by
    refine .list (by rw [xaL,<- hl]; exact hz1) upd_same ((ra.stay (H':=upd H a (.lst (ws++[.ref c]))) (Same.refl _) fun b hb=>upd_ne fun z=>na (by subst z; exact hb)).append (.cons (.list hz ((upd_ne hac).trans ec) (rs.stay (Same.refl _) fun b hb=>upd_ne (nB b (xab _ hb)))) .nil))
   obtain ⟨tot2,n2,i2,s2⟩:=g Hs _ true _ _ (Same.refl _) r3 (by simp) (xaD.mpr ⟨fun m=>(xal.mp m).elim na fun m=>nB a (by simpa using m) rfl,xar.mpr ⟨nA,by simpa using ndj,fun x hx y hy e=>dA y (by simpa using hy) (e ▸ xab _ hx)⟩⟩)
    (fun b hb m=>by
     rcases xag.mp hb with rfl | hb
     ·exact xac
     ·rcases xal.mp hb with hb | hb
      ·exact xab _ hb
      ·exact absurd m (dj b (by simpa using hb)))
    (fun b _ nb=>upd_ne fun z=>nb (z ▸ xac))
   have Ha:Hs a=none:=sr.own a (st.subset (si.subset xac))
   refine ⟨a,ws,c,vs,tot2,e2,ea,by lia,e1,(upd_ne hac).trans ec,(rs.reps sr.wf.sub fun _ _=>rfl).fH sr.wf.tups fl,hz,s2,p_ sr.wf Ha (fun _ z=>nomatch z),n2,fun b hb=>?_⟩
   rcases i2 b hb with m | m
   ·exact sr.own b (st.subset m)
   ·rcases xag.mp m with rfl | m
    ·exact Ha
    ·rcases xal.mp m with m | m
     ·exact sr.own b (st.subset (si.subset (xab _ m)))
     ·exact sr.own b (sb.subset (by simpa using m))
end
end L2.Q
namespace L2.Q.R
open PySem PySem.Spec PyProof.Rows L2.Q
section
variable {ys:List L2.Q.D} {Q:Md->L2.Q.D->Prop} {k:Nat}
theorem HS {kvs:List (Key × L2.Q.D)} {k:List (Key × L2.Q.D)->Prop}:owdK (.dK kvs) k=k kvs:=rfl
theorem HQ {kvs:List (Key × L2.Q.D)} {f:List (Key × L2.Q.D)->Prop} {g:List (List Key × L2.Q.D)->Prop}:onD (.dK kvs) f g=f kvs:=rfl
theorem Hd {kvs:List (List Key × L2.Q.D)} {f:List (Key × L2.Q.D)->Prop} {g:List (List Key × L2.Q.D)->Prop}:onD (.dT kvs) f g=g kvs:=rfl
theorem Ho {k:List L2.Q.D->Prop}:tupD (.tup ys) k=k ys:=rfl
theorem GQ {kvs:List (List Key × L2.Q.D)} {k:List (List Key × L2.Q.D)->Prop}:owdT (some (some (.ow true (.dT kvs)))) k=k kvs:=rfl
end
end L2.Q.R
namespace L2
open PySem PySem.Spec PyProof.Rows
section
def insL {α:Type} (xs:List α) (k:Nat) (y:α):List α:=xs.take k++y :: xs.drop k
end
end L2
namespace L2.Q
open PySem PySem.Spec PyProof.Rows
section
variable {K:PySem.W.Frag} {e e3:Expr}
theorem pI:bootBuiltins "int" = some (.type "int"):=by decide +kernel
def fInt:W1:=fun _ x Q=>match x with
 | .int i=>Q .sh (.int i)
 | .bl b=>Q .sh (.int (if b then 1 else 0))
 | _=>False
theorem xK:BrC K (fun xs H Q=>(∃ i,xs=[.int i]/\Q (.int i) H)\/∃ k,xs=[.bl k]/\Q (.int (if k then 1 else 0)) H) fInt:=by
 intro Hs H m x v As Qd Qv w rx h f
 have r1:=rx.rep w
 cases r1 with
 | int i=>exact .inl ⟨i,rfl,f.sh w (.int _) h⟩
 | bl b=>exact .inr ⟨b,rfl,f.sh w (.int _) h⟩
 | _=>exact h.elim
theorem Place.short {Hs1 H1:Hp} {σ:St} {fl:Bool} {xs:List D} {v:V} {a:Addr} {vs:List V} {up:Bool->D->Env} (pl:Place K Hs1 H1 σ fl (.list xs) v up) (e:v=.ref a) (h:H1 a=some (.lst vs)):vs.length<=sizeLine:=by
 subst e
 rcases pl.ex with ⟨As',r,ne,_⟩
 cases r with
 | sh _ _=>exact absurd rfl ne
 | list hz e3 _=>rw [h] at e3; cases e3; exact hz
theorem ak.ins {Hs H:Hp} {fl:Bool} {d:D} {v:V} (r:RepO K Hs H fl d v []) {ds:List D} {vs:List V} {As:List Addr} (k:Nat) (q:ak K Hs H fl ds vs As):ak K Hs H fl (insL ds k d) (insL vs k v) As:=by
 induction k generalizing ds vs As with
 | zero=>exact ak.cons r q
 | succ k ih =>
  cases ds with
  | nil =>
   obtain ⟨rfl,rfl⟩:=q.n0
   exact ak.cons r .nil
  | cons e ds =>
   obtain ⟨u,us,A,B,rfl,rfl,q,qs⟩:=q.c
   exact ak.cons q (ih qs)
end
end L2.Q
namespace L2.Q.R
open PySem PySem.Spec PyProof.Rows L2.Q
section
variable {m:Md} {Q:Md->L2.Q.D->Prop} {xs:List L2.Q.D} {k:List L2.Q.D->Prop}
def lstD (d:L2.Q.D) (k:List L2.Q.D->Prop):Prop:=match d with
 | .list xs=>k xs
 | _=>False
theorem Hq:lstD (.list xs) k=k xs:=rfl
theorem Gf {d z:L2.Q.D} {n:Md}:gotG (some d) m n z Q=Q (itm m d) d:=rfl
theorem Gh {z:L2.Q.D} {n:Md}:gotG none m n z Q=Q n z:=rfl
theorem Fx {i:Int}:fInt m (.int i) Q=Q .sh (.int i):=rfl
theorem Fp {b:Bool}:fInt m (.bl b) Q=Q .sh (.int (if b then 1 else 0)):=rfl
end
end L2.Q.R
namespace PySem.SeqAt
open AutoSeq1 (wpAny_loadPart')
open MeetsSeq MeetsSeq2 MeetsSeq3 SeqRoads2
def LtAt (A:Around) (s:Shared) (u v:Value) (b:Bool):Prop:=∀ (prog:Program) (w:World) (Q:Value->Shared->Prop) (E:Value->Shared->Prop),Q (.bool b) s->wpAny (model prog w) A (richCompare .Lt u v) Q E s
def lexF (e f:Nat->Bool) (m n:Nat):Nat->Nat->Bool
 | 0,_=>decide (m<n)
 | k+1,i=>if e i then lexF e f m n k (i+1) else f i
theorem uI (l b:Addr) (items items2:Array Value) (n n2:Nat) (dd dd2:Option Addr) (sl sl2:Array (Option Value)) (e f:Nat->Bool) (k:Nat) :
  ∀ i:Nat,min items.size items2.size - i=k->i<=min items.size items2.size->Meets (Builtin.«list.__eq__.loop» ⟨[.ref l,.ref b,rawInt i,rawInt 0],[]⟩)
   (fun A R s=>s.heap.get? l=some { cls:=.type "list",dict:=dd,data:=.seq items n,slots:=sl }/\s.heap.get? b=some { cls:=.type "list",dict:=dd2,data:=.seq items2 n2,slots:=sl2 } /\
    (∀ j (h1:j<items.size) (h2:j<items2.size),EqAt A.in1 s items[j] items2[j] (e j))/\(∀ j (h1:j<items.size) (h2:j<items2.size),e j=false->LtAt A.in1 s items[j] items2[j] (f j)) /\
    R (.ok (.ret (.bool (lexF e f items.size items2.size k i)))) s):=by
 induction k with
 | zero =>
  intro i hk hle prog w A R s h
  obtain ⟨hp,g,d,tk,os⟩:=s; obtain ⟨hl,hb,he,hf,h⟩:=h
  wp_walk using wpAny_loadPart' hl,wpAny_loadPart' hb
  rcases (show items.size<=i\/items2.size<=i by lia) with z | z
  ·have hi1:items[((i:Nat):Int).toNat]? = none:=by simp; lia
   rw [hi1]
   wp_walk using wpAny_loadPart' hl,wpAny_loadPart' hb
   exact h
  ·have hi2:items2[((i:Nat):Int).toNat]? = none:=by simp; lia
   rw [hi2]
   cases items[((i:Nat):Int).toNat]? <;> wp_walk using wpAny_loadPart' hl,wpAny_loadPart' hb <;> exact h
 | succ k ih =>
  intro i hk hle prog w A R s h
  obtain ⟨hp,g,d,tk,os⟩:=s; obtain ⟨hl,hb,he,hf,h⟩:=h
  wp_walk using wpAny_loadPart' hl,wpAny_loadPart' hb
  have hlt:i<items.size:=by lia
  have hlt2:i<items2.size:=by lia
  have hi1:items[((i:Nat):Int).toNat]? = some items[i]:=by simp [hlt]
  have hi2:items2[((i:Nat):Int).toNat]? = some items2[i]:=by simp [hlt2]
  have hc:((i:Int)+1)=((i+1:Nat):Int):=by push_cast; rfl
  rw [hi1,hi2]
  refine xaa (he i hlt hlt2 prog w _ _ ?_)
  cases hb':e i with
  | true =>
   rw [lexF,hb',if_pos rfl] at h
   wp_walk
   rw [hc]
   exact ⟨plainId_quiet plain_eq_loop _,codeAny_builtin entry_eq_loop (by
    rw [Around.under_plainId plain_eq_loop _]
    exact ih (i+1) (by lia) (by lia) prog w A R _ ⟨hl,hb,he,hf,h⟩)⟩
  | false =>
   rw [lexF,hb',if_neg xam] at h
   wp_walk using wpAny_loadPart' hl,wpAny_loadPart' hb
   rw [hi1,hi2]
   refine xaa (hf i hlt hlt2 hb' prog w _ _ ?_)
   wp_walk
   exact h
theorem rW (l b:Addr) (items items2:Array Value) (n n2:Nat) (dd dd2:Option Addr) (sl sl2:Array (Option Value)) (e f:Nat->Bool) :
  Meets (Builtin.«list.__lt__» ⟨[.ref l,.ref b],[]⟩)
   (fun A R s=>s.heap.get? l=some { cls:=.type "list",dict:=dd,data:=.seq items n,slots:=sl }/\s.heap.get? b=some { cls:=.type "list",dict:=dd2,data:=.seq items2 n2,slots:=sl2 } /\
    (∀ j (h1:j<items.size) (h2:j<items2.size),EqAt A.in1 s items[j] items2[j] (e j))/\(∀ j (h1:j<items.size) (h2:j<items2.size),e j=false->LtAt A.in1 s items[j] items2[j] (f j)) /\
    R (.ok (.ret (.bool (lexF e f items.size items2.size (min items.size items2.size) 0)))) s):=by
 intro prog w A R s h
 obtain ⟨hp,g,d,tk,os⟩:=s; obtain ⟨hl,hb,he,hf,h⟩:=h
 have f3:=AutoSeq1.sub_list_list
 wp_walk using wpAny_loadPart' hl,wpAny_loadPart' hb
 exact ⟨plainId_quiet plain_eq_loop _,codeAny_builtin entry_eq_loop (by
  rw [Around.under_plainId plain_eq_loop _]
  exact uI l b items items2 n n2 dd dd2 sl sl2 e f _ 0 (xcq _) (xaz _) prog w A R _ ⟨hl,hb,he,hf,h⟩)⟩
theorem qZ (l b:Addr) (items items2:Array Value) (n n2:Nat) (dd dd2:Option Addr) (sl sl2:Array (Option Value)) (e f:Nat->Bool) :
  Meets (Builtin.«tuple.__lt__» ⟨[.ref l,.ref b],[]⟩)
   (fun A R s=>s.heap.get? l=some { cls:=.type "tuple",dict:=dd,data:=.seq items n,slots:=sl }/\s.heap.get? b=some { cls:=.type "tuple",dict:=dd2,data:=.seq items2 n2,slots:=sl2 } /\
    (∀ j (h1:j<items.size) (h2:j<items2.size),EqAt A.in1 s items[j] items2[j] (e j))/\(∀ j (h1:j<items.size) (h2:j<items2.size),e j=false->LtAt A.in1 s items[j] items2[j] (f j)) /\
    R (.ok (.ret (.bool (lexF e f items.size items2.size (min items.size items2.size) 0)))) s) :=
 .of_wp fun prog w A R s h=>by
  obtain ⟨hp,g,d,tk,os⟩:=s; obtain ⟨hl,hb,he,hf,h⟩:=h
  have f2:=AutoSeq1.sub_tuple_tuple
  have hZ:(items.toList.zip items2.toList).length=min items.size items2.size:=by simp
  wp_walk using wpAny_loadPart' hl,wpAny_loadPart' hb,wpAny_forIn_list _ (fun rest b s'=>b.1=none/\s'=⟨hp,g,d,tk,os⟩/\∃ i,rest=(items.toList.zip items2.toList).drop i/\i<=min items.size items2.size /\
   R (.ok (.ret (.bool (lexF e f items.size items2.size (min items.size items2.size - i) i)))) ⟨hp,g,d,tk,os⟩) _
  case turn =>
   rintro ⟨y,x⟩ rest b s' ⟨hb',rfl,i,hz,hi,hR⟩
   have hlt:i<(items.toList.zip items2.toList).length:=by
    rcases xbX i (items.toList.zip items2.toList).length with h' | h'
    ·exact h'
    ·rw [xb2 h'] at hz; cases hz
   have hm:i<min items.size items2.size:=hZ ▸ hlt
   have h1:i<items.size:=xav hm (Nat.min_le_left _ _)
   have h2:i<items2.size:=xav hm (Nat.min_le_right _ _)
   rw [xaN hlt] at hz
   injection hz with hyx hrest
   have hy:y=items[i]:=by have:=congrArg Prod.fst hyx; simpa using this
   have hx:x=items2[i]:=by have:=congrArg Prod.snd hyx; simpa using this
   subst hy hx
   rw [show min items.size items2.size - i=(min items.size items2.size - (i+1))+1 by lia,lexF] at hR
   refine xaa (he i h1 h2 prog w _ _ ?_)
   cases hy:e i with
   | true =>
    rw [hy,if_pos rfl] at hR
    wp_walk
    exact ⟨rfl,rfl,i+1,hrest,hm,hR⟩
   | false =>
    rw [hy,if_neg xam] at hR
    simp only [Bool.not_false,if_true]
    refine xaa (wpAny_rule ?_)
    refine xaa (hf i h1 h2 hy prog w _ _ ?_)
    wp_walk
    exact ⟨_,rfl,hR⟩
  case fin =>
   rintro ⟨b1,b2⟩ s' ⟨hb',rfl,i,hz,hi,hR⟩
   simp only at hb'
   subst hb'
   have hge:min items.size items2.size<=i:=by
    rcases xbX i (items.toList.zip items2.toList).length with h' | h'
    ·rw [xaN h'] at hz; cases hz
    ·exact hZ ▸ h'
   rw [show min items.size items2.size - i=0 by lia,lexF] at hR
   wp_walk
   exact ⟨_,rfl,by simpa [Builtin.Tuple.tupleCompareSizes] using hR⟩
  case h =>
   exact ⟨rfl,rfl,0,rfl,xaz _,h⟩
section
variable {A:Around} {s:Shared}
theorem LtAt.tuples {l b:Addr} {items items2:Array Value} {e f:Nat->Bool} (hl:s.heap.IsTuple l items) (hb:s.heap.IsTuple b items2) (hu:A.units<cLine)
  (he:∀ j (h1:j<items.size) (h2:j<items2.size),EqAt A.in1 s items[j] items2[j] (e j)) (hf:∀ j (h1:j<items.size) (h2:j<items2.size),e j=false->LtAt A.in1 s items[j] items2[j] (f j)) :
  LtAt A s (.ref l) (.ref b) (lexF e f items.size items2.size (min items.size items2.size) 0):=fun prog w Q E h=>by
 obtain ⟨⟨cls,dd,data,sl⟩,ho,hc,n,hd⟩:=id hl
 obtain ⟨⟨cls2,dd2,data2,sl2⟩,ho2,hc2,n2,hd2⟩:=id hb
 simp only at hc hd hc2 hd2
 subst hc hd hc2 hd2
 exact richCompare_meets_room (op:=.Lt) ⟨_,ho,rfl⟩ ⟨_,ho2,rfl⟩ F.slot_tuple_lt F.entry_tuple_lt (F.args_tuple_lt_2 _ _) (qZ l b items items2 n n2 dd dd2 sl sl2 e f)
  ⟨ho,ho2,he,hf,show Value.bool _≠Value.notImplemented/\Q (.bool _) s from ⟨(fun x=>nomatch x),h⟩⟩ hu
theorem LtAt.lists {l b:Addr} {items items2:Array Value} {e f:Nat->Bool} (hl:s.heap.IsList l items) (hb:s.heap.IsList b items2) (hu:A.units<cLine)
  (he:∀ j (h1:j<items.size) (h2:j<items2.size),EqAt A.in1 s items[j] items2[j] (e j)) (hf:∀ j (h1:j<items.size) (h2:j<items2.size),e j=false->LtAt A.in1 s items[j] items2[j] (f j)) :
  LtAt A s (.ref l) (.ref b) (lexF e f items.size items2.size (min items.size items2.size) 0):=fun prog w Q E h=>by
 obtain ⟨⟨cls,dd,data,sl⟩,ho,hc,n,hd⟩:=id hl
 obtain ⟨⟨cls2,dd2,data2,sl2⟩,ho2,hc2,n2,hd2⟩:=id hb
 simp only at hc hd hc2 hd2
 subst hc hd hc2 hd2
 exact richCompare_meets_room (op:=.Lt) ⟨_,ho,rfl⟩ ⟨_,ho2,rfl⟩ F.slot_list_lt F.entry_list_lt (F.args_list_lt_2 _ _) (rW l b items items2 n n2 dd dd2 sl sl2 e f)
  ⟨ho,ho2,he,hf,show Value.bool _≠Value.notImplemented/\Q (.bool _) s from ⟨(fun x=>nomatch x),h⟩⟩ hu
theorem LtAt.int (a:Int) (t:Tok) (b:Int) (u:Tok):LtAt A s (.int a t) (.int b u) (decide (a<b)):=fun prog w Q E h=>(show wpAny _ _ (compareOp .Lt _ _) _ _ _ from PyProof.Rows.lt_int h)
theorem LtAt.str (a:Str) (t:Tok) (b:Str) (u:Tok):LtAt A s (.str a t) (.str b u) (decide (a.cps.toList<b.cps.toList)):=fun prog w Q E h=>(show wpAny _ _ (compareOp .Lt _ _) _ _ _ from PySem.P.lt_str h)
end
def lexP (lt:PyData->PyData->Bool):List PyData->List PyData->Bool
 | [],ys=>!ys.isEmpty
 | _ :: _,[]=>false
 | x :: xs,y :: ys=>if PyData.eqv x y then lexP lt xs ys else lt x y
def ltP:Nat->PyData->PyData->Bool
 | _,.int i,.int j=>decide (i<j)
 | _,.str x,.str y=>decide (x.cps.toList<y.cps.toList)
 | n+1,.list xs,.list ys=>lexP (ltP n) xs ys
 | n+1,.tuple xs,.tuple ys=>lexP (ltP n) xs ys
 | _,_,_=>false
def CmP:Nat->PyData->PyData->Prop
 | _,.int _,.int _=>True
 | _,.str _,.str _=>True
 | n+1,.list xs,.list ys=>∀ (j:Nat) (x y:PyData),xs[j]? = some x->ys[j]? = some y->PyData.eqv x y=false->CmP n x y
 | n+1,.tuple xs,.tuple ys=>∀ (j:Nat) (x y:PyData),xs[j]? = some x->ys[j]? = some y->PyData.eqv x y=false->CmP n x y
 | _,_,_=>False
def at2 (g:PyData->PyData->Bool) (xs ys:List PyData) (j:Nat):Bool:=match xs[j]?,ys[j]? with
 | some x,some y=>g x y
 | _,_=>false
theorem jz {g:PyData->PyData->Bool} {xs ys:List PyData} {j:Nat} {x y:PyData} (hx:xs[j]? = some x) (hy:ys[j]? = some y):at2 g xs ys j=g x y:=by
 unfold at2
 rw [hx,hy]
theorem xO (lt:PyData->PyData->Bool) (xs ys:List PyData) (k:Nat):∀ i,min xs.length ys.length - i=k->i<=min xs.length ys.length->lexF (at2 PyData.eqv xs ys) (at2 lt xs ys) xs.length ys.length k i=lexP lt (xs.drop i) (ys.drop i):=by
 induction k with
 | zero =>
  intro i hk hi
  rw [lexF]
  rcases xbX xs.length ys.length with z | z
  ·rw [decide_eq_true z,xb2 (show xs.length<=i by lia),xaN (show i<ys.length by lia)]
   rfl
  ·rw [decide_eq_false (by lia),xb2 (show ys.length<=i by lia)]
   cases xs.drop i <;> rfl
 | succ k ih =>
  intro i hk hi
  have h1:i<xs.length:=by lia
  have h2:i<ys.length:=by lia
  rw [lexF,jz (xau h1) (xau h2),jz (xau h1) (xau h2),ih (i+1) (by lia) (by lia),
   xaN h1,xaN h2,lexP]
theorem bQ {h:Heap} {xs:List PyData}:∀ {vs:List Value} {as:List Addr},ReadsAll h vs xs as->∀ (j:Nat) (v:Value),vs[j]? = some v->∃ x bs,xs[j]? = some x/\Reads h v x bs:=by
 induction xs with
 | nil =>
  intro vs as r j v hv
  cases r
  simp at hv
 | cons x xs ih =>
  intro vs as r j v hv
  cases r with
  | cons r rs =>
   cases j with
   | zero =>
    simp at hv
    subst hv
    exact ⟨x,_,rfl,r⟩
   | succ j=>exact ih rs j v (by simpa using hv)
theorem gC {xs:List PyData} (h:PyData.canLayAll0 xs=true) {j:Nat} {x:PyData} (hx:xs[j]? = some x):x.canLay0=true:=by
 induction xs generalizing j with
 | nil=>simp at hx
 | cons y xs ih =>
  have h:y.canLay0=true/\PyData.canLayAll0 xs=true:=by simpa [PyData.canLayAll0] using h
  cases j with
  | zero=>simp at hx; subst hx; exact h.1
  | succ j=>exact ih h.2 (by simpa using hx)
theorem kZ {xs:List PyData} {j:Nat} {x:PyData} (hx:xs[j]? = some x):x.depth<=PyData.depthAll xs:=by
 induction xs generalizing j with
 | nil=>simp at hx
 | cons y xs ih =>
  simp only [PyData.depthAll]
  cases j with
  | zero=>simp at hx; subst hx; lia
  | succ j=>have:=ih (j:=j) (by simpa using hx); lia
theorem oO (n:Nat):∀ (d e:PyData) (A:Around) (s:Shared) (a b:Value) (as bs:List Addr),Reads s.heap a d as->Reads s.heap b e bs->d.canLay0=true->e.canLay0=true->CmP n d e->d.depth<=20->A.units+n+30<cLine->LtAt A s a b (ltP n d e):=by
 induction n with
 | zero =>
  intro d e A s a b as bs ra rb _ _ c _ _
  cases ra <;> cases rb <;> first | (rw [ltP]; exact LtAt.int _ _ _ _) | (rw [ltP]; exact LtAt.str _ _ _ _) | exact absurd c (by simp [CmP])
 | succ n ih =>
  intro d e A s a b as bs ra rb la lb c dd hu
  cases ra with
  | int i t=>cases rb <;> first | (rw [ltP]; exact LtAt.int _ _ _ _) | exact absurd c (by simp [CmP])
  | str x t=>cases rb <;> first | (rw [ltP]; exact LtAt.str _ _ _ _) | exact absurd c (by simp [CmP])
  | @list l o vs m xs as1 h1 h2 h3 h4 =>
   cases rb with
   | @list l' o' vs' m' ys bs1 k1 k2 k3 k4 =>
    have n1:vs.size=xs.length:=by simpa using ReadsAll.length _ _ _ h4
    have n2:vs'.size=ys.length:=by simpa using ReadsAll.length _ _ _ k4
    have at1:∀ j (h1:j<vs.size),∃ x cs,xs[j]? = some x/\Reads s.heap vs[j] x cs:=fun j hj=>bQ h4 j vs[j] (by simp [hj])
    have at2':∀ j (h1:j<vs'.size),∃ x cs,ys[j]? = some x/\Reads s.heap vs'[j] x cs:=fun j hj=>bQ k4 j vs'[j] (by simp [hj])
    have dx:PyData.depthAll xs<20:=by simp only [PyData.depth] at dd; lia
    have:=LtAt.lists (A:=A) (s:=s) (e:=at2 PyData.eqv xs ys) (f:=at2 (ltP n) xs ys) ⟨_,h1,h2,_,h3⟩ ⟨_,k1,k2,_,k3⟩ (by lia) (fun j j1 j2=>by
     obtain ⟨x,cs,ex,rx⟩:=at1 j j1
     obtain ⟨y,cs',ey,ry⟩:=at2' j j2
     rw [jz ex ey]
     have:=kZ ex
     exact eqAt_reads x y A.in1 s _ _ _ _ rx ry (gC la ex) (gC lb ey) (by show A.units+1+_<cLine; lia)) (fun j j1 j2 ne=>by
     obtain ⟨x,cs,ex,rx⟩:=at1 j j1
     obtain ⟨y,cs',ey,ry⟩:=at2' j j2
     rw [jz ex ey] at ne ⊢
     have:=kZ ex
     exact ih x y A.in1 s _ _ _ _ rx ry (gC la ex) (gC lb ey) (c j x y ex ey ne) (by lia) (by show A.units+1+n+30<cLine; lia))
    rw [n1,n2,xO (ltP n) xs ys _ 0 (xcq _) (xaz _)] at this
    exact this
   | _=>exact absurd c (by simp [CmP])
  | @tuple l o vs m xs as1 h1 h2 h3 h4 =>
   cases rb with
   | @tuple l' o' vs' m' ys bs1 k1 k2 k3 k4 =>
    have n1:vs.size=xs.length:=by simpa using ReadsAll.length _ _ _ h4
    have n2:vs'.size=ys.length:=by simpa using ReadsAll.length _ _ _ k4
    have at1:∀ j (h1:j<vs.size),∃ x cs,xs[j]? = some x/\Reads s.heap vs[j] x cs:=fun j hj=>bQ h4 j vs[j] (by simp [hj])
    have at2':∀ j (h1:j<vs'.size),∃ x cs,ys[j]? = some x/\Reads s.heap vs'[j] x cs:=fun j hj=>bQ k4 j vs'[j] (by simp [hj])
    have dx:PyData.depthAll xs<20:=by simp only [PyData.depth] at dd; lia
    have:=LtAt.tuples (A:=A) (s:=s) (e:=at2 PyData.eqv xs ys) (f:=at2 (ltP n) xs ys) ⟨_,h1,h2,_,h3⟩ ⟨_,k1,k2,_,k3⟩ (by lia) (fun j j1 j2=>by
     obtain ⟨x,cs,ex,rx⟩:=at1 j j1
     obtain ⟨y,cs',ey,ry⟩:=at2' j j2
     rw [jz ex ey]
     have:=kZ ex
     exact eqAt_reads x y A.in1 s _ _ _ _ rx ry (gC la ex) (gC lb ey) (by show A.units+1+_<cLine; lia)) (fun j j1 j2 ne=>by
     obtain ⟨x,cs,ex,rx⟩:=at1 j j1
     obtain ⟨y,cs',ey,ry⟩:=at2' j j2
     rw [jz ex ey] at ne ⊢
     have:=kZ ex
     exact ih x y A.in1 s _ _ _ _ rx ry (gC la ex) (gC lb ey) (c j x y ex ey ne) (by lia) (by show A.units+1+n+30<cLine; lia))
    rw [n1,n2,xO (ltP n) xs ys _ 0 (xcq _) (xaz _)] at this
    exact this
   | _=>exact absurd c (by simp [CmP])
  | _=>cases rb <;> exact absurd c (by simp [CmP])
end PySem.SeqAt
namespace L2
open PySem PySem.Spec PyProof.Rows PySem.SeqAt
structure Tot (lt:PyData->PyData->Bool) (S:PyData->Prop):Prop where
 irr:∀ x,S x->lt x x=false
 tr:∀ x y z,S x->S y->S z->lt x y=true->lt y z=true->lt x z=true
 tot:∀ x y,S x->S y->lt x y=false->lt y x=false->x=y
 eqv:∀ x y,S x->S y->(PyData.eqv x y=true↔x=y)
theorem Tot.int (n:Nat):Tot (ltP n) fun x=>∃ i,x=.int i where
 irr:=by rintro x ⟨i,rfl⟩; rw [ltP]; simp
 tr:=by rintro x y z ⟨i,rfl⟩ ⟨j,rfl⟩ ⟨k,rfl⟩; rw [ltP,ltP,ltP]; simp only [decide_eq_true_eq]; lia
 tot:=by rintro x y ⟨i,rfl⟩ ⟨j,rfl⟩; rw [ltP,ltP]; simp only [decide_eq_false_iff_not,PyData.int.injEq]; lia
 eqv:=by rintro x y ⟨i,rfl⟩ ⟨j,rfl⟩; simp [PyData.eqv]
theorem Tot.str (n:Nat):Tot (ltP n) fun x=>∃ s,x=.str s where
 irr:=by rintro x ⟨i,rfl⟩; rw [ltP]; exact ou i
 tr:=by rintro x y z ⟨i,rfl⟩ ⟨j,rfl⟩ ⟨k,rfl⟩; rw [ltP,ltP,ltP]; exact fun h g=>xU (y:=j) h g
 tot:=by rintro x y ⟨i,rfl⟩ ⟨j,rfl⟩; rw [ltP,ltP]; exact fun h g=>by rw [tO (x:=i) (y:=j) h g]
 eqv:=by rintro x y ⟨i,rfl⟩ ⟨j,rfl⟩; simp [PyData.eqv]
section
variable {lt:PyData->PyData->Bool} {S:PyData->Prop}
theorem wN (T:Tot lt S) (xs:List PyData) (h:∀ x∈xs,S x):lexP lt xs xs=false:=by
 induction xs with
 | nil=>rfl
 | cons x xs ih =>
  rw [lexP,if_pos ((T.eqv x x (h x xac) (h x xac)).mpr rfl)]
  exact ih fun y hy=>h y (xab _ hy)
open Classical in
theorem bW (T:Tot lt S) {x y:PyData} {xs ys:List PyData} (hx:S x) (hy:S y):lexP lt (x :: xs) (y :: ys)=if x=y then lexP lt xs ys else lt x y:=by
 rw [lexP]
 by_cases e:x=y
 ·rw [if_pos e,if_pos ((T.eqv x y hx hy).mpr e)]
 ·rw [if_neg e,if_neg fun z=>e ((T.eqv x y hx hy).mp z)]
theorem wU (T:Tot lt S) (xs:List PyData):∀ ys:List PyData,(∀ x∈xs,S x)->(∀ y∈ys,S y)->lexP lt xs ys=false->lexP lt ys xs=false->xs=ys:=by
 induction xs with
 | nil =>
  intro ys _ _ h _
  cases ys with
  | nil=>rfl
  | cons y ys=>cases h
 | cons x xs ih =>
  intro ys hx hy h1 h2
  cases ys with
  | nil=>cases h2
  | cons y ys =>
   have sx:=hx x xac
   have sy:=hy y xac
   rw [bW T sx sy] at h1
   rw [bW T sy sx] at h2
   by_cases e:x=y
   ·subst e
    rw [if_pos rfl] at h1 h2
    rw [ih ys (fun z hz=>hx z (xab _ hz)) (fun z hz=>hy z (xab _ hz)) h1 h2]
   ·rw [if_neg e] at h1
    rw [if_neg fun z=>e z.symm] at h2
    exact absurd (T.tot x y sx sy h1 h2) e
theorem zF (T:Tot lt S) (xs:List PyData):∀ ys zs:List PyData,(∀ x∈xs,S x)->(∀ y∈ys,S y)->(∀ z∈zs,S z)->lexP lt xs ys=true->lexP lt ys zs=true->lexP lt xs zs=true:=by
 induction xs with
 | nil =>
  intro ys zs _ _ _ h1 h2
  cases zs with
  | cons z zs=>rfl
  | nil =>
   cases ys with
   | nil=>cases h1
   | cons y ys=>cases h2
 | cons x xs ih =>
  intro ys zs hx hy hz h1 h2
  cases ys with
  | nil=>cases h1
  | cons y ys =>
   cases zs with
   | nil=>cases h2
   | cons z zs =>
    have sx:=hx x xac
    have sy:=hy y xac
    have sz:=hz z xac
    rw [bW T sx sy] at h1
    rw [bW T sy sz] at h2
    rw [bW T sx sz]
    have tl:=ih ys zs (fun z hz=>hx z (xab _ hz)) (fun z hz=>hy z (xab _ hz)) fun w hw=>hz w (xab _ hw)
    by_cases e1:x=y
    ·subst e1
     rw [if_pos rfl] at h1
     by_cases e2:x=z
     ·subst e2
      rw [if_pos rfl] at h2 ⊢
      exact tl h1 h2
     ·rw [if_neg e2] at h2 ⊢
      exact h2
    ·rw [if_neg e1] at h1
     by_cases e2:y=z
     ·subst e2
      rw [if_neg e1]
      exact h1
     ·rw [if_neg e2] at h2
      have t:=T.tr x y z sx sy sz h1 h2
      by_cases e3:x=z
      ·subst e3
       rw [T.irr x sx] at t
       cases t
      ·rw [if_neg e3]; exact t
theorem qH (T:Tot lt S) (xs:List PyData):∀ ys:List PyData,(∀ x∈xs,S x)->(∀ y∈ys,S y)->(PyData.eqvAll xs ys=true↔xs=ys):=by
 induction xs with
 | nil=>intro ys _ _; cases ys <;> simp [PyData.eqvAll]
 | cons x xs ih =>
  intro ys hx hy
  cases ys with
  | nil=>simp [PyData.eqvAll]
  | cons y ys =>
   have h1:=T.eqv x y (hx x xac) (hy y xac)
   have h2:=ih ys (fun z hz=>hx z (xab _ hz)) fun z hz=>hy z (xab _ hz)
   simp only [PyData.eqvAll,xaA,List.cons.injEq]
   exact and_congr h1 h2
end
theorem Tot.list {n:Nat} {S:PyData->Prop} (T:Tot (ltP n) S):Tot (ltP (n+1)) fun x=>∃ xs,x=.list xs/\∀ y∈xs,S y where
 irr:=by rintro x ⟨xs,rfl,h⟩; rw [ltP]; exact wN T xs h
 tr:=by rintro x y z ⟨xs,rfl,h⟩ ⟨ys,rfl,h'⟩ ⟨zs,rfl,h''⟩; rw [ltP,ltP,ltP]; exact zF T xs ys zs h h' h''
 tot:=by
  rintro x y ⟨xs,rfl,h⟩ ⟨ys,rfl,h'⟩
  rw [ltP,ltP]
  exact fun h1 h2=>by rw [wU T xs ys h h' h1 h2]
 eqv:=by
  rintro x y ⟨xs,rfl,h⟩ ⟨ys,rfl,h'⟩
  rw [PyData.list.injEq]
  exact qH T xs ys h h'
open Classical in
theorem cF {n:Nat} {S U:PyData->Prop} (T:Tot (ltP n) S) (T2:Tot (ltP n) U) {a b c d:PyData} (ha:S a) (hb:U b) (hc:S c) (hd:U d):lexP (ltP n) [a,b] [c,d]=if a=c then ltP n b d else ltP n a c:=by
 rw [bW T ha hc,bW T2 hb hd]
 by_cases e:b=d
 ·subst e
  rw [if_pos rfl,show lexP (ltP n) [] []=false from rfl,T2.irr b hb]
 ·rw [if_neg e]
theorem Tot.pair {n:Nat} {S U:PyData->Prop} (T:Tot (ltP n) S) (T2:Tot (ltP n) U):Tot (ltP (n+1)) fun x=>∃ a b,x=.tuple [a,b]/\S a/\U b where
 irr:=by rintro x ⟨a,b,rfl,ha,hb⟩; rw [ltP,cF T T2 ha hb ha hb,if_pos rfl]; exact T2.irr b hb
 tr:=by
  rintro x y z ⟨a,b,rfl,ha,hb⟩ ⟨c,d,rfl,hc,hd⟩ ⟨e,f,rfl,he,hf⟩
  rw [ltP,ltP,ltP,cF T T2 ha hb hc hd,cF T T2 hc hd he hf,cF T T2 ha hb he hf]
  intro h1 h2
  by_cases e1:a=c
  ·subst e1
   rw [if_pos rfl] at h1
   by_cases e2:a=e
   ·subst e2
    rw [if_pos rfl] at h2 ⊢
    exact T2.tr b d f hb hd hf h1 h2
   ·rw [if_neg e2] at h2 ⊢
    exact h2
  ·rw [if_neg e1] at h1
   by_cases e2:c=e
   ·subst e2
    rw [if_neg e1]; exact h1
   ·rw [if_neg e2] at h2
    have t:=T.tr a c e ha hc he h1 h2
    by_cases e3:a=e
    ·subst e3
     rw [T.irr a ha] at t; cases t
    ·rw [if_neg e3]; exact t
 tot:=by
  rintro x y ⟨a,b,rfl,ha,hb⟩ ⟨c,d,rfl,hc,hd⟩
  rw [ltP,ltP,cF T T2 ha hb hc hd,cF T T2 hc hd ha hb]
  intro h1 h2
  by_cases e:a=c
  ·subst e
   rw [if_pos rfl] at h1 h2
   rw [T2.tot b d hb hd h1 h2]
  ·rw [if_neg e] at h1
   rw [if_neg fun z=>e z.symm] at h2
   exact absurd (T.tot a c ha hc h1 h2) e
 eqv:=by
  rintro x y ⟨a,b,rfl,ha,hb⟩ ⟨c,d,rfl,hc,hd⟩
  have h1:=T.eqv a c ha hc
  have h2:=T2.eqv b d hb hd
  simp only [PyData.eqv,PyData.eqvAll,xaA,xcm,PyData.tuple.injEq,List.cons.injEq,and_true]
  exact and_congr h1 h2
section
variable {prog:Program} {w:World} {A:Around} {E:Value->Shared->Prop} {s:Shared} {Q:Bool->Shared->Prop}
theorem wF {n:Nat} (xs:List PyData):∀ (ys:List PyData) (us vs:List Value) (as bs:List Addr) (i:Nat),ReadsAll s.heap us xs as->ReadsAll s.heap vs ys bs->PyData.canLayAll0 xs=true->PyData.canLayAll0 ys=true->PyData.depthAll xs<=20 ->
  (∀ (j:Nat) (x y:PyData),xs[j]? = some x->ys[j]? = some y->PyData.eqv x y=false->CmP n x y)->(i=0->∀ x y,xs[0]? = some x->ys[0]? = some y->(∃ k,x=.int k)/\∃ k,y=.int k)->xs.length=ys.length->A.units+n+30<cLine->Q (lexP (ltP n) xs ys) s ->
  PySem.W.KatLex prog w A true false Q (us.zip vs) i s:=by
 induction xs with
 | nil =>
  intro ys us vs as bs i ra rb _ _ _ _ _ hl _ q
  cases ys with
  | cons y ys=>cases hl
  | nil =>
   cases ra
   exact PySem.W.kat_nil q
 | cons x xs ih =>
  intro ys us vs as bs i ra rb la lb dp c hi hl hu q
  cases ys with
  | nil=>cases hl
  | cons y ys =>
   cases ra with
   | cons r rs =>
    cases rb with
    | cons r' rs' =>
     have la':x.canLay0=true/\PyData.canLayAll0 xs=true:=by simpa [PyData.canLayAll0] using la
     have lb':y.canLay0=true/\PyData.canLayAll0 ys=true:=by simpa [PyData.canLayAll0] using lb
     have dp':x.depth<=20/\PyData.depthAll xs<=20:=by simp only [PyData.depthAll] at dp; lia
     rw [xa6]
     rw [lexP] at q
     refine PySem.W.kat_cons (eqAt_reads x y A s _ _ _ _ r r' la'.1 lb'.1 (by lia) prog w _ _ (PySem.W.kat_go (fun h=>PySem.W.kat_yes ?_) (fun h=>PySem.W.kat_no ?_)))
     ·rw [if_pos h] at q
      exact ih ys _ _ _ _ (i+1) rs rs' la'.2 lb'.2 dp'.2 (fun j=>c (j+1)) (fun z=>by lia) (by simpa using hl) hu q
     ·rw [if_neg (by rw [h]; exact xam)] at q
      by_cases h0:i=0
      ·obtain ⟨⟨a,rfl⟩,⟨b,rfl⟩⟩:=hi h0 x y rfl rfl
       subst h0
       cases r
       cases r'
       rw [ltP] at q
       exact oneLt_int q
      ·rw [show (true && i == 0)=false by simp [h0]]
       exact PySem.W.kat_one _ _ (oO n x y A s _ _ _ _ r r' la'.1 lb'.1 (c 0 x y rfl rfl h) dp'.1 (by lia) prog w _ _ q)
structure KeyS (n:Nat) (S:PyData->Prop):Prop where
 tot:Tot (ltP (n+1)) S
 tup:∀ x,S x->∃ i xs,x=.tuple (.int i :: xs)/\x.canLay0=true/\x.depth<=20
 len:∀ xs ys,S (.tuple xs)->S (.tuple ys)->xs.length=ys.length
 cm:∀ x y,S x->S y->CmP (n+1) x y
open Classical in
def g8 (h:Heap) (v:Value):PyData:=if z:∃ d as,Reads h v d as/\d.canLay0=true then z.choose else .none
theorem dM {h:Heap} {v:Value} {d:PyData} {as:List Addr} (r:Reads h v d as) (l:d.canLay0=true):g8 h v=d:=by
 have z:∃ d as,Reads h v d as/\d.canLay0=true:=⟨d,as,r,l⟩
 unfold g8
 rw [dif_pos z]
 obtain ⟨bs,r2,l2⟩:=z.choose_spec
 exact Reads.unique _ _ _ _ _ l2 r2 r
def rkP (n:Nat) (L:List PyData) (d:PyData):Int:=(L.countP fun e=>ltP n e d:Nat)
theorem xJ {n:Nat} {S:PyData->Prop} (T:Tot (ltP n) S) {L:List PyData} (hL:∀ d∈L,S d) {a b:PyData} (ha:a∈L) (hb:S b):decide (rkP n L a<rkP n L b)=ltP n a b:=by
 have sa:=hL a ha
 unfold rkP
 cases h:ltP n a b with
 | true =>
  have:=jO (fun j=>ltP n j a) (fun j=>ltP n j b) a (T.irr a sa) h L ha fun x hx z=>T.tr x a b (hL x hx) sa hb z h
  exact decide_eq_true (by lia)
 | false =>
  refine decide_eq_false ?_
  cases g:ltP n b a with
  | false =>
   rw [T.tot a b sa hb h g]
   lia
  | true =>
   have:=count_le (fun j=>ltP n j b) (fun j=>ltP n j a) L fun x hx z=>T.tr x b a (hL x hx) hb sa z g
   lia
theorem wO {n:Nat} {S:PyData->Prop} (K:KeyS n S) {h0:Heap} (kp:∀ b o,h0.get? b=some o->s.heap.get? b=some o) {L:List PyData} (hL:∀ d∈L,S d) (hu:A.units+n+31<cLine) :
  Tim.Cmp prog w A s (tuples' true) (fun v=>rkP (n+1) L (g8 h0 v)) (fun v=>∃ d as,d∈L/\Reads h0 v d as):=by
 rintro x y ⟨d,as,md,rd⟩ ⟨e,bs,me,re⟩ Q E q
 have sd:=hL d md
 have se:=hL e me
 obtain ⟨i,xs,rfl,ld,dd⟩:=K.tup d sd
 obtain ⟨j,ys,rfl,le,de⟩:=K.tup e se
 replace q:Q (decide (rkP (n+1) L (g8 h0 x)<rkP (n+1) L (g8 h0 y))) s:=q
 rw [dM rd ld,dM re le,xJ K.tot hL md se,ltP] at q
 have rd':=PyProof.Rows.Reads.keeps kp rd
 have re':=PyProof.Rows.Reads.keeps kp re
 have cm:=K.cm _ _ sd se
 have hl:=K.len _ _ sd se
 cases rd' with
 | @tuple a o us m _ as1 h1 h2 h3 h4 =>
  cases re' with
  | @tuple b o' vs m' _ bs1 k1 k2 k3 k4 =>
   have n1:us.size=(PyData.int i :: xs).length:=by simpa using ReadsAll.length _ _ _ h4
   have n2:vs.size=(PyData.int j :: ys).length:=by simpa using ReadsAll.length _ _ _ k4
   refine PySem.W.kat_lt h1 h3 k1 k3 ?_
   rw [show decide (us.size<vs.size)=false from decide_eq_false (by lia)]
   exact wF (n:=n) _ _ _ _ _ _ 0 h4 k4 ld le (by simp only [PyData.depth] at dd; lia) cm (fun _ x y hx hy=>by cases hx; cases hy; exact ⟨⟨_,rfl⟩,_,rfl⟩) hl (by lia) q
end
section
variable {X:Cx} {pins:List (Addr × Obj)} {σ:St} {H:Hp} {s:Shared}
theorem uO (I:Inv X pins σ H s):∀ {ds:List PyData} {ys:List V} {vs:List Value},Reps X.K H ds ys->Vals ys vs->∀ v∈vs,∃ d y as,d∈ds/\Rep X.K H d y/\RelV y v/\Reads s.heap v d as
 | _,_,_,.nil,.nil,v,hv=>nomatch hv
 | _,_,_,.cons r rs,.cons q qs,v,hv=>by
  rcases xag.mp hv with rfl | hv
  ·obtain ⟨as,z⟩:=r.reads I q
   exact ⟨_,_,as,xac,r,q,z⟩
  ·obtain ⟨d,y,as,a,b,c,z⟩:=uO I rs qs v hv
   exact ⟨d,y,as,xab _ a,b,c,z⟩
theorem pB {h0:Heap} {n:Nat} {S:PyData->Prop} (K:KeyS n S):∀ (vs:List Value),(∀ v∈vs,∃ d as,S d/\Reads h0 v d as)->∃ fs:List Value,PySem.W.KatTups h0 vs fs/\fs.length=vs.length/\∀ f∈fs,∃ i t,f=Value.int i t
 | [],_=>⟨[],.nil,rfl,fun f hf=>nomatch hf⟩
 | v :: vs,h=>by
  obtain ⟨fs,f1,f2,f3⟩:=pB K vs fun u hu=>h u (xab _ hu)
  obtain ⟨d,as,sd,r⟩:=h v xac
  obtain ⟨i,xs,rfl,_,_⟩:=K.tup d sd
  cases r with
  | @tuple a o us m _ as1 h1 h2 h3 h4 =>
   obtain ⟨us⟩:=us
   cases h4 with
   | cons r rs =>
    cases r with
    | int _ t =>
     exact ⟨_ :: fs,.cons h1 h2 h3 rfl f1,by simp [f2],fun f hf=>by
      rcases xag.mp hf with rfl | hf
      ·exact ⟨_,_,rfl⟩
      ·exact f3 f hf⟩
def refV:Value->V
 | .ref a=>.ref a
 | _=>.non
theorem sV {n:Nat} {S:PyData->Prop} (K:KeyS n S) {h0:Heap} {d:PyData} {y:V} {v:Value} {as:List Addr} (sd:S d) (q:RelV y v) (r:Reads h0 v d as):refV v=y:=by
 obtain ⟨i,xs,rfl,_,_⟩:=K.tup d sd
 cases r with
 | tuple h1 h2 h3 h4 =>
  cases y with
  | ref b=>cases (show Value.ref _=Value.ref b from q); rfl
  | _=>simp [RelV] at q
theorem pX {n:Nat} {S:PyData->Prop} (K:KeyS n S) (I:Inv X pins σ H s):∀ {ds:List PyData} {ys:List V} {vs:List Value},Reps X.K H ds ys->Vals ys vs->(∀ d∈ds,S d)->vs.map (fun v=>(g8 s.heap v,refV v))=ds.zip ys
 | _,_,_,.nil,.nil,_=>rfl
 | _,_,_,.cons r rs,.cons q qs,h=>by
  obtain ⟨as,z⟩:=r.reads I q
  have sd:=h _ xac
  obtain ⟨_,_,_,l,_⟩:=K.tup _ sd
  rw [xap,dM z l,sV K sd q z,pX K I rs qs fun d hd=>h d (xab _ hd),xa6]
def jB (K:PySem.W.Frag) (n:Nat) (S:PyData->Prop):List V->Hp->VK->Prop:=fun xs H Q=>match xs with
 | [.ref p]=>∃ ys ds,ys.length<=63/\SqL K H p ys/\Reps K H ds ys/\(∀ d∈ds,S d)/\∀ (ps:List (PyData × V)) l,ps.Perm (ds.zip ys)->(ps.Pairwise fun a b=>ltP (n+1) b.1 a.1=false)->H l=none->Q (.ref l) (upd H l (.lst (ps.map (·.2))))
 | _=>False
theorem qL {n:Nat} {S:PyData->Prop} (K:KeyS n S) (hu:X.A.units+n+40<cLine):CallR X (.builtin "sorted") (jB X.K n S):=by
 intro pins s σ H xs us Q I r h
 unfold jB at h
 split at h
 ·rename_i p
  obtain ⟨ys,ds,h63,hl,hr,hS,q⟩:=h
  obtain ⟨u,rfl,ru⟩:=Vals.one r
  cases ru
  obtain ⟨vs,rv,pl,hz⟩:=I.list hl
  have lay:∀ d∈ds,d.canLay0=true:=fun d hd=>by obtain ⟨_,_,_,l,_⟩:=K.tup d (hS d hd); exact l
  have mem:=uO I hr rv
  have hlen:=rv.length
  refine Tim.tG (κ:=tuples' true) (r:=fun v=>rkP (n+1) ds (g8 s.heap v)) (P:=fun v=>∃ d as,d∈ds/\Reads s.heap v d as) pl.isList (by lia) (fun v hv=>?_) (fun h2 A' E' s' kp Q' q'=>?_) (fun h2 s' kp=>wO K kp hS (by show X.A.units+1+1+n+31<cLine; lia)) fun h' out m pm pw kp eo=>?_
  ·obtain ⟨d,y,as,a,b,c,z⟩:=mem v hv
   exact ⟨d,as,a,z⟩
  ·obtain ⟨fs,f1,f2,f3⟩:=pB (h0:=s'.heap) K vs fun v hv=>by
    obtain ⟨d,y,as,a,b,c,z⟩:=mem v hv
    exact ⟨d,as,hS d a,PyProof.Rows.Reads.keeps kp z⟩
   refine PySem.W.kat_kind (T:=.type "int") f1 (by lia) (fun f hf=>?_) (by decide) q'
   obtain ⟨i,t,rfl⟩:=f3 f hf
   exact .now
  ·have back:∀ v∈out,∃ d y as,d∈ds/\Rep X.K H d y/\RelV y v/\Reads s.heap v d as:=fun v hv=>mem v (pm.mem_iff.mp hv)
   have rel:∀ l:List Value,(∀ v∈l,v∈out)->Vals (l.map refV) l:=by
    intro l
    induction l with
    | nil=>exact fun _=>.nil
    | cons v l ih =>
     intro hm
     obtain ⟨d,y,as,a,b,c,z⟩:=back v (hm v xac)
     exact .cons (by rw [sV K (hS d a) c z]; exact c) (ih fun u hu=>hm u (xab _ hu))
   have z2:=rel out fun _ h=>h
   have ol:=pm.length_eq
   have e2:(out.map fun v=>(g8 s.heap v,refV v)).map (·.2)=out.map refV:=by rw [xaG]; rfl
   have q':=q (out.map fun v=>(g8 s.heap v,refV v)) (s.heap.objs.size+1) (by rw [<- pX K I hr rv hS]; exact pm.map _) ?_ (I.hok.fresh (Nat.le_succ _))
   ·rw [e2] at q'
    exact ⟨.ref (s.heap.objs.size+1),_,I.laid (a:=s.heap.objs.size+1) (t':=s.toks) kp (Nat.le_succ _) (show ObjOk X.prog X.w _ h' _ (.lst (out.map refV)) from ⟨by rw [xaf]; lia,out,m,z2,eo⟩),rfl,q'⟩
   rw [xaK]
   refine pw.imp_of_mem fun {x y} mx my hle=>?_
   obtain ⟨d,_,as,md,_,_,rd⟩:=back x mx
   obtain ⟨e,_,bs,me,_,_,re⟩:=back y my
   rw [dM rd (lay d md),dM re (lay e me)] at *
   have:=xJ K.tot hS me (hS d md)
   rw [<- this]
   exact decide_eq_false (by lia)
 ·exact h.elim
end
section
variable {X:Cx}
def rLtD (K:PySem.W.Frag) (n:Nat):R2:=fun x y H Q=>∃ d e,Rep K H d x/\Rep K H e y/\d.canLay0=true/\e.canLay0=true/\d.depth<=20/\CmP n d e/\Q (.bl (ltP n d e)) H
theorem Bh {n:Nat} (hu:X.A.units+n+40<cLine):OpR X (compareOp .Lt) (rLtD X.K n):=by
 intro pins s σ H x y v u Q I rx ry h
 obtain ⟨d,e,h1,h2,h3,h4,h5,h6,q⟩:=h
 obtain ⟨as,r1⟩:=h1.reads I rx
 obtain ⟨bs,r2⟩:=h2.reads I ry
 exact oO n d e X.A s _ _ _ _ r1 r2 h3 h4 h6 h5 (by lia) X.prog X.w _ _ ⟨.bl _,H,I,rfl,q⟩
end
end L2
namespace L2.Q
open PySem PySem.Spec PyProof.Rows PySem.SeqAt
section
variable {X:Cx} {K:PySem.W.Frag}
def fLtD (n:Nat):W2:=fun _ x _ y Q=>okD 12 x=true/\okD 12 y=true/\CmP n x.py y.py/\Q .sh (.bl (ltP n x.py y.py))
theorem Aj {n:Nat}:Br2 K (rLtD K n) (fLtD n):=by
 intro Hs H m x v As m2 y u Bs Qd Qv w rx ry h f
 obtain ⟨o1,o2,c,q⟩:=h
 have l1:=dW 12 x o1
 have l2:=dW 12 y o2
 exact ⟨x.py,y.py,(rx.rep w).l2 o1,(ry.rep w).l2 o2,l1.1,l2.1,by lia,c,f.sh w (.bl _) q⟩
theorem kLtD {n:Nat} (hu:X.A.units+n+40<cLine) (hK:X.K=K:=by rfl):OpR X (compareOp .Lt) (rLtD K n):=by subst hK; exact Bh hu
end
section
variable {X:Cx} {K:PySem.W.Frag} {Hs H:Hp}
theorem d_ (xs:List D):pys xs=xs.map D.py:=by
 induction xs with
 | nil=>rfl
 | cons x xs ih=>rw [pys,ih]; rfl
theorem vB {xs:List D}:∀ {vs:List V},Reps K H xs vs->∀ p∈xs.zip vs,Rep K H p.1 p.2:=by
 induction xs with
 | nil=>intro vs r p hp; simp at hp
 | cons x xs ih =>
  intro vs r p hp
  obtain ⟨u,us,rfl,r1,rs⟩:=r.c
  rw [xa6] at hp
  rcases xag.mp hp with rfl | hp
  ·exact r1
  ·exact ih rs p hp
theorem qI (l:List (D × V)) (h:∀ p∈l,Rep K H p.1 p.2):Reps K H (l.map (·.1)) (l.map (·.2)):=by
 induction l with
 | nil=>exact .nil
 | cons p l ih=>exact .cons (h p xac) (ih fun q hq=>h q (xab _ hq))
def xY (n:Nat) (S:PyData->Prop):W1:=fun m x Q=>match x with
 | .list xs=>m=.sh/\xs.length<=63/\(∀ d∈xs,okD 12 d=true/\S d.py)/\∀ ms:List D,ms.Perm xs->(ms.Pairwise fun a b=>ltP (n+1) b.py a.py=false)->Q (.ow false) (.list ms)
 | _=>False
theorem wj {n:Nat} {S:PyData->Prop}:BrC K (jB K n S) (xY n S):=by
 intro Hs H m x v As Qd Qv w rx h f
 have r1:=rx.rep w
 cases r1 with
 | @list _ _ xs' z s q =>
  obtain ⟨rfl,h63,hS,h⟩:=h
  obtain ⟨_,rx⟩:=rx
  cases rx with
  | @list _ vs' _ z' s' q' =>
   have hl:=q'.length
   have ez:(pys xs').zip vs'=(xs'.zip vs').map fun p=>(p.1.py,p.2):=by
    rw [d_,List.zip_map_left]
    rfl
   refine ⟨_,pys xs',by lia,Same.seq w.sub s',Rep.l22.2 (q'.same w.sub) 12 fun d hd=>(hS d hd).1,fun d hd=>?_,fun ps l hp hw hn=>?_⟩
   ·rw [d_] at hd
    obtain ⟨e,he,rfl⟩:=xak.mp hd
    exact (hS e he).2
   ·obtain ⟨m',rfl,pm⟩:=TS.gw hp ez
    have p1:(m'.map (·.1)).Perm xs':=by
     have:=pm.map (·.1)
     rwa [xb5 (xbG hl)] at this
    have rr:=qI (K:=K) (H:=Hs) m' fun p hp=>vB q' p (pm.mem_iff.mp hp)
    rw [show (m'.map fun p=>(p.1.py,p.2)).map (·.2)=m'.map (·.2) by rw [xaG]; rfl]
    refine f.lstS w (by rw [p1.length_eq]; lia) rr (h _ p1 ?_) l hn
    rw [xaK] at hw ⊢
    exact hw
 | _=>exact h.elim
theorem BZ {n:Nat} {S:PyData->Prop} (KS:KeyS n S) (hu:X.A.units+n+40<cLine) (hK:X.K=K:=by rfl):CallR X (.builtin "sorted") (jB K n S):=by subst hK; exact qL KS hu
end
end L2.Q
namespace L2
open PySem PySem.Spec PyProof.Rows PySem.SeqAt
section
variable {X:Cx}
def yx (K:PySem.W.Frag):V->List V->Hp->VK->Prop:=fun x xs H Q=>∃ l ys ds y d,∃ j:Nat,x=.ref l/\xs=[y]/\SqL K H l ys/\Reps K H ds ys/\Rep K H d y/\(∀ e∈ds,e.canLay0=true/\e.depth<=20)/\d.canLay0=true /\
 (∃ e,ds[j]? = some e/\PyData.eqv e d=true)/\(∀ (m:Nat) e,m<j->ds[m]? = some e->PyData.eqv e d=false)/\Q (.int j) H
theorem v_ (hu:X.A.units+64<cLine):MtR X "list.index" (yx X.K):=by
 intro pins s σ H x vs v us Q I rx rv h
 obtain ⟨l,ys,ds,y,d,j,rfl,rfl,hl,hr,hd,hS,ld,⟨e,ej,eq⟩,hno,q⟩:=h
 cases rx
 obtain ⟨u,rfl,ru⟩:=Vals.one rv
 obtain ⟨its,rv',pl,hz⟩:=I.list hl
 obtain ⟨as,rd⟩:=hd.reads I ru
 obtain ⟨bs,ra⟩:=Reps.reads I hr rv'
 have len:its.length=ds.length:=ReadsAll.length _ _ _ ra
 have at':∀ (m:Nat) (v:Value),its[m]? = some v->∃ e cs,ds[m]? = some e/\Reads s.heap v e cs/\g8 s.heap v=e:=fun m v hv=>by
  obtain ⟨e,cs,h1,h2⟩:=bQ ra m v hv
  exact ⟨e,cs,h1,h2,dM h2 (hS e (xaB h1)).1⟩
 have jl:j<ds.length:=(xaj.mp ej).1
 have jl':j<its.toArray.size:=by rw [xaw]; lia
 have zs:sizeLine<2 ^ 62:=by rw [sizeLine_eq]; decide
 have hlen:=rv'.length
 obtain ⟨⟨cls,dd,data,sl⟩,ho,hc,n,hdt⟩:=id pl.isList
 simp only at hc hdt
 subst hc hdt
 refine call_meets F.slot_list_index ⟨_,ho,rfl⟩ F.entry_list_index (F.args_list_index_2 _ _) (list_indexAt l its.toArray n dd sl u (fun v=>PyData.eqv (g8 s.heap v) d) j jl' (by lia) ?_ fun m hm h'=>?_) ⟨ho,fun v hv=>?_,⟨.int j,H,I.tok _,⟨_,rfl⟩,q⟩⟩
 ·obtain ⟨e',cs,h1,_,h3⟩:=at' j its.toArray[j] (by simp at jl' ⊢)
  rw [h3]
  rw [ej] at h1
  cases h1
  exact eq
 ·obtain ⟨e',cs,h1,_,h3⟩:=at' m its.toArray[m] (by simp at hm ⊢)
  rw [h3]
  exact hno m e' h' h1
 ·obtain ⟨m,hm⟩:=xa3.mp (show v∈its by simpa using hv)
  obtain ⟨e',cs,h1,h2,h3⟩:=at' m v hm
  rw [h3]
  have:=hS e' (xaB h1)
  exact eqAt_reads e' d X.A.in1 s _ _ _ _ h2 rd this.1 ld (by show X.A.units+1+_<cLine; lia)
end
section
variable {X:Cx}
def yj (K:PySem.W.Frag):R2:=fun x y H Q=>∃ l xs n,x=.ref l/\y=.int n/\SqL K H l xs/\0<=n/\n<=1000/\xs.length<=1000/\∀ p,H p=none->Q (.ref p) (upd H p (.lst (List.replicate n.toNat xs).flatten))
theorem vz {xs:List V} {vs:List Value} (h:Vals xs vs) (k:Nat):Vals (List.replicate k xs).flatten (List.replicate k vs).flatten:=by
 induction k with
 | zero=>exact .nil
 | succ k ih=>rw [xaX,xaX,xba,xba]; exact h.append ih
theorem pq {α:Type} (xs:List α) (k:Nat):(List.replicate k xs).flatten.length=xs.length * k:=by
 induction k with
 | zero=>rfl
 | succ k ih=>rw [xaX,xba,xaL,ih,Nat.mul_succ]; lia
theorem zG:OpR X (binaryOp .Mult) (yj X.K):=by
 intro pins s σ H x y v u Q I rx ry h
 obtain ⟨l,xs,n,rfl,rfl,hH,h0,h1,h2,q⟩:=h
 cases rx
 obtain ⟨t,rfl⟩:=ry
 obtain ⟨its,r,pl,z⟩:=I.list hH
 have hl:=r.length
 obtain ⟨⟨cls,dd,data,sl⟩,ho,hc,k,hd⟩:=id pl.isList
 simp only at hc hd
 subst hc hd
 have hm:its.toArray.size * n.toNat<=1000 * 1000:=Nat.mul_le_mul (by rw [xaw]; lia) (by lia)
 have hsz:=sizeLine_eq
 refine wpAny_binaryOp_repeat_ref (T := "list") (U := "int") (by decide) ⟨_,ho,rfl⟩ (fun s'=>typeIs_int s' n t) noFill_list_mul PySem.F.fills_int_mul PySem.F.slot_int_rmul repeat_list PySem.F.slot_int_index.lookup
  (call_meets PySem.F.slot_int_rmul (typeIs_int s n t) PySem.F.entry_int_rmul (PySem.F.args_int_rmul_2 _ _) (lm_int_rmul_list_any n t l its.toArray k dd sl)
   ⟨ho,rfl,⟨_,ho,rfl⟩,call_meets PySem.F.slot_list_mul ⟨_,ho,rfl⟩ PySem.F.entry_list_mul (PySem.F.args_list_mul_2 _ _)
    (lm_list_mul_any l its.toArray k dd sl n t (by simp [Builtin.List.listFitsIndex]; lia) (by lia) (by simp only [Builtin.List.listTooLong,decide_eq_true_eq]; lia))
    ⟨ho,?_⟩⟩)
 rw [listMul_foldl_if]
 exact ⟨.ref _,_,I.lnew (t':=s.toks) (vz r _) (by
  rw [pq]
  have:xs.length * n.toNat<=1000 * 1000:=Nat.mul_le_mul h2 (by lia)
  lia),rfl,q _ I.fresh⟩
def lF:List V->Hp->VK->Prop:=fun xs H Q=>match xs with
 | [.ref p]=>∃ kvs b0 sh,kvs.length<=63/\H p=some (.dT kvs)/\(∀ k∈kvs.map (·.1),shOf k=b0 :: sh) /\
   ∀ zs ms l,bu H zs ms->ms.Perm (kvs.map (·.1))->(ms.Pairwise fun a b=>ltK b a=false)->H l=none->Q (.ref l) (upd H l (.lst zs))
 | _=>False
theorem oE (hc:X.calm=true):CallR X (.builtin "sorted") lF:=by
 intro pins s σ H xs us Q I r h
 unfold lF at h
 split at h
 ·rename_i p
  obtain ⟨kvs,b0,sh,h63,e,hs,q⟩:=h
  obtain ⟨u,rfl,ru⟩:=Vals.one r
  cases ru
  obtain ⟨z,y,ps,rel,o,es,ep,h1,h2,h3,h4,h5⟩:=(show ObjOk X.prog X.w H s.heap p (.dT kvs) from I.hok p _ e)
  obtain ⟨ta,va⟩:=rK (prog:=X.prog) (w:=X.w) rel
  have hlen:es.size=kvs.length:=by
   have:=congrArg List.length h4
   rw [xa0,xaf] at this
   rw [this]; exact rel.length.symm
  have hpl:ps.length=kvs.length:=rel.length.symm
  refine Tim.rC (κ:=tuples' true) (R:=fun vs=>Vals (ps.map fun q=>V.ref q.2.1) vs) (r:=fun v=>rkK (kvs.map (·.1)) (jn H v)) (P:=fun v=>∃ b k,v=.ref b/\H b=some (.tup (k.map kV))/\shOf k=b0 :: sh/\k∈kvs.map (·.1)) (fun A' E' Q' hA hQ=>?_) (fun vs rv=>?_) (fun vs rv v hv=>?_)
   (fun vs rv h2 A' E' s' kp Q' q'=>?_) (fun s' kp=>pD I kp) fun vs h' a out n tk rv pm pw kp ha eo=>?_
  ·refine Tim.nZ (sE (es:=es) (ep:=ep) y) (hA.trans (I.ok.hd hc)) ⟨o,h1,h2,h3⟩ (by lia) fun h' tk acc kp hz hacc=>hQ _ h' tk ?_ kp hz
   have hv:acc.toList=(ps.map (entryOfKey (tupleKind (mixKind X.prog X.w)))).map (·.key):=by
    apply xbg
    intro i
    by_cases hi:i<es.size
    ·have hi2:i<acc.size:=by rw [hacc.1]; exact hi
     obtain ⟨en,e1,e2⟩:=hacc.2 i acc[i] (by simp [hi2])
     rw [<- h4,xaH,xaE,xaE,e1]
     simp [hi2,e2]
    ·rw [<- h4,xaH,xaE,xaE,xaZ (by rw [hacc.1]; lia),xaZ (by lia)]
     rfl
   rw [hv]; exact va
  ·have:=rv.length
   rw [xaf] at this
   lia
  ·obtain ⟨_,mem⟩:=ta.keys rv
   obtain ⟨b,k,e1,e2,e3⟩:=mem v hv
   exact ⟨b,k,e1,e2,hs k e3,e3⟩
  ·obtain ⟨fs,f1,f2,f3⟩:=kat_tups I kp ta rv hs
   cases b0 with
   | true =>
    refine PySem.W.kat_kind (T:=.type "int") f1 (by lia) (fun f hf=>?_) (by decide) q'
    obtain ⟨i,t,rfl⟩:=(f3 f hf).1 rfl
    exact .now
   | false =>
    refine PySem.W.kat_kind (T:=.type "str") f1 (by lia) (fun f hf=>?_) (by decide) q'
    obtain ⟨i,t,rfl⟩:=(f3 f hf).2 rfl
    exact .now
  ·obtain ⟨ek,mem⟩:=ta.keys rv
   obtain ⟨zs,z1,z2⟩:=bu.of (H:=H) (ks:=kvs.map (·.1)) out fun v hv=>mem v (pm.mem_iff.mp hv)
   have zl:=z2.length
   have ol:=pm.length_eq
   have vl:=rv.length
   rw [xaf] at vl
   have pms:(out.map (jn H)).Perm (kvs.map (·.1)):=by rw [<- ek]; exact pm.map _
   refine ⟨.ref a,_,I.laid (a:=a) (t':=tk) kp ha (show ObjOk X.prog X.w _ h' _ (.lst zs) from ⟨by lia,out,n,z2,eo⟩),rfl,q zs _ _ z1 pms ?_ (I.hok.fresh ha)⟩
   rw [xaK]
   refine pw.imp_of_mem fun {x y} mx my hle=>?_
   obtain ⟨b,k,rfl,hb,kk⟩:=mem x (pm.mem_iff.mp mx)
   obtain ⟨c,m,rfl,hc,km⟩:=mem y (pm.mem_iff.mp my)
   rw [bD hb,bD hc] at *
   have:=uN (L:=kvs.map (·.1)) ((hs m km).trans (hs k kk).symm) km
   rw [<- this]
   exact decide_eq_false (by lia)
 ·exact h.elim
end
theorem Tot.sub {lt:PyData->PyData->Bool} {S U:PyData->Prop} (T:Tot lt S) (h:∀ x,U x->S x):Tot lt U :=
 ⟨fun x a=>T.irr x (h x a),fun x y z a b c=>T.tr x y z (h x a) (h y b) (h z c),fun x y a b=>T.tot x y (h x a) (h y b),fun x y a b=>T.eqv x y (h x a) (h y b)⟩
def cH (p:Str × Int):PyData:=.tuple [.str p.1,.int p.2]
def rkS (x:PyData):Prop:=∃ (i:Int) (ps:List (Str × Int)),x=.tuple [.int i,.list (ps.map cH)]/\∀ p∈ps,PyData.strOk p.1=true
theorem yg (p q:Str × Int):CmP 1 (cH p) (cH q):=by
 unfold cH
 rw [CmP]
 intro j x y hx hy _
 match j with
 | 0=>cases hx; cases hy; rw [CmP]; trivial
 | 1=>cases hx; cases hy; rw [CmP]; trivial
 | j+2=>simp at hx
theorem zE (ps:List (Str × Int)) (h:∀ p∈ps,PyData.strOk p.1=true):PyData.canLayAll0 (ps.map cH)=true/\PyData.depthAll (ps.map cH)<=2:=by
 induction ps with
 | nil=>exact ⟨rfl,by simp [PyData.depthAll]⟩
 | cons p ps ih =>
  have ih:=ih fun q hq=>h q (xab _ hq)
  have hp:=h p xac
  rw [xap]
  constructor
  ·simp only [PyData.canLayAll0,xaA]
   refine ⟨?_,ih.1⟩
   simp [cH,PyData.canLay0,PyData.canLayAll0,hp]
  ·have h2:=ih.2
   simp only [PyData.depthAll]
   have:(cH p).depth<=2:=by simp [cH,PyData.depth,PyData.depthAll]
   lia
theorem keyS:KeyS 2 rkS where
 tot:=((Tot.pair (Tot.int 2) (Tot.list (Tot.pair (Tot.str 0) (Tot.int 0)))).sub) fun x ⟨i,ps,e,_⟩=>⟨_,_,e,⟨i,rfl⟩,_,rfl,fun y hy=>by
  obtain ⟨p,_,rfl⟩:=xak.mp hy
  exact ⟨_,_,rfl,⟨_,rfl⟩,_,rfl⟩⟩
 tup:=by
  rintro x ⟨i,ps,rfl,h⟩
  have:=zE ps h
  refine ⟨i,_,rfl,?_,?_⟩
  ·simp [PyData.canLay0,PyData.canLayAll0,this.1]
  ·simp only [PyData.depth,PyData.depthAll]; lia
 len:=by
  rintro xs ys ⟨i,ps,e,_⟩ ⟨j,qs,e2,_⟩
  cases e; cases e2; rfl
 cm:=by
  rintro x y ⟨i,ps,rfl,_⟩ ⟨j,qs,rfl,_⟩
  rw [CmP]
  intro k x y hx hy _
  match k with
  | 0=>cases hx; cases hy; rw [CmP]; trivial
  | 1 =>
   cases hx; cases hy
   rw [CmP]
   intro k x y hx hy _
   obtain ⟨p,_,rfl⟩:=xak.mp (xaB hx)
   obtain ⟨q,_,rfl⟩:=xak.mp (xaB hy)
   exact yg p q
  | k+2=>simp at hx
end L2
namespace L2.Q
open PySem PySem.Spec PyProof.Rows PySem.SeqAt
section
variable {X:Cx} {K:PySem.W.Frag} {a b:Expr} {ta tb:WE} {pos:Pos}
def tV:W2:=fun _ x _ y Q=>match x with
 | .list xs=>match y with
  | .int n=>(0<=n/\n<=1000/\xs.length<=1000)/\flats xs=true/\Q (.ow true) (.list (List.replicate n.toNat xs).flatten)
  | _=>False
 | _=>False
theorem vq {H:Hp} {xs:List D} {vs:List V} (h:Reps K H xs vs) (k:Nat):Reps K H (List.replicate k xs).flatten (List.replicate k vs).flatten:=by
 induction k with
 | zero=>exact .nil
 | succ k ih=>rw [xaX,xaX,xba,xba]; exact h.append ih
theorem uz {xs:List D} (h:flats xs=true) (k:Nat):flats (List.replicate k xs).flatten=true:=by
 induction k with
 | zero=>rfl
 | succ k ih=>rw [xaX,xba,cY,h,ih]; rfl
theorem zg:Br2 K (yj K) tV:=by
 intro Hs H m x v As n y u Bs Qd Qv w rx ry h f
 have r1:=rx.rep w
 have r2:=ry.rep w
 cases r1 with
 | list z s q=>cases r2 with
  | int n =>
   obtain ⟨⟨h0,h1,h2⟩,fl,h⟩:=h
   have hl:=q.length
   refine ⟨_,_,_,rfl,rfl,s,h0,h1,by lia,?_⟩
   refine f.lst w ?_ (vq q _) (uz fl _) h
   rw [pq,sizeLine_eq]
   have:List.length _ * n.toNat<=1000 * 1000:=Nat.mul_le_mul h2 (by lia)
   exact xaq this (by decide)
  | _=>exact h.elim
 | _=>exact h.elim
theorem Dq (hK:X.K=K:=by rfl):OpR X (binaryOp .Mult) (yj K):=by subst hK; exact zG
theorem xM (ha:QE X K a ta) (hb:QE X K b tb) (hK:X.K=K:=by rfl):QE X K (.BinOp a .Mult b pos) (wOp tV ta tb):=q_op (Dq hK) zg ha hb
def nY:W1:=fun _ x Q=>match x with
 | .dT kvs=>∃ b0 sh,kvs.length<=63/\(∀ p∈kvs,shOf p.1=b0 :: sh)/\∀ ms:List (List Key),ms.Perm (kvs.map (·.1))->(ms.Pairwise fun a b=>ltK b a=false)->Q (.ow true) (.list (ms.map keyT))
 | _=>False
theorem rH:BrC K lF nY:=by
 intro Hs H m x v As Qd Qv w rx h f
 have r1:=rx.rep w
 cases r1 with
 | @dT a vs kvs kk e q =>
  obtain ⟨b0,sh,h63,hs,h⟩:=h
  have hlen:=q.length
  rw [xaf] at hlen
  have ez:((kvs.map (·.1)).zip vs).map (·.1)=kvs.map (·.1):=xb5 (by rw [xaf]; exact xbG hlen)
  refine ⟨_,b0,sh,by rw [xbU,xaf]; lia,e,fun k hk=>?_,fun zs ms l tz pm pw hl=>?_⟩
  ·rw [ez] at hk
   obtain ⟨p,hp,rfl⟩:=xak.mp hk
   exact hs p hp
  ·rw [ez] at pm
   refine f.lst w (by rw [xaf,pm.length_eq,xaf]; exact kk.1) (jP (K:=K) tz fun k hk=>?_) (eV ms) (h ms pm pw) l hl
   obtain ⟨p,hp,rfl⟩:=xak.mp (pm.mem_iff.mp hk)
   exact kk.2 p hp
 | _=>exact h.elim
theorem yN (hc:X.calm=true:=by rfl):CallR X (.builtin "sorted") lF:=oE hc
def qe (to te:WE):WE:=fun ρ Q=>to ρ fun _ x=>match x with
 | .list xs=>te ρ fun _ y=>okD 12 (.list xs)=true/\okD 12 y=true/\∃ j:Nat,(∃ z,xs[j]? = some z/\eqD z y=true)/\(∀ (i:Nat) z,i<j->xs[i]? = some z->eqD z y=false)/\Q .sh (.int j)
 | _=>False
theorem z7 {o e:Expr} {to te:WE} {apos cpos:Pos} (hu:X.A.units+64<cLine) (ho:QE X K o to) (he:QE X K e te) (hK:X.K=K:=by rfl)
  (hbase:attributeBase o "index" X.env (eval o X.env)=eval o X.env:=by rfl)
  (hfew:((backTo cpos (starEach [e] X.env)).all (fun x=>!x.1) && (backToKw cpos (keywordEach [] X.env)).all (fun x=>x.1.isSome)
   && decide ([e].length+([]:List Keyword).length+(if ([]:List Keyword).isEmpty then 0 else 1)<30))=true:=by rfl)
  (hline:(apos.endLine == cpos.line)=true:=by rfl) (hss:starEach (e :: []) X.env=(false,eval e X.env) :: starEach [] X.env:=by rfl) (hplain:(backTo cpos (starEach [] X.env)).any (·.1)=false:=by rfl) :
  QE X K (.Call (.Attribute o "index" apos) [e] [] cpos) (qe to te):=by
 subst hK
 refine PE.imp (pe_bm PySem.F.plainAttrs_list PySem.F.slot_list_index PySem.F.type_list_index (v_ hu) ho (pa_cons he pa_nil hss) hbase hfew hline hss hplain) fun σ H Qv hx=>ex4 hx fun Hs ρ tot Q sr h f=>?_
 refine ⟨Hs,ρ,tot,_,sr,h,fun v H1 Hs1 m x As g1 r1 f1 q1=>?_⟩
 have r:=r1.rep g1.wf
 cases r with
 | list hz s rs =>
  refine ⟨.inl ⟨rfl,_,s⟩,Hs1,ρ,tot,_,sr.grow g1,q1,fun y H2 Hs2 m2 x2 As2 g2 r2 f2 q2=>?_⟩
  obtain ⟨o1,o2,j,⟨z,ez,eq⟩,hno,q⟩:=q2
  have rr:=(r1.grow g2).rep g2.wf
  cases rr with
  | list hz' s' rs' =>
   have l2:=dW 12 _ o2
   have o1':∀ d∈_,okD 11 d=true:=xa8.mp (show List.all _ (okD 11)=true from o1)
   refine ⟨_,_,_,_,_,j,rfl,rfl,s',Rep.l22.2 rs' 11 o1',(r2.rep g2.wf).l2 o2,fun e he=>?_,l2.1,⟨z.py,?_,eq⟩,fun m e hm he=>?_,Fin.sh (Fin.after f (g1.trans g2)) g2.wf (.int _) q⟩
   ·rw [d_] at he
    obtain ⟨d,hd,rfl⟩:=xak.mp he
    have:=dW 11 d (o1' d hd)
    exact ⟨this.1,by lia⟩
   ·rw [d_,xaH,ez]; rfl
   ·rw [d_,xaH] at he
    obtain ⟨d,hd,rfl⟩:=xbK.mp he
    exact hno m d hm hd
 | _=>exact q1.elim
abbrev uG:W1:=xY 2 rkS
theorem BV (hu:X.A.units+64<cLine) (hK:X.K=K:=by rfl):CallR X (.builtin "sorted") (jB K 2 rkS):=BZ keyS (by lia) hK
theorem vA:BrC K (jB K 2 rkS) uG:=wj
abbrev fLtR:W2:=fLtD 3
theorem kLtR (hu:X.A.units+64<cLine) (hK:X.K=K:=by rfl):OpR X (compareOp .Lt) (rLtD K 3):=kLtD (by lia) hK
theorem Ci:Br2 K (rLtD K 3) fLtR:=Aj
end
end L2.Q
namespace L2.Q.R
open PySem PySem.Spec PyProof.Rows L2.Q PySem.SeqAt
section
variable {Q:Md->L2.Q.D->Prop} {m m':Md} {x y:L2.Q.D} {xs:List L2.Q.D} {to' te:WE} {ρ:Env} {a:Int}
theorem FN:tV m (.list xs) m' (.int a) Q=((0<=a/\a<=1000/\xs.length<=1000)/\flats xs=true/\Q (.ow true) (.list (List.replicate a.toNat xs).flatten)):=rfl
theorem Dv:qe to' te ρ Q=to' ρ fun _ x=>onK x (f:=fun x=>list' x fun xs=>te ρ fun _ y=>okD 12 (.list xs)=true/\okD 12 y=true/\∃ j:Nat,(∃ z,xs[j]? = some z/\eqD z y=true)/\(∀ (i:Nat) z,i<j->xs[i]? = some z->eqD z y=false)/\Q .sh (.int j)) ⟨⟩:=by unfold qe onK list'; rfl
theorem Cr {kvs:List (List Key × L2.Q.D)}:nY m (.dT kvs) Q = ∃ b0 sh,kvs.length<=63/\(∀ p∈kvs,shOf p.1=b0 :: sh)/\∀ ms:List (List Key),ms.Perm (kvs.map (·.1))->(ms.Pairwise fun a b=>ltK b a=false)->Q (.ow true) (.list (ms.map keyT)):=rfl
theorem Dh:uG m (.list xs) Q=(m=.sh/\xs.length<=63/\(∀ d∈xs,okD 12 d=true/\rkS d.py)/\∀ ms:List L2.Q.D,ms.Perm xs->(ms.Pairwise fun a b=>PySem.SeqAt.ltP 3 b.py a.py=false)->Q (.ow false) (.list ms)):=rfl
theorem Hg:fLtR m x m' y Q=(okD 12 x=true/\okD 12 y=true/\CmP 3 x.py y.py/\Q .sh (.bl (PySem.SeqAt.ltP 3 x.py y.py))):=rfl
end
end L2.Q.R
namespace L2
open PySem PySem.Spec PyProof.Rows
end L2
namespace L2.Q
open PySem PySem.Spec PyProof.Rows
section
variable {X:Cx} {K:PySem.W.Frag} {a b c e:Expr} {ta tb te:WE} {pos p2:Pos}
def wIxO (ta tb:WE):WE:=fun ρ Q=>ta ρ fun m x=>m=.ow true/\match x with
 | .list xs=>tb ρ fun _ y=>intD y fun k=>∃ d,L2.atI xs k=some d/\Q (outM d) d
 | _=>False
theorem De (ha:QE X K a ta) (hb:QE X K b tb) (hs:PlainIx b:=by exact fun _ _=>rfl) (hK:X.K=K:=by rfl):QE X K (.Subscript a b pos) (wIxO ta tb):=by
 refine PE.imp (pe_ix (kIx hK) ha hb hs) fun σ H Qv hx=>ex4 hx fun Hs ρ tot Q sr h f=>?_
 refine ⟨Hs,ρ,tot,_,sr,h,fun v H1 Hs1 m x As g1 r1 f1 q1=>?_⟩
 obtain ⟨rfl,q1⟩:=q1
 obtain ⟨r1,ne⟩:=r1
 cases r1 with
 | sh _ r=>exact absurd rfl ne
 | @list a vs xs As z e rs =>
  refine ⟨Hs1,ρ,tot,_,sr.grow g1,q1,fun u H2 Hs2 m2 y Bs g2 r2 f2 q2=>?_⟩
  have ry:=r2.rep g2.wf
  cases ry with
  | int k =>
   obtain ⟨d,e3,q⟩:=q2
   obtain ⟨j,ej,ed⟩:=BW e3
   have nd:As.Nodup:=(xaD.mp f1.1).2
   obtain ⟨w,B,ew,rw',sB,_⟩:=rs.at ed nd
   have r3:=rw'.grow g2.sh g2.all
   refine .inl ⟨vs,w,.inl (.inl (g2.all _ _ e)),qz (by rw [<- rs.length]; exact ej) ew,?_⟩
   cases hf:d.flat with
   | true =>
    rw [outM,hf] at q
    exact f w H2 Hs2 .sh d [] (g1.trans g2) ⟨rfl,(r3.rep g2.wf.sub fun _ _=>rfl).fH g2.wf.tups hf⟩ ⟨xaQ,fun _ h=>mem0 h⟩ q
   | false =>
    rw [outM,hf] at q
    refine f w H2 Hs2 (.ow true) d B (g1.trans g2) ⟨r3,r3.ne hf⟩ ⟨sB.nodup nd,fun c hc=>?_⟩ q
    have:=f1.2 c (xab _ (sB.subset hc))
    exact ⟨g2.hsn this.1 (rw'.own c hc).ne,this.2⟩
  | _=>exact q2.elim
 | _=>exact q1.elim
theorem SR.view {Hs H:Hp} (G:Hp) (s:Same Hs H) {ρ:Env} {σ:St} {tot:List Addr} (r:SR K Hs H ρ σ tot):SR K H G (ρ.map (Option.map shC)) σ []:=by
 induction r with
 | nil=>exact .nil
 | non _ ih=>exact .non ih
 | sh r _ ih=>exact .sh (r.same s) ih
 | xc _ ih=>exact .xc ih
 | ow _ r _ ih=>exact .sh (r.rep s fun _ _=>rfl) ih
 | lk _ r _ ih=>exact .sh (r.rep s fun _ _=>rfl) ih
def mvE (i j:Nat) (hs xs:List D) (ρ:Env):Env:=(ρ.set j none).set i (some (.ow true (.list (hs++[.list xs]))))
def mvV (i j:Nat) (hs xs:List D) (ρ:Env):Env:=((mvE i j hs xs ρ).map (Option.map shC)).set j (some (.sh (.list xs)))
def putO (o:Option Sl) (k:Sl->Prop):Prop:=match o with
 | some s=>k s
 | none=>False
def uH (i j:Nat) (te:WE):WS:=fun E ρ=>owl ρ[i]? fun hs=>owl ρ[j]? fun xs=>flats xs=true/\hs.length<sizeLine /\
 te (mvV i j hs xs ρ) fun m d=>putO (asg (retM m d) d) fun sl=>E.nx ((mvE i j hs xs ρ).set j (some sl))
theorem wy {L:Str->Hp->Prop} {i j:Nat} {x:Str} {p1 p2 p3 pos':Pos} (hN:X.N.Nodup) (hj0:X.N[j]? = some x) (hx:Loc X.env.scope x) (hi:PE X a (tVar i)) (hj:PE X b (tVar j)) (he:QE X K e te) (hne:i≠j:=by decide) (hK:X.K=K:=by rfl)
  (s1:swapsWith (.Call (.Attribute a "append" p1) [b] [] p2) none pos.line X.env=pure false:=by rfl) (b1:attributeBase a "append" X.env (eval a X.env)=eval a X.env:=by rfl)
  (f1:((backTo p2 (starEach [b] X.env)).all (fun x=>!x.1) && (backToKw p2 (keywordEach [] X.env)).all (fun x=>x.1.isSome) && decide ([b].length+([]:List Keyword).length+(if ([]:List Keyword).isEmpty then 0 else 1)<30))=true:=by rfl)
  (l1:(p1.endLine == p2.line)=true:=by rfl) (t1:starEach (b :: []) X.env=(false,eval b X.env) :: starEach [] X.env:=by rfl) (q1:(backTo p2 (starEach [] X.env)).any (·.1)=false:=by rfl)
  (hs:swapsWith e (some (.Name x p3)) pos'.line X.env=pure false:=by rfl) (hf:X.fn x=true\/X.env.scope.names.lookup x=some .local:=by first | exact .inl rfl | exact .inr rfl | assumption) :
  QSs X K L [.Expr (.Call (.Attribute a "append" p1) [b] [] p2) pos,.Assign [.Name x p3] e pos'] (uH i j te):=by
 subst hK
 refine PSs.imp (pss_cons (ps_expr (pe_bm PySem.F.plainAttrs_list PySem.F.slot_list_append PySem.F.type_list_append mt_append hi (pa_cons hj pa_nil t1) b1 f1 l1 t1 q1) s1)
  (pss_one (ps_set hN hj0 hx he hs hf))) fun D σ H hx=>fj hx fun Hs ρ tot E sr h k1 k2 k3 k4=>?_
 obtain ⟨hs,ei,h⟩:=xT h
 obtain ⟨xs,ej,fl,hz1,h⟩:=xT h
 obtain ⟨a,ws,c,vs,tot2,u1,u2,u3,u4,u5,u6,u7,sr2⟩:=yC hne sr ei ej fl hz1
 refine ⟨_,u1,.inl ⟨rfl,_,.inl (.inl u2)⟩,_,u4,a,ws,_,rfl,rfl,u2,u3,?_⟩
 have rc:Rep X.K (upd H a (.lst (ws++[.ref c]))) (.list xs) (.ref c):=.list u7 (.inl (.inl u5)) (u6.same sr2.wf.sub)
 have v0:=SR.view (upd H a (.lst (ws++[.ref c]))) sr2.wf.sub sr2.sr
 obtain ⟨t,st,v1⟩:=v0.uc rc j
 have e0:σ.set j (some (.ref c))=σ:=by
  apply xbg
  intro m
  by_cases hm:j=m
  ·subst hm; rw [xbI (by have:=(xaj.mp u4).1; exact this),u4]
  ·rw [xbf hm]
 rw [e0] at v1
 have et:t=[]:=List.eq_nil_of_subset_nil st.subset
 subst et
 refine ⟨upd H a (.lst (ws++[.ref c])),_,[],_,⟨v1,⟨Same.refl _,fun _ _ z=>z⟩,xaQ,fun _ h=>mem0 h⟩,h,fun v H1 Hs1 m d As g1 r1 f1 q1=>?_⟩
 obtain ⟨As',r',fr⟩:=lA sr2.wf g1.sh g1.wf r1 f1.1 fun a ha=>(f1.2 a ha).1
 have gb:=dq sr2.wf g1.sh g1.wf
 cases ea:asg (retM m d) d with
 | none=>rw [ea] at q1; exact q1.elim
 | some sl =>
  rw [ea] at q1
  obtain ⟨tot',s'⟩:=(sr2.grow gb).set j r' fr.1 (fun a ha=>⟨(fr.2 a ha).1,fun m=>(sr2.sr.own a m).ne (fr.2 a ha).2⟩) ea
  exact k1 _ H1 _ _ tot' gb.sh s' q1
end
end L2.Q
namespace L2.Q.R
open PySem PySem.Spec PyProof.Rows L2.Q
section
variable {Q:Md->L2.Q.D->Prop} {m:Md} {x y:L2.Q.D} {xs:List L2.Q.D} {ta tb te:WE} {ρ:L2.Q.Env} {E:jf} {i j:Nat}
theorem G8:wIxO ta tb ρ Q=ta ρ fun m x=>m=.ow true/\onK x (f:=fun x=>list' x fun xs=>tb ρ fun _ y=>onK y (f:=fun y=>intD y fun k=>∃ d,L2.atI xs k=some d/\onK d (f:=fun d=>Q (outM d) d) ⟨⟩) ⟨⟩) ⟨⟩:=by unfold wIxO onK list'; rfl
theorem Di:uH i j te E ρ=onK ρ[i]? (f:=fun o=>owl o fun hs=>onK ρ[j]? (f:=fun o=>owl o fun xs=>flats xs=true/\hs.length<sizeLine /\
 te (mvV i j hs xs ρ) fun m d=>onK (asg (retM m d) d) (f:=fun o=>put o fun sl=>E.nx ((mvE i j hs xs ρ).set j (some sl))) ⟨⟩) ⟨⟩) ⟨⟩:=rfl
end
end L2.Q.R
namespace L2
open PySem PySem.Spec PyProof.Rows
def yc (sc scope:Scope) (N cn:List Str) (ix:List Nat):Bool :=
 scope.kind == .function && scope.names.all (fun y=>y.2 != .free || vis2 (sc.names.lookup y.1)) && scope.names.all (fun y=>y.2 != .local || scope.names.lookup y.1 == some .local) &&
 ix.length == cn.length && (List.range ix.length).all (fun k=>match ix[k]?,cn[k]? with
  | some j,some y=>N[j]? == some y && vis2 (sc.names.lookup y) && scope.names.contains (y,NameKind.free) && vis2 ((rlN sc scope.names).lookup y) && !scope.names.contains (y,NameKind.cell)
  | _,_=>false) &&
 (rlN sc scope.names).all (fun y=>!(y.2 == .cell || y.2 == .free) || scope.names.contains (y.1,NameKind.free) || scope.names.contains (y.1,NameKind.cell))
theorem di.of {X:Cx} {sc scope:Scope} {N tn cn:List Str} {ix:List Nat} (hsc:X.env.scope=sc) (hN:X.N=N) (h:yc sc scope N cn ix=true):di X scope tn cn ix:=by
 unfold yc at h
 simp only [xaA] at h
 obtain ⟨⟨⟨⟨⟨h1,h3⟩,h4⟩,h5⟩,h6⟩,h7⟩:=h
 rw [xa8] at h3 h4 h6 h7
 have erl:(relabel scope X.env).names=rlN sc scope.names:=by
  unfold relabel rlN
  rw [<- hsc]
  rfl
 refine ⟨by simpa using h1,fun y hy hk=>?_,fun y hy hk=>?_,by simpa using h5,fun k j hk=>?_,fun x hx=>?_⟩
 ·have:=h3 y hy
  rw [hk] at this
  rw [hsc]
  exact fO (by simpa using this)
 ·have:=h4 y hy
  rw [hk] at this
  simpa using this
 ·have hk':k<ix.length:=(xaj.mp hk).1
  have:=h6 k (xaS.mpr hk')
  rw [hk] at this
  cases e:cn[k]? with
  | none=>rw [e] at this; cases this
  | some y =>
   rw [e] at this
   simp only [xaA] at this
   obtain ⟨⟨⟨⟨a1,a2⟩,a3⟩,a4⟩,a5⟩:=this
   refine ⟨y,rfl,by rw [hN]; simpa using a1,by rw [hsc]; exact fO a2,by simpa using a3,by rw [erl]; exact fO a4,by simpa using a5⟩
 ·rw [erl] at hx
  have mem:∃ k,(x,k)∈rlN sc scope.names/\(k=.cell\/k=.free):=by
   rcases hx with hx | hx
   ·exact ⟨_,PySem.mem_of_lookup hx,.inl rfl⟩
   ·exact ⟨_,PySem.mem_of_lookup hx,.inr rfl⟩
  obtain ⟨k,hm,hk⟩:=mem
  have:=h7 _ hm
  rcases hk with rfl | rfl <;> simpa using this
def rlS (sc scope:Scope):Scope:={ scope with names:=rlN sc scope.names }
theorem aO.inC {X:Cx} {sc scope scope0:Scope} {C:Addr} {N fp:_} {s:Shared} {H:Hp} {tn cn:List Str} {ix:List Nat} (hsc:X.env.scope=sc) (h:zu (rlS sc scope0) scope N cn ix=true):aO (aF X scope0 C N fp s H) scope tn cn ix :=
 aO.of (sc:=rlS sc scope0) (by
  show relabel scope0 X.env=rlS sc scope0
  unfold relabel rlS rlN
  rw [<- hsc]
  rfl) rfl h
end L2
namespace L2.Q
open PySem PySem.Spec PyProof.Rows
section
variable {X:Cx} {K:PySem.W.Frag}
theorem yQ {tg iter elt:Expr} {ifs:List Expr} {scope:Scope} {pos:Pos} {wi:WI} {g:WG} {tc:WT} {te:WE} {tn cn:List Str} {ix:List Nat} (hc:X.calm=true) (hi:QIb X K tg iter wi) (O:di X scope tn cn ix)
  (hg:∀ C fp s₃ H₃,QG (aF X scope C (tn++cn) fp s₃ H₃) K tg g) (hcs:∀ C fp s₃ H₃,QTs (aF X scope C (tn++cn) fp s₃ H₃) K ifs tc) (he:∀ C fp s₃ H₃,QE (aF X scope C (tn++cn) fp s₃ H₃) K elt te)
  (hs:∀ x,foldedSetIterable iter X.env x=pure x:=by intro _; rfl):QE X K (.ListComp elt [⟨tg,iter,ifs,0⟩] scope pos) (dC wi g tc te tn.length ix) :=
 PE.imp (qi hc hi O hg hcs he hs) fun σ H Qv h=>iJ h
def yK (m:Md) (d:D):Prop:=d.flat=true\/m=.sh
def dg (g:WG) (tc:WT) (te:WE):List D->Env->(List D->Prop)->Prop
 | [],_,k=>k []
 | x :: xs,ρ,k=>g x ρ fun ρ1=>tc ρ1 fun b=>if b=true then te ρ1 fun m d=>yK m d/\dg g tc te xs ρ1 (fun out=>k (d :: out)) else dg g tc te xs ρ1 k
def pG (wi:WI) (g:WG) (tc:WT) (te:WE) (tn:Nat) (ix:List Nat):WE:=fun ρ Q=>wi ρ fun ds=>dg g tc te ds (qM tn ix ρ) fun out=>Q .bo (.list out)
structure gH (K:PySem.W.Frag) (H1:Hp) (b:Addr) (acc:List D) (ys:List V) (As:List Addr) (Hs:Hp) (ρ:Env) (τ:St) (H:Hp):Prop where
 sm:Same H1 Hs
 sr:SRel K Hs ρ τ H []
 eD:H b=some (.lst ys)
 nD:Hs b=none
 ra:ak K Hs H false acc ys As
 nd:(b :: As).Nodup
 own:∀ a∈As,Hs a=none
theorem gH.grow {H1:Hp} {b:Addr} {acc:List D} {ys:List V} {As:List Addr} {Hs H Hs' H':Hp} {ρ:Env} {τ:St} (c:gH K H1 b acc ys As Hs ρ τ H) (g:Grow Hs H Hs' H'):gH K H1 b acc ys As Hs' ρ τ H' :=
 ⟨c.sm.trans g.sh,c.sr.grow g,g.all _ _ c.eD,g.hsn c.nD (by rw [c.eD]; exact fun z=>nomatch z),c.ra.grow g.sh g.all,c.nd,fun a ha=>g.hsn (c.own a ha) (c.ra.own a ha).ne⟩
theorem gH.push {H1:Hp} {b:Addr} {acc:List D} {ys:List V} {As Bs:List Addr} {Hs H:Hp} {ρ:Env} {τ:St} {m:Md} {d:D} {v:V} (c:gH K H1 b acc ys As Hs ρ τ H) (r:RM K Hs H m d v Bs) (ok:yK m d) (nb:Bs.Nodup) (fb:∀ a∈Bs,Hs a=none/\a∉b :: As):∃ As',gH K H1 b (acc++[d]) (ys++[v]) As' Hs ρ τ (upd H b (.lst (ys++[v]))):=by
 obtain ⟨B,sb,rb⟩:∃ B,B.Sublist Bs/\RepO K Hs H false d v B:=by
  rcases ok with hf | rfl
  ·exact ⟨[],xbd _,.sh (fun _=>hf) (r.flat c.sr.wf hf)⟩
  ·exact ⟨[],xbd _,.sh (fun z=>nomatch z) r.2⟩
 obtain ⟨na,nA⟩:=xaD.mp c.nd
 have fb':=fun a ha=>fb a (sb.subset ha)
 refine ⟨As++(B++[]),c.sm,⟨c.sr.sr.heap,p_ c.sr.wf c.nD (fun _ z=>nomatch z),xaQ,fun a h=>nomatch h⟩,upd_same,c.nD,(c.ra.stay (H':=upd H b (.lst (ys++[v]))) (Same.refl _) fun a ha=>upd_ne fun z=>na (by subst z; exact ha)).append (.cons (rb.stay (Same.refl _) fun a ha=>upd_ne fun z=>(fb' a ha).2 (by subst z; exact xac)) .nil),?_,?_⟩
 ·rw [xaO]
  refine xaD.mpr ⟨fun m=>(xal.mp m).elim na fun m=>(fb' b m).2 xac,xar.mpr ⟨nA,sb.nodup nb,fun x hx y hy e=>(fb' y hy).2 (e ▸ xab _ hx)⟩⟩
 ·rw [xaO]
  exact fun a ha=>(xal.mp ha).elim (c.own a) fun m=>(fb' a m).1
theorem qF {wi:WI} {g:WG} {tc:WT} {te:WE} {tn:Nat} {ix:List Nat} {σ:St} {H:Hp} {Qv:VK} (h:tpE K (pG wi g tc te tn ix) σ H Qv):lU (tpIb K wi) (tpG K g) (tpT K tc) (tpE K te) tn ix σ H Qv:=by
 obtain ⟨Hs,ρ,tot,Q,sr,h,f⟩:=h
 rw [oW]
 refine ⟨Hs,ρ,tot,_,sr,h,fun J H1 Hs1 ds g1 S hz q1 b hb=>?_⟩
 have st:gH K H1 b [] [] [] H1 (qM tn ix ρ) (jk tn ix σ) (upd H1 b (.lst [])):=by
  refine ⟨Same.refl _,⟨iD (gf (G:=H1) (sr.grow g1) _ ix) tn,⟨(Same.refl H1).upd hb,fun a xs e=>?_⟩,xaQ,fun a h=>nomatch h⟩,upd_same,hb,.nil,by simp,fun a h=>nomatch h⟩
  by_cases ha:a=b
  ·subst ha; rw [upd_same] at e; cases e
  ·rw [upd_ne ha] at e; exact e
 refine ⟨fun i m τ H2=>m=ds.length - i/\i<=ds.length/\∃ Hs2 ρ2 acc ys As,gH K H1 b acc ys As Hs2 ρ2 τ H2/\acc.length<=i/\dg g tc te (ds.drop i) ρ2 (fun out=>Q .bo (.list (acc++out))),
  ⟨ds.length,by simp,xaz _,H1,_,[],[],[],st,xah _,by simpa using q1⟩,?_⟩
 rintro i m τ H2 ⟨rfl,hi,Hs2,ρ2,acc,ys,As,c,la,q2⟩
 by_cases hlt:i<ds.length
 ·refine .inr ⟨S.go i Hs2 H2 c.sm c.sr.wf hlt,
   fun τ3 v H4=>∃ Hs4 ρ4 d,gH K H1 b acc ys As Hs4 ρ4 τ3 H4/\(∃ As',gH K H1 b (acc++[d]) (ys++[v]) As' Hs4 ρ4 τ3 (upd H4 b (.lst (ys++[v]))))/\dg g tc te (ds.drop (i+1)) ρ4 (fun out=>Q .bo (.list (acc++d :: out))),
   fun τ3 H3=>∃ Hs3 ρ3,gH K H1 b acc ys As Hs3 ρ3 τ3 H3/\dg g tc te (ds.drop (i+1)) ρ3 (fun out=>Q .bo (.list (acc++out))),?_,?_,?_⟩
  ·rintro τ3 v H4 ⟨Hs4,ρ4,d,c4,⟨As',c5⟩,q4⟩
   have lya:=c4.ra.length
   exact ⟨ys,ds.length - (i+1),c4.eD,by lia,by lia,rfl,hlt,Hs4,ρ4,acc++[d],ys++[v],As',c5,by rw [xaL]; simpa using la,by simpa using q4⟩
  ·rintro τ3 H3 ⟨Hs3,ρ3,c3,q3⟩
   exact ⟨ds.length - (i+1),by lia,rfl,hlt,Hs3,ρ3,acc,ys,As,c3,by lia,q3⟩
  ·intro x H3 y
   obtain ⟨Hs3,g3,rd⟩:=S.yld i Hs2 H2 x H3 ds[i] c.sm c.sr.wf (by simp [hlt]) y
   rw [xaN hlt] at q2
   have c3:=c.grow g3
   refine ⟨Hs3,ρ2,[],ds[i],_,c3.sr,rd,q2,fun τ4 ρ4 tot4 sr4 m4 q4=>?_⟩
   have t4:tot4=[]:=xb8.mpr fun a ha=>nomatch m4 a ha
   subst t4
   have c4:gH K H1 b acc ys As Hs3 ρ4 τ4 H3:=⟨c3.sm,sr4,c3.eD,c3.nD,c3.ra,c3.nd,c3.own⟩
   refine ⟨Hs3,ρ4,[],_,sr4,q4,fun k H5 Hs5 g5 q5=>?_⟩
   have c5:=c4.grow g5
   cases k with
   | false=>exact ⟨Hs5,ρ4,c5,q5⟩
   | true =>
    refine ⟨Hs5,ρ4,[],_,c5.sr,q5,fun v H6 Hs6 m6 d6 As6 g6 r6 f6 q6=>?_⟩
    have c6:=c5.grow g6
    refine ⟨Hs6,ρ4,d6,c6,c6.push r6 q6.1 f6.1 fun a ha=>⟨(f6.2 a ha).1,fun m=>?_⟩,q6.2⟩
    rcases xag.mp m with rfl | m
    ·have:=(f6.2 _ ha).2
     rw [c5.eD] at this; cases this
    ·exact (c5.ra.own a m).ne (f6.2 a ha).2
 ·have e:i=ds.length:=by lia
  subst e
  refine .inl ⟨S.stop Hs2 H2 c.sm c.sr.wf,?_⟩
  rw [xb6] at q2
  have q2:Q .bo (.list (acc++[])):=q2
  rw [xaO] at q2
  have lya:=c.ra.length
  have rm:RM K Hs2 H2 (.ow false) (.list acc) (.ref b) (b :: As):=⟨.list (by lia) c.eD c.ra,by simp⟩
  obtain ⟨As',r',fr⟩:=lA g1.wf c.sm c.sr.wf rm c.nd fun a ha=>(xag.mp ha).elim (fun z=>z ▸ c.nD) (c.own a)
  exact Fin.after f g1 (.ref b) H2 _ .bo (.list acc) As' (dq g1.wf c.sm c.sr.wf) r' fr q2
theorem zB {tg iter elt:Expr} {ifs:List Expr} {scope:Scope} {pos:Pos} {wi:WI} {g:WG} {tc:WT} {te:WE} {tn cn:List Str} {ix:List Nat} (hc:X.calm=true) (hi:QIb X K tg iter wi) (O:aO X scope tn cn ix)
  (hg:∀ C fp s₃ H₃,QG (a_ X scope C (tn++cn) fp s₃ H₃) K tg g) (hcs:∀ C fp s₃ H₃,QTs (a_ X scope C (tn++cn) fp s₃ H₃) K ifs tc) (he:∀ C fp s₃ H₃,QE (a_ X scope C (tn++cn) fp s₃ H₃) K elt te)
  (hs:∀ x,foldedSetIterable iter X.env x=pure x:=by intro _; rfl):QE X K (.ListComp elt [⟨tg,iter,ifs,0⟩] scope pos) (pG wi g tc te tn.length ix) :=
 PE.imp (uM hc hi O hg hcs he hs) fun σ H Qv h=>qF h
end
theorem iG {g:WG} {tc:WT} {te:WE} (p:D->Bool) (f:D->D) (Iv:Env->Prop):∀ (xs:List D) (ρ:Env) (k:List D->Prop),Iv ρ ->
  (∀ x∈xs,∀ ρ,Iv ρ->∀ N1:Env->Prop,∀ N2:Env->D->Prop,(∀ ρ',Iv ρ'->p x=false->N1 ρ')->(∀ ρ',Iv ρ'->p x=true->N2 ρ' (f x))->g x ρ fun ρ1=>tc ρ1 fun b=>if b=true then te ρ1 fun m d=>yK m d/\N2 ρ1 d else N1 ρ1) ->
  k ((xs.filter p).map f)->dg g tc te xs ρ k
 | [],_,k,_,_,h=>h
 | x :: xs,ρ,k,iv,hs,h=>by
  refine hs x xac ρ iv _ _ (fun ρ' iv' hp=>?_) (fun ρ' iv' hp=>?_)
  ·exact iG p f Iv xs ρ' k iv' (fun y hy=>hs y (xab _ hy)) (by simpa [hp] using h)
  ·exact iG p f Iv xs ρ' _ iv' (fun y hy=>hs y (xab _ hy)) (by simpa [hp] using h)
end L2.Q
namespace L2.Q.R
open PySem PySem.Spec PyProof.Rows L2.Q
theorem Dd {ρ:L2.Q.Env} {Q:Md->L2.Q.D->Prop} {tt:WT} {te:WE} {wi:WI} {g:WG} {tn:Nat} {ix:List Nat}:pG wi g tt te tn ix ρ Q=wi ρ fun ds=>dg g tt te ds (qM tn ix ρ) fun out=>Q .bo (.list out):=rfl
end L2.Q.R
namespace L2
open PySem PySem.Spec PyProof.Rows
section
variable {X:Cx} {o i value:Expr} {pos pos':Pos} {td ty tv:TE}
def Dg (td ty tv:TE):TS:=fun D σ H=>tv σ H fun v H1=>td σ H1 fun x H2=>ty σ H2 fun y H3=>∃ a xs,∃ j:Int,x=.ref a/\y=.int j/\H3 a=some (.lst xs)/\0<=j/\j<xs.length/\D.nx σ (upd H3 a (.lst (xs.set j.toNat v)))
theorem vp {xs:List V} {us:List Value} {v:V} {u:Value} (r:RelV v u) (h:Vals xs us) (k:Nat):Vals (xs.set k v) (us.set k u):=by
 induction h generalizing k with
 | nil=>exact .nil
 | cons a _ ih =>
  cases k with
  | zero=>exact .cons r ‹_›
  | succ k=>exact .cons a (ih k)
theorem yF (ho:PE X o td) (hi:PE X i ty) (hv:PE X value tv) (hs:swapsWith value (some (.Subscript o i pos')) pos.line X.env=pure false) :
  PS X (.Assign [.Subscript o i pos'] value pos) (Dg td ty tv):=by
 intro pins s σ H D I h
 refine wpAny_Assign_Subscript (thn (hv pins s σ H _ I h) fun r s1 hx5=>L2.ex2 hx5 fun v H1 I1 rv q1=>thn (ho pins s1 σ H1 _ I1 q1) fun u s2 hx5=>L2.ex2 hx5 fun x H2 I2 rx q2=>thn (hi pins s2 σ H2 _ I2 q2) fun iv s3 hx9=>?_) hs
 obtain ⟨y,H3,I3,ry,a,xs,j,ex,ey,g,h0,h1,q3⟩:=hx9
 subst ex ey
 obtain rfl:u=Value.ref a:=rx
 obtain ⟨t,rfl⟩:=ry
 obtain ⟨z,its,n,r',hl,e⟩:=I3.lstM g
 have hsl:sizeLine<2 ^ 62:=by rw [sizeLine_eq]; decide
 refine PySem.W.ki_setAt (n:=n) e h0 (by lia) (by rw [xaw]; lia) ?_
 exact ⟨σ,_,I3.lset (its':=its.set j.toNat r) (t':=s3.toks) g e (by simp) (vp rv r' _) (by simpa using z),q3⟩
end
end L2
namespace L2.Q
open PySem PySem.Spec PyProof.Rows
section
variable {X:Cx} {K:PySem.W.Frag} {L:Str->Hp->Prop} {a b c e2:Expr} {p:WP} {tk tv:WE} {pos pos':Pos}
theorem ak.put {Hs H:Hp} {fl:Bool} {d:D} {v:V} (r:RepO K Hs H fl d v []) {ds:List D} {vs:List V} {As:List Addr} (k:Nat) (q:ak K Hs H fl ds vs As):∃ Bs,Bs.Sublist As/\ak K Hs H fl (ds.set k d) (vs.set k v) Bs:=by
 induction k generalizing ds vs As with
 | zero =>
  cases ds with
  | nil=>obtain ⟨rfl,rfl⟩:=q.n0; exact ⟨[],List.Sublist.refl _,q⟩
  | cons x ds =>
   obtain ⟨u,us,A,B,rfl,rfl,_,q2⟩:=q.c
   exact ⟨[]++B,xas _ _,ak.cons r q2⟩
 | succ k ih =>
  cases ds with
  | nil=>obtain ⟨rfl,rfl⟩:=q.n0; exact ⟨[],List.Sublist.refl _,q⟩
  | cons x ds =>
   obtain ⟨u,us,A,B,rfl,rfl,r1,q2⟩:=q.c
   obtain ⟨Bs,sb,q3⟩:=ih q2
   exact ⟨A++Bs,List.Sublist.append (List.Sublist.refl _) sb,ak.cons r1 q3⟩
def vy (p:WP) (tk tv:WE):WS:=fun E ρ=>tv ρ fun _ x=>p ρ fun fl d up=>tk ρ fun _ j=>x.flat=true/\R.lstD d fun xs=>intD j fun j=>0<=j/\j<xs.length/\E.nx (up fl (.list (xs.set j.toNat x)))
theorem tZ (ho:QP X K a p) (hi:QE X K b tk) (hv:QE X K c tv) (hs:swapsWith c (some (.Subscript a b pos')) pos.line X.env=pure false:=by rfl) :
  QS X K L (.Assign [.Subscript a b pos'] c pos) (vy p tk tv):=by
 refine PS.imp (yF ho hi hv hs) fun D σ H hx=>fj hx fun Hs ρ tot E sr h k1 k2 k3 k4=>?_
 refine ⟨Hs,ρ,tot,_,sr,h,fun v H1 Hs1 m1 x As1 g1 r1 f1 q1=>⟨Hs1,ρ,tot,_,sr.grow g1,q1,fun u H2 Hs2 fl d up g2 p2 q2=>⟨Hs2,ρ,tot,_,(sr.grow g1).grow g2,q2,fun y H3 Hs3 m3 yd As3 g3 r3 f3 q3=>?_⟩⟩⟩
 obtain ⟨hx,q3⟩:=q3
 have rx:Rep K Hs3 x v:=((r1.grow g2).grow g3).flat g3.wf hx
 have ry:=r3.rep g3.wf
 cases d with
 | list xs =>
  cases ry with
  | int j =>
   obtain ⟨h0,h1,q3⟩:=q3
   obtain ⟨a,vs,A,ea,e2,e21,rs,nd,hn,k⟩:=p2.put g3
   obtain ⟨nA,ndA⟩:=xaD.mp nd
   have hl:=rs.length
   have hz0:=p2.short ea e21
   obtain ⟨B,sb,rb⟩:=ak.put (RepO.sh (fun _=>hx) rx) j.toNat rs
   refine ⟨a,vs,j,ea,rfl,e2,h0,by lia,?_⟩
   obtain ⟨tot2,sr2⟩:=k fl _ _ B id rb (by rw [xcd]; lia) (sb.nodup ndA) (fun z=>nA (sb.subset z)) (fun x hx=>.inl (sb.subset hx))
   exact k1 _ _ Hs3 _ tot2 ((g1.sh.trans g2.sh).trans g3.sh) sr2 q3
  | _=>exact q3.elim
 | _=>exact q3.elim
end
end L2.Q
namespace L2.Q.R
open PySem PySem.Spec PyProof.Rows L2.Q
section
variable {tk tv:WE} {ρ:L2.Q.Env} {E:jf} {p:WP}
theorem En:vy p tk tv E ρ=tv ρ fun _ x=>p ρ fun fl d up=>tk ρ fun _ j=>x.flat=true/\onK d (f:=fun d=>lstD d fun xs=>onK j (f:=fun j=>intD j fun j=>0<=j/\j<xs.length/\E.nx (up fl (.list (xs.set j.toNat x)))) ⟨⟩) ⟨⟩:=rfl
end
end L2.Q.R
namespace L2.Q
open PySem PySem.Spec PyProof.Rows
section
variable {K:PySem.W.Frag} {Hs H Hs' H':Hp}
def thwH (Hs:Hp) (As:List Addr):Hp:=fun a=>if a∈As then none else Hs a
theorem thaw {As:List Addr} (g:Grow (frzH Hs H As) H Hs' H') (n:∀ a∈As,Hs a=none) (o:∀ a∈As,Own H a):Grow Hs H (thwH Hs' As) H' where
 all:=g.all
 sh:=fun a u e=>by
  unfold thwH
  rw [if_neg fun m=>by rw [n a m] at e; cases e]
  exact g.sh a u (dJ n a u e)
 wf:=⟨fun a u e=>by
  unfold thwH at e
  by_cases m:a∈As
  ·rw [if_pos m] at e; cases e
  ·rw [if_neg m] at e; exact g.wf.sub a u e,fun a vs e=>by
  unfold thwH
  rw [if_neg fun m=>?_]
  ·exact g.wf.tups a vs e
  ·have z:=o a m
   cases h:H a with
   | none=>exact z.ne h
   | some u =>
    have:=g.all a u h
    rw [e] at this
    cases this
    exact z.tE h⟩
 new:=fun a h=>by
  unfold thwH at h
  by_cases m:a∈As
  ·rw [if_pos m] at h; exact absurd rfl h
  ·rw [if_neg m] at h
   rcases g.new a h with z | z
   ·unfold frzH at z
    rw [if_neg m] at z
    exact .inl z
   ·exact .inr z
theorem SR.setN {ρ:Env} {σ:St} {tot:List Addr} {j:Nat} {o:Option V} (s:SR K Hs H ρ σ tot) (e:ρ[j]? = some none):SR K Hs H ρ (σ.set j o) tot:=by
 induction s generalizing j with
 | nil=>simp at e
 | non s ih =>
  cases j with
  | zero=>exact .non s
  | succ j=>exact .non (ih (by simpa using e))
 | sh r s ih =>
  cases j with
  | zero=>simp at e
  | succ j=>exact .sh r (ih (by simpa using e))
 | xc s ih =>
  cases j with
  | zero=>simp at e
  | succ j=>exact .xc (ih (by simpa using e))
 | ow ne r s ih =>
  cases j with
  | zero=>simp at e
  | succ j=>exact .ow ne r (ih (by simpa using e))
 | lk ne r s ih =>
  cases j with
  | zero=>simp at e
  | succ j=>exact .lk ne r (ih (by simpa using e))
theorem SRel.frzO {ρ:Env} {σ:St} {tot:List Addr} {fl:Bool} {d:D} (i:Nat) (s:SRel K Hs ρ σ H tot) (e:ρ[i]? = some (some (.ow fl d))):∃ As tot',(∀ a∈As,Hs a=none)/\(∀ a∈As,Own H a)/\SRel K (frzH Hs H As) (ρ.set i (some (.sh d))) σ H tot':=by
 obtain ⟨As,t,a,b,c,g⟩:=SR.frz i s.sr e s.nod
 have hn:∀ a∈As,Hs a=none:=fun x hx=>s.own x (a.subset hx)
 have ho:∀ a∈As,Own H a:=fun x hx=>s.sr.own x (a.subset hx)
 refine ⟨As,t,hn,ho,g _ (dJ hn) fun x hx=>by unfold frzH; rw [if_pos hx],ux s.wf ho,b.nodup s.nod,fun x hx=>?_⟩
 unfold frzH
 rw [if_neg fun m=>c x m hx]
 exact s.own x (b.subset hx)
end
def gR (i j:Nat) (t:WT):WS:=fun E ρ=>∃ fl xs,ρ[i]? = some (some (.ow fl (.list xs)))/\ρ[j]? = some none/\(∀ x∈xs,t ((ρ.set i (some (.sh (.list xs)))).set j (some (.sh x))) fun b=>b=false)/\E.nx ρ
section
variable {X:Cx} {K:PySem.W.Frag} {e c:Expr} {i j:Nat} {pos p p2:Pos} {a:List Stmt} {t:WT} {x:Str}
theorem qR (hp:PassesOwn (model X.prog X.w) X.A X.env X.xe) (hc:X.calm=true) (hN:X.N.Nodup) (hj:X.N[j]? = some x) (hl:Loc X.env.scope x) (he:PE X e (tVar i)) (ht:QT X K c t) (hK:X.K=K:=by rfl)
  (hs:∀ x,foldedSetIterable e X.env x=pure x:=by intro _; rfl) (hf:X.fn x=true\/X.env.scope.names.lookup x=some .local:=by first | exact .inl rfl | exact .inr rfl | assumption) :
  QS X K L (.For (.Name x p) e [.If c a [] p2] [] pos) (gR i j t):=by
 subst hK
 refine PS.imp (ps_for hp hc (pi_list he) (pg_name hN hj hl hf) (pss_one (ps_if ht pss_never pss_nil)) hs) fun D σ H hx=>iY hx fun Hs ρ tot E sr h k1 k2 k3 k4 kx=>?_
 obtain ⟨fl,xs,e1,e2,ht,hn⟩:=h
 have hij:i≠j:=fun z=>by subst z; rw [e1] at e2; cases e2
 rw [ue]
 obtain ⟨v,ev,As,ne,r,_⟩:=sr.sr.get e1
 have r':=r.rep sr.wf.sub fun _ _=>rfl
 cases r' with
 | @list ad _ _ z s rs =>
  refine ⟨.ref ad,ev,ad,rfl,⟨_,s⟩,fun k m σ' H'=>m=xs.length - k/\k<=xs.length/\∃ Hs',Same Hs Hs'/\SRel X.K Hs' ρ σ' H' tot/\σ'[i]? = some (some (.ref ad)),⟨xs.length,by simp,xaz _,Hs,Same.refl _,sr,ev⟩,?_⟩
  rintro k m σ2 H2 ⟨rfl,hk,Hs2,s2,sr2,ev2⟩
  obtain ⟨A2,t2,n2,o2,F⟩:=sr2.frzO i e1
  have hi:i<ρ.length:=(xaj.mp e1).1
  obtain ⟨w,ew,R⟩:=F.sr.get (i:=i) (sl:=.sh (.list xs)) (by rw [xbI hi])
  rw [ev2] at ew
  cases ew
  cases show Rep X.K _ (.list xs) (.ref ad) from R with
  | list z3 s3 rs3 =>
   have S:=jd.list (lQ s3 rs3)
   by_cases hlt:k<xs.length
   ·refine .inr ⟨S.go k _ H2 (Same.refl _) F.wf hlt,fun σ3 H3=>∃ Hs',Same Hs Hs'/\SRel X.K Hs' ρ σ3 H3 tot/\σ3[i]? = some (some (.ref ad)),fun σ3 H3 h3=>⟨xs.length - (k+1),by lia,rfl,hlt,h3⟩,fun x H3 y=>?_⟩
    obtain ⟨Hs3,g3,rd⟩:=S.yld k _ H2 x H3 xs[k] (Same.refl _) F.wf (by simp [hlt]) y
    obtain ⟨t3,F3⟩:=(F.grow g3).set (m:=.sh) j ⟨rfl,rd⟩ xaQ (fun a h=>mem0 h) rfl
    refine ⟨Hs3,_,t3,_,F3,ht _ (xbe hlt),fun b H5 Hs5 g5 q5=>?_⟩
    subst q5
    have G:=thaw (g3.trans g5) n2 o2
    have s5:=sr2.grow G
    exact ⟨_,s2.trans G.sh,⟨s5.sr.setN e2,s5.wf,s5.nod,s5.own⟩,by rw [xbf (Ne.symm hij)]; exact ev2⟩
   ·have e:k=xs.length:=by lia
    subst e
    exact .inl ⟨S.stop _ H2 (Same.refl _) F.wf,k1 σ2 H2 Hs2 ρ tot s2 sr2 hn⟩
end
def wSlB (te:WE) (tl th:WO):WE:=fun ρ Q=>te ρ fun _ x=>tl ρ fun lo=>th ρ fun hi=>R.lstD x fun xs=>Q .bo (.list (cutG xs lo hi))
section
variable {X:Cx} {K:PySem.W.Frag} {e:Expr} {lo hi:Option Expr} {te:WE} {tl th:WO} {pos p2:Pos}
theorem oX (he:QE X K e te) (hl:QO X K lo tl) (hh:QO X K hi th) (hK:X.K=K:=by rfl):QE X K (.Subscript e (.Slice lo hi none p2) pos) (wSlB te tl th):=by
 refine PE.imp (pe_slice (kSl2 hK) he hl hh) fun σ H Qv hx=>ex4 hx fun Hs ρ tot Q sr h f=>?_
 refine ⟨Hs,ρ,tot,_,sr,h,fun v H1 Hs1 m x As g1 r1 f1 q1=>⟨Hs1,ρ,tot,_,sr.grow g1,q1,fun l H2 Hs2 g2 q2=>⟨Hs2,ρ,tot,_,(sr.grow g1).grow g2,q2,fun u H3 Hs3 g3 q3=>?_⟩⟩⟩
 have r3:=(r1.grow g2).grow g3
 have fin:Fin K Hs3 H3 Q Qv:=Fin.after f ((g1.trans g2).trans g3)
 have rr:=r3.rep g3.wf
 cases rr with
 | list z s q =>
  have hz:=q.length
  have rc:=fC (lo:=l) (hi:=u) q
  refine .inl ⟨_,s,fun p hp=>fin _ _ Hs3 .bo (.list _) [] (newL g3.wf hp fun _ z=>nomatch z) ⟨rfl,.list (by rw [<- rc.length]; exact xaq (gW _ _ _) (by lia)) (.inl (.inl upd_same)) (rc.same ((Same.refl H3).upd hp))⟩ bK.nil q3⟩
 | _=>exact q3.elim
end
end L2.Q
namespace L2.Q.R
open PySem PySem.Spec PyProof.Rows L2.Q
section
variable {E:jf} {ρ:Env} {i j:Nat} {t:WT} {te:WE} {tl th:WO} {Q:Md->L2.Q.D->Prop}
theorem HJ:wSlB te tl th ρ Q=te ρ fun _ x=>tl ρ fun lo=>th ρ fun hi=>onK x (f:=fun x=>lstD x fun xs=>Q .bo (.list (cutG xs lo hi))) ⟨⟩:=rfl
theorem Am:gR i j t E ρ=onK ρ[i]? (f:=fun o=>own' o fun _ d=>onK d (f:=fun d=>list' d fun xs=>ρ[j]? = some none/\(∀ x∈xs,t ((ρ.set i (some (.sh (.list xs)))).set j (some (.sh x))) fun b=>b=false)/\E.nx ρ) ⟨⟩) ⟨⟩:=by
 unfold gR onK own' list'
 generalize ρ[i]? = o
 rcases o with _ | _ | d | ⟨fl,d⟩ | ⟨a,fl,d⟩ | a
 ·exact propext ⟨(fun ⟨_,_,e,_⟩=>nomatch e),fun z=>z.elim⟩
 ·exact propext ⟨(fun ⟨_,_,e,_⟩=>nomatch e),fun z=>z.elim⟩
 ·exact propext ⟨(fun ⟨_,_,e,_⟩=>nomatch e),fun z=>z.elim⟩
 ·cases d with
  | list xs=>exact propext ⟨fun ⟨_,_,e,h⟩=>by cases e; exact h,fun h=>⟨_,_,rfl,h⟩⟩
  | _=>exact propext ⟨(fun ⟨_,_,e,_⟩=>nomatch e),fun z=>z.elim⟩
 ·exact propext ⟨(fun ⟨_,_,e,_⟩=>nomatch e),fun z=>z.elim⟩
 ·exact propext ⟨(fun ⟨_,_,e,_⟩=>nomatch e),fun z=>z.elim⟩
end
end L2.Q.R
local macro_rules | `(tactic| walk_at "q") => do
 let nm (s:String):Lean.Ident:=Lean.mkIdent ((s.splitOn ".").foldl Lean.Name.mkStr .anonymous)
 let ds ← ("Fo Gx Fd Gm Dc Ge G_ HH CQ Cu Ex Gi Eo Gj Fl Fq Hn Es Ez Gg Hq Gf Gh Fx Fp HS HQ Hd Ho GQ GZ G3 Gn Gw Gy G5 Fw CG GD Gs wB_ Hj wOr_ Hy Hh DN Ej wC_ wOp_ wUn_ Fg Gd G4 Hi GR Gp Dn Eg CW Dy Dt Ei Dr Ea Ep FW FJ Fy Et Hr Hb HB Gv E_ Hv Hf Ht Ab FN Dv Cr Dh Hg G8 Di Dd En Am HJ Hl GF HD GJ Hw GC Hc GX Hx HF Hk Fj Fi Gb Gr Ff HN DR El DQ wSl_ Cz Er Fe Hz GK HR Fz Eb CZ wpN_ CJ Hm Ef G7 Gz Ft HW Dm FZ DW CK Cp Ck gN_ gT_ Ga Hu F_ Ey Eu Dw Ec Ek G9 FQ Gq Ew Gk Em Gu".splitOn " ").toArray.mapM fun s=>`(Lean.Parser.Tactic.simpLemma| ↓$(nm ("L2.Q.R." ++ s)):ident)
 let us ← ("L2.Q.mvE L2.Q.mvV L2.Q.movS L2.Q.outM L2.Q.zJ L2.Q.yh L2.Q.okSh L2.Q.okOw L2.Q.okFl L2.Q.retM L2.Q.gO L2.Q.frzE L2.Q.shS L2.Q.shC L2.Q.jy L2.Q.qM L2.Q.asg L2.Q.itm L2.Q.bH L2.Q.D.flat L2.Q.flats L2.Q.D.isN L2.Q.D.ty L2.Q.truD L2.Q.D.key1 L2.Q.dO L2.Q.Fb L2.Q.Fv List.length_map List.map_cons List.map_nil List.length_cons List.length_nil List.replicate_succ List.replicate_zero List.cons_append List.nil_append List.append_nil List.getElem?_cons_zero List.getElem?_cons_succ List.getElem?_nil List.set_cons_zero List.set_cons_succ List.all_cons List.all_nil Option.some.injEq Option.join_some Option.map_some Option.map_none Nat.reduceAdd Nat.reduceSub true_and and_true Bool.and_true Bool.true_and Bool.and_false Bool.false_and Bool.not_true Bool.not_false Bool.false_eq_true if_true if_false decide_true decide_false reduceIte cond_true cond_false PySem.sizeLine_eq L2.Q.atI0 L2.Q.atI1 L2.Q.atI2 L2.Q.b7 L2.Q.Ao L2.Q.empty_app Nat.zero_add exists_eq_left' Int.reduceLT Int.reduceLE Int.reducePow Int.reduceNeg Int.reduceToNat Int.reduceAdd Int.reduceMul Int.reduceSub Nat.reduceLeDiff Nat.reduceLT false_or or_false and_self L2.G6".splitOn " ").toArray.mapM fun s=>`(Lean.Parser.Tactic.simpLemma| $(nm s):ident)
 let as:Lean.TSyntaxArray [`Lean.Parser.Tactic.simpStar,`Lean.Parser.Tactic.simpErase,`Lean.Parser.Tactic.simpLemma]:=(ds++us).map fun x=>⟨x.raw⟩
 `(tactic| simp -dsimp only [$as,*])
namespace L2.Q.Law
open PySem PySem.Spec PyProof.Rows
theorem small {n:Nat} (h:n<=10000):n<=sizeLine:=xaq h (by decide)
theorem EY {n:Nat} (h:n<=10000):n<sizeLine:=xcg h (by decide)
def isLet (c:Nat):Bool:=decide (97<=c/\c<=122)
abbrev abc:Str := "abcdefghijklmnopqrstuvwxyz"
theorem vH:sg abc=(List.range 26).map (97 + ·):=by decide +kernel
theorem uV {i:Int} (h0:0<=i) (h1:i<26):∃ c,atI (sg abc) i=some c/\isLet c=true:=by
 refine ⟨97+i.toNat,?_,?_⟩
 ·have:atI (sg abc) ((i.toNat:Nat):Int)=some (97+i.toNat):=atI_nat (by
   rw [vH]
   have:i.toNat<26:=by lia
   simp [this])
  rwa [xa1 h0] at this
 ·simp [isLet]; lia
theorem oA (x:Int):∃ c,atI (sg abc) (x % 26)=some c/\isLet c=true:=uV (xcb _ (by decide)) (xbV _ (by decide))
def lets (x:Str):Prop:=∀ c∈sg x,isLet c=true
def Open (x:Str):Prop:=1<=x.length/\x.length<=6/\lets x
def Deed (x:Str):Prop:=x = "*"\/Open x
theorem xq {x y:Str} (hx:lets x) (hy:lets y):lets (x++y):=fun c hc=>by
 rw [qb] at hc
 exact (xal.mp hc).elim (hx c) (hy c)
theorem wR {c:Nat} (h:isLet c=true):lets ⟨#[c]⟩:=fun d hd=>by
 have:d=c:=by simpa [sg] using hd
 rw [this]; exact h
theorem Cq {x:Str} (h:lets x) (lo hi:Option Int):lets (cutS x lo hi):=fun c hc=>by
 unfold cutS sg at hc
 rw [List.toList_toArray] at hc
 exact h c (xb9 (xbA hc))
theorem fX (c:Nat):(⟨#[c]⟩:Str).length=1:=rfl
theorem Deed.len {x:Str} (h:Deed x):x.length<=6:=by
 rcases h with rfl | h
 ·decide
 ·exact h.2.1
theorem Deed.ok {x:Str} (h:Deed x):PyData.strOk x=true:=by
 rw [zU]
 rcases h with rfl | h
 ·have:sg "*" = [42]:=by decide +kernel
  intro c hc
  rw [this] at hc
  have:c=42:=by simpa using hc
  lia
 ·intro c hc
  have:=h.2.2 c hc
  simp [isLet] at this
  lia
abbrev Stp:=Int × Str × Int
def stpK (s:Stp):List Key:=[.inl s.1,.inr s.2.1,.inl s.2.2]
def stpD (s:Stp):D:=.tup [.int s.1,.str s.2.1,.int s.2.2]
theorem Cv (s:Stp):keyT (stpK s)=stpD s:=rfl
def mD (many:Int) (steps:List Stp):D:=.tup [.int many,.list (steps.map stpD)]
theorem lN:∀ (l:List Stp),flats (l.map stpD)=true
 | []=>rfl
 | x :: l=>by simp [flats,lN l,stpD,D.flat]
def StOk (many:Int) (s:Stp):Prop:=0<=s.1/\s.1<many/\Deed s.2.1/\0<=s.2.2/\s.2.2<many
theorem Ax {many:Int} {s:Stp} (n:Nat) (h:StOk many s):okD (n+1) (stpD s)=true:=by
 have:=h.2.2.1.ok
 simp [okD,stpD,this]
theorem zN {many:Int} {l:List Stp} (n:Nat) (h:∀ s∈l,StOk many s):okD (n+2) (.list (l.map stpD))=true:=by
 simp only [okD,xbO,xa8]
 intro s hs
 exact Ax n (h s hs)
theorem m_ok {many:Int} {l:List Stp} (n:Nat) (h:∀ s∈l,StOk many s):okD (n+3) (mD many l)=true:=by
 have h2:=zN n h
 show (okD (n+2) (.int many) && (okD (n+2) (.list (l.map stpD)) && true))=true
 rw [h2]
 rfl
theorem rE:∀ (l:List Stp),nbs (l.map stpD)=true
 | []=>rfl
 | x :: l=>by simp [nbs,rE l,stpD,D.nb]
theorem nb_m (many:Int) (l:List Stp):(mD many l).nb=true:=by simp [mD,D.nb,nbs,rE]
theorem eq_self {x:D} (h:x.nb=true):eqD x x=true:=(cZ x x h h).mpr rfl
theorem vJ {s t:Stp} (h:stpD s=stpD t):s=t:=by
 obtain ⟨a,b,c⟩:=s
 obtain ⟨a',b',c'⟩:=t
 simp [stpD] at h
 obtain ⟨rfl,rfl,rfl⟩:=h
 rfl
theorem wG:∀ {l m:List Stp},l.map stpD=m.map stpD->l=m
 | [],[],_=>rfl
 | [],_ :: _,h=>by simp at h
 | _ :: _,[],h=>by simp at h
 | x :: l,y :: m,h=>by
  simp only [xap,List.cons.injEq] at h
  rw [vJ h.1,wG h.2]
theorem Cy {s t:Stp} (h:stpK s=stpK t):s=t:=by
 obtain ⟨a,b,c⟩:=s
 obtain ⟨a',b',c'⟩:=t
 simp [stpK] at h
 obtain ⟨rfl,rfl,rfl⟩:=h
 rfl
def ltP (s t:Stp):Bool:=ltK (stpK s) (stpK t)
theorem rY {P:Stp->Prop}:∀ {ks:List (List Key)},(∀ k∈ks,∃ s,k=stpK s/\P s)->∃ l:List Stp,ks=l.map stpK/\∀ s∈l,P s
 | [],_=>⟨[],rfl,fun s h=>nomatch h⟩
 | k :: ks,h=>by
  obtain ⟨s,rfl,p⟩:=h k xac
  obtain ⟨l,rfl,q⟩:=rY fun k hk=>h k (xab _ hk)
  refine ⟨s :: l,rfl,fun t ht=>?_⟩
  rcases xag.mp ht with rfl | ht
  ·exact p
  ·exact q t ht
abbrev Kn:=List (List Key × D)
def StD (P:Stp->Prop) (kvs:Kn):Prop:=(∀ p∈kvs,∃ s,p.1=stpK s/\P s)/\(kvs.map (·.1)).Nodup
theorem uq {κ β:Type} [DecidableEq κ] (kvs:List (κ × β)) (k:κ) (v:β):(putG kvs k v).map (·.1)=if k∈kvs.map (·.1) then kvs.map (·.1) else kvs.map (·.1)++[k]:=by
 unfold putG
 by_cases h:k∈kvs.map (·.1)
 ·have:(kvs.any fun kv=>decide (kv.1=k))=true:=by
   obtain ⟨p,hp,e⟩:=xak.mp h
   exact xbE.mpr ⟨p,hp,decide_eq_true e⟩
  rw [if_pos this,if_pos h,xaG]
  apply xbq
  intro p _
  show (if p.1=k then (p.1,v) else p).1=p.1
  split <;> rfl
 ·have:¬ (kvs.any fun kv=>decide (kv.1=k))=true:=by
   intro z
   obtain ⟨p,hp,e⟩:=xbE.mp z
   exact h (xak.mpr ⟨p,hp,of_decide_eq_true e⟩)
  rw [if_neg this,if_neg h,xbL]
  rfl
theorem StD.put {P:Stp->Prop} {kvs:Kn} {s:Stp} {d:D} (h:StD P kvs) (hs:P s):StD P (putG kvs (stpK s) d):=by
 refine ⟨fun p hp=>?_,?_⟩
 ·rcases jV hp with e | e
  ·exact ⟨s,e,hs⟩
  ·obtain ⟨q,hq,e⟩:=xak.mp e
   rw [<- e]
   exact h.1 q hq
 ·rw [uq]
  split
  ·exact h.2
  ·rename_i hn
   exact xar.mpr ⟨h.2,by simp,fun a ha b hb e=>by
    have:b=stpK s:=by simpa using hb
    subst this; subst e; exact hn ha⟩
theorem StD.nil {P:Stp->Prop}:StD P []:=⟨(fun p hp=>nomatch hp),xaQ⟩
theorem iZ:∀ (l:List Str),flats (l.map D.str)=true
 | []=>rfl
 | x :: l=>by simp [flats,iZ l,D.flat]
theorem fc:∀ (l:List Int),flats (l.map D.int)=true
 | []=>rfl
 | x :: l=>by simp [flats,fc l,D.flat]
theorem vg:∀ (l:List Bool),flats (l.map D.bl)=true
 | []=>rfl
 | x :: l=>by simp [flats,vg l,D.flat]
theorem vm (l:List Str) (x:Str):l.map D.str++[D.str x]=(l++[x]).map D.str:=by simp
theorem ints_app (l:List Int) (x:Int):l.map D.int++[D.int x]=(l++[x]).map D.int:=by simp
theorem cB {n i:Nat} {lo:Int} {x:D} (h:(ik lo n)[i]? = some x):i<n/\x=.int (lo+(i:Nat)):=by
 unfold ik at h
 rw [xaH] at h
 by_cases hi:i<n
 ·rw [List.getElem?_range hi] at h
  exact ⟨hi,(Option.some.inj h).symm⟩
 ·rw [xaF (by simpa using hi)] at h
  cases h
theorem cN (lo:Int) (n:Nat):(ik lo n).length=n:=by simp [ik]
theorem Cj {lo:Int} {n:Nat} {x:D} (h:x∈ik lo n):∃ i:Nat,i<n/\x=.int (lo+i):=by
 obtain ⟨i,hi⟩:=xa3.mp h
 exact ⟨i,cB hi⟩
theorem yI {names:List Str} {i:Int} (h0:0<=i) (h1:i<names.length):∃ n,n∈names/\atI (names.map D.str) i=some (.str n):=by
 have hn:i.toNat<names.length:=by lia
 refine ⟨names[i.toNat],xbe hn,?_⟩
 have:=atI_nat (xs:=names.map D.str) (j:=i.toNat) (v:=.str names[i.toNat]) (by simp [hn])
 rwa [xa1 h0] at this
theorem name_mod {names:List Str} (x:Int) (h:1<=names.length):∃ n,n∈names/\atI (names.map D.str) (x % (names.length:Int))=some (.str n) :=
 yI (xcb _ (by lia)) (xbV _ (by lia))
theorem xu (l:List Int) (lo hi:Option Int):cutG (l.map D.int) lo hi=(cutG l lo hi).map D.int:=by
 unfold cutG
 rw [xaf,List.map_take,List.map_drop]
theorem iK {l:List Int} {i:Nat} {x:D} (h:(l.map D.int)[i]? = some x):∃ c,c∈l/\x=.int c:=by
 obtain ⟨c,hc,e⟩:=xak.mp (xaB h)
 exact ⟨c,hc,e.symm⟩
theorem gZ {n d:Nat} {k:Int} (h0:0<=k) (h1:k<=n):HT.sIx n d (some k)=k.toNat:=by
 simp only [HT.sIx]
 rw [if_neg (by lia)]
 lia
theorem DG {x:Str} {k:Int} (h0:0<=k) (h1:k<=x.length):(cutS x none (some k)).length=k.toNat:=by
 unfold cutS
 rw [gZ h0 h1]
 unfold Str.length at *
 simp [HT.sIx]
 lia
theorem Dz {x:Str} {j k:Int} (h0:0<=j) (h1:j<=x.length) (h2:0<=k/\k<=x.length):(cutS x (some j) (some k)).length=k.toNat - j.toNat:=by
 unfold cutS
 rw [gZ h0 h1,gZ h2.1 h2.2]
 unfold Str.length at *
 simp
 lia
theorem fL {α:Type} [DecidableEq α]:∀ {l m:List α},l.Nodup->(∀ x∈l,x∈m)->l.length<=m.length
 | [],_,_,_=>xaz _
 | x :: l,m,nd,h=>by
  obtain ⟨hx,nd⟩:=xaD.mp nd
  have hm:=h x xac
  have:=fL (l:=l) (m:=m.erase x) nd fun y hy=>(List.mem_erase_of_ne (fun e=>by subst e; exact hx hy)).mpr (h y (xab _ hy))
  rw [List.length_erase_of_mem hm] at this
  have:=List.length_pos_of_mem hm
  simp only [xaU]
  lia
def aU (n:Nat):List Int:=(List.range n).map fun i=>((i:Nat):Int)
theorem fZ (n:Nat):(aU n).length=n:=by simp [aU]
theorem gj {n:Nat} {x:Int}:x∈aU n↔0<=x/\x<n:=by
 unfold aU
 rw [xak]
 constructor
 ·rintro ⟨i,hi,rfl⟩
  have:=xaS.mp hi
  lia
 ·intro ⟨h0,h1⟩
  exact ⟨x.toNat,xaS.mpr (by lia),by lia⟩
theorem z6:∀ {l m:List Int},l.Pairwise (· < ·)->m.Pairwise (· < ·)->(∀ x,x∈l↔x∈m)->l=m
 | [],[],_,_,_=>rfl
 | [],y :: m,_,_,h=>absurd ((h y).mpr xac) (by simp)
 | x :: l,[],_,_,h=>absurd ((h x).mp xac) (by simp)
 | x :: l,y :: m,hl,hm,h=>by
  obtain ⟨a1,a2⟩:=xbl.mp hl
  obtain ⟨b1,b2⟩:=xbl.mp hm
  have e:x=y:=by
   rcases xag.mp ((h x).mp xac) with e | e
   ·exact e
   ·rcases xag.mp ((h y).mpr xac) with e' | e'
    ·exact e'.symm
    ·have:=b1 x e; have:=a1 y e'; lia
  subst e
  rw [z6 a2 b2 fun z=>⟨fun hz=>by
   rcases xag.mp ((h z).mp (xab _ hz)) with e | e
   ·subst e; exact absurd (a1 z hz) (by lia)
   ·exact e,fun hz=>by
   rcases xag.mp ((h z).mpr (xab _ hz)) with e | e
   ·subst e; exact absurd (b1 z hz) (by lia)
   ·exact e⟩]
theorem CN {l:List Int} (h:l.Pairwise (· < ·)):l.Nodup:=h.imp fun h=>by lia
def StIn (many:Int) (steps:List Stp):Prop:=∀ s∈steps,StOk many s
def setK (ks:List Int):List (Key × D):=ks.map fun x=>(.inl x,.bl true)
theorem iu (ks:List Int):(setK ks).map (·.1)=ks.map fun x=>(Sum.inl x:Key):=by simp [setK,xaG,Function.comp_def]
theorem Cm (ks:List Int):(setK ks).length=ks.length:=by simp [setK]
theorem nO {ks:List Int} {x:Int}:((Sum.inl x:Key)∈ks.map fun x=>(Sum.inl x:Key))↔x∈ks:=by
 rw [xak]
 exact ⟨fun ⟨y,hy,e⟩=>by cases e; exact hy,fun h=>⟨x,h,rfl⟩⟩
def insI (ks:List Int) (x:Int):List Int:=if x∈ks then ks else ks++[x]
theorem tK {κ β:Type} [DecidableEq κ] {kvs:List (κ × β)} {k:κ}:(kvs.any fun kv=>decide (kv.1=k))=true↔k∈kvs.map (·.1):=by
 rw [xbE,xak]
 exact ⟨fun ⟨p,hp,e⟩=>⟨p,hp,of_decide_eq_true e⟩,fun ⟨p,hp,e⟩=>⟨p,hp,decide_eq_true e⟩⟩
theorem Dj (ks:List Int) (x:Int):putG (setK ks) (.inl x) (.bl true)=setK (insI ks x):=by
 unfold putG insI
 by_cases h:x∈ks
 ·rw [if_pos h,if_pos (tK.mpr (by rw [iu]; exact nO.mpr h))]
  unfold setK
  rw [xaG]
  apply xbq
  intro y _
  show (if (Sum.inl y:Key)=Sum.inl x then ((Sum.inl y:Key),D.bl true) else (.inl y,.bl true))=_
  split <;> rfl
 ·rw [if_neg h,if_neg (fun z=>h (nO.mp (by rw [<- iu]; exact tK.mp z)))]
  simp [setK]
theorem sX {κ β:Type} [DecidableEq κ]:∀ {kvs:List (κ × β)} {k:κ},(getG kvs k).isSome=true↔k∈kvs.map (·.1)
 | [],k=>by simp [getG]
 | p :: kvs,k=>by
  have ih:=sX (kvs:=kvs) (k:=k)
  rw [xap,xag]
  by_cases h:p.1=k
  ·subst h; simp [getG]
  ·have:getG (p :: kvs) k=getG kvs k:=by simp [getG,h]
   rw [this,ih]
   exact ⟨.inr,fun z=>z.elim (fun e=>absurd e.symm h) id⟩
theorem get_set (ks:List Int) (x:Int):(getG (setK ks) (.inl x)).isSome=decide (x∈ks):=by
 rw [xa4,sX,iu,nO,decide_eq_true_iff]
theorem Cw {ks:List Int} {x y:Int}:y∈insI ks x↔y∈ks\/y=x:=by
 unfold insI
 split
 ·rename_i h; exact ⟨.inl,fun z=>z.elim id fun e=>by subst e; exact h⟩
 ·simp
theorem Ac {ks:List Int} {x:Int} (h:ks.Nodup):(insI ks x).Nodup:=by
 unfold insI
 split
 ·exact h
 ·rename_i hx
  exact xar.mpr ⟨h,by simp,fun a ha b hb e=>by
   have:b=x:=by simpa using hb
   subst this; subst e; exact hx ha⟩
theorem xV {steps:List Stp} {i:Nat} {x:D} (h:(steps.map stpD)[i]? = some x):∃ p d r,x=.tup [.int p,.str d,.int r]/\(p,d,r)∈steps/\steps.take (i+1)=steps.take i++[(p,d,r)]:=by
 rw [xaH] at h
 cases e:steps[i]? with
 | none=>rw [e] at h; cases h
 | some s =>
  rw [e] at h
  cases h
  obtain ⟨p,d,r⟩:=s
  exact ⟨p,d,r,rfl,xaB e,by rw [xb1,e]; rfl⟩
theorem fY {l:List Int} {i:Int} (h0:0<=i) (h1:i<l.length):∃ c,c∈l/\atI (l.map D.int) i=some (.int c):=by
 have hn:i.toNat<l.length:=by lia
 refine ⟨l[i.toNat],xbe hn,?_⟩
 have:=atI_nat (xs:=l.map D.int) (j:=i.toNat) (v:=.int l[i.toNat]) (by simp [hn])
 rwa [xa1 h0] at this
theorem uU (x:Int) {m:Int} (h:0<m):0<=x % m/\x % m<m:=⟨xcb _ (by lia),xbV _ h⟩
theorem uB {a b:Int} (h0:-1000<=b) (h1:b<=10000000000):CMul a b:=.inr ⟨by lia,by lia⟩
theorem jD {a b:Int} (h0:-1000<=a) (h1:a<=10000000000):CMul a b:=.inl ⟨by lia,by lia⟩
theorem gG:∀ l:List Nat,sg (Str.join "" (l.map fun c=>(⟨#[c]⟩:Str)))=l
 | []=>by decide +kernel
 | [c]=>rfl
 | c :: d :: l=>by
  have ih:=gG (d :: l)
  show sg ((⟨#[c]⟩:Str) ++ "" ++ Str.join "" ((d :: l).map fun c=>(⟨#[c]⟩:Str)))=_
  rw [qb,qb,ih,show sg ("" : Str)=[] by decide +kernel]
  rfl
theorem pC:∀ l:List Nat,(l.map fun _=>1).sum=l.length
 | []=>rfl
 | x :: l=>by simp [pC l]; lia
theorem jK:∀ (l:List Str),gO (l.map D.str)=some l
 | []=>rfl
 | x :: l=>by simp [gO,jK l]
def Lts (n:Nat) (out:List D):Prop:=∃ cs:List Nat,out=cs.map (fun c=>D.str ⟨#[c]⟩)/\cs.length=n/\∀ c∈cs,isLet c=true
theorem Lts.nil:Lts 0 []:=⟨[],rfl,rfl,fun c hc=>nomatch hc⟩
theorem Lts.push {n:Nat} {out:List D} {c:Nat} (h:Lts n out) (hc:isLet c=true):Lts (n+1) (out++[.str ⟨#[c]⟩]):=by
 obtain ⟨cs,rfl,hl,ha⟩:=h
 refine ⟨cs++[c],by simp,by simp [hl],fun d hd=>?_⟩
 rcases xal.mp hd with hd | hd
 ·exact ha d hd
 ·rw [xaC.mp hd]; exact hc
theorem Lts.join {n:Nat} {out:List D} (h:Lts n out) (hn:n<=100) :
  ∃ zs,gO out=some zs/\(zs.map (·.length)).sum+zs.length * (Str.ofString "").length<=16777216/\(Str.join "" zs).length=n/\lets (Str.join "" zs):=by
 obtain ⟨cs,rfl,hl,ha⟩:=h
 refine ⟨cs.map fun c=>⟨#[c]⟩,?_,?_,?_⟩
 ·rw [<- jK,xaG]; rfl
 ·rw [show (Str.ofString "").length=0 by decide,xaG,Nat.mul_zero,xcr]
  show (cs.map fun _=>1).sum<=_
  rw [pC]; lia
 ·have hw:=gG cs
  generalize Str.join "" (cs.map fun c=>(⟨#[c]⟩:Str))=word at hw ⊢
  refine ⟨?_,fun c hc=>ha c (by rwa [hw] at hc)⟩
  have:(sg word).length=n:=by rw [hw,hl]
  rw [<- this]; unfold sg Str.length; simp
theorem xj (l:List Str) (lo hi:Option Int):cutG (l.map D.str) lo hi=(cutG l lo hi).map D.str:=by
 unfold cutG
 rw [xaf,List.map_take,List.map_drop]
theorem A_ {α:Type} {l:List α} {a b:Int} (h0:0<=a) (h1:a<b) (h2:a<l.length):1<=(cutG l (some a) (some b)).length/\(cutG l (some a) (some b)).length<=l.length/\∀ x∈cutG l (some a) (some b),x∈l:=by
 have e:HT.sIx l.length 0 (some a)=a.toNat:=gZ h0 (by lia)
 have e2:a.toNat<HT.sIx l.length l.length (some b):=by
  simp only [HT.sIx]
  rw [if_neg (by lia)]
  lia
 unfold cutG
 rw [e,xaT,xbk]
 exact ⟨by lia,by lia,fun x hx=>xb9 (xbA hx)⟩
theorem qN (l:List Stp):(l.map stpK).map keyT=l.map stpD:=by rw [xaG]; rfl
abbrev Pr:=Str × Int
abbrev Ky:=Int × List Pr
def prK (p:Pr):List Key:=[.inr p.1,.inl p.2]
def prD (p:Pr):D:=.tup [.str p.1,.int p.2]
def kyD (k:Ky):D:=.tup [.int k.1,.list (k.2.map prD)]
def rsD (r:List Int):D:=.list (r.map .int)
def ltY (a b:Ky):Bool:=PySem.SeqAt.ltP 3 (kyD a).py (kyD b).py
def OkY (k:Ky):Prop:=∀ p∈k.2,PyData.strOk p.1=true
theorem ur (k:Ky):(kyD k).py=.tuple [.int k.1,.list (k.2.map L2.cH)]:=by
 show PyData.tuple [.int k.1,.list (pys (k.2.map prD))]=_
 rw [d_,xaG]
 rfl
theorem OkY.rkS {k:Ky} (h:OkY k):L2.rkS (kyD k).py:=⟨k.1,k.2,ur k,h⟩
theorem du (a:Ky) (h:OkY a):ltY a a=false:=L2.keyS.tot.irr _ h.rkS
theorem pL {a b c:Ky} (ha:OkY a) (hb:OkY b) (hc:OkY c):ltY a b=true->ltY b c=true->ltY a c=true:=L2.keyS.tot.tr _ _ _ ha.rkS hb.rkS hc.rkS
theorem yo {p q:Pr} (h:prD p=prD q):p=q:=by
 obtain ⟨a,b⟩:=p
 obtain ⟨c,d⟩:=q
 simp [prD] at h
 rw [h.1,h.2]
theorem zR {p q:Pr} (h:prK p=prK q):p=q:=by
 obtain ⟨a,b⟩:=p
 obtain ⟨c,d⟩:=q
 simp [prK] at h
 rw [h.1,h.2]
theorem map_inj {α β:Type} {f:α->β} (hf:∀ a b,f a=f b->a=b):∀ {l m:List α},l.map f=m.map f->l=m
 | [],[],_=>rfl
 | [],_ :: _,h=>by simp at h
 | _ :: _,[],h=>by simp at h
 | x :: l,y :: m,h=>by
  simp only [xap,List.cons.injEq] at h
  rw [hf _ _ h.1,map_inj hf h.2]
theorem sW {a b:Ky} (h:kyD a=kyD b):a=b:=by
 simp only [kyD,D.tup.injEq,List.cons.injEq,D.int.injEq,D.list.injEq] at h
 exact Prod.ext h.1 (map_inj (fun _ _=>yo) h.2.1)
theorem xx:∀ l:List Pr,nbs (l.map prD)=true
 | []=>rfl
 | x :: l=>by simp [nbs,xx l,prD,D.nb]
theorem Bb (k:Ky):(kyD k).nb=true:=by simp [kyD,D.nb,nbs,xx]
theorem q_ (a b:Ky):eqD (kyD a) (kyD b)=decide (a=b):=by
 rw [xa4,cZ _ _ (Bb a) (Bb b),decide_eq_true_iff]
 exact ⟨sW,fun e=>by rw [e]⟩
theorem rR {a b:Ky} (ha:OkY a) (hb:OkY b) (h1:ltY a b=false) (h2:ltY b a=false):a=b:=by
 have e:=L2.keyS.tot.tot _ _ ha.rkS hb.rkS h1 h2
 have:eqD (kyD a) (kyD b)=eqD (kyD a) (kyD a):=by unfold eqD; rw [e]
 rw [q_,q_] at this
 simpa using this
theorem zf {a b:Ky} (h:a.1<b.1):ltY a b=true:=by
 unfold ltY
 rw [ur,ur,PySem.SeqAt.ltP,PySem.SeqAt.lexP]
 have:PyData.eqv (.int a.1) (.int b.1)=false:=by
  have:a.1≠b.1:=by lia
  simpa [PyData.eqv] using this
 rw [this,if_neg xam,PySem.SeqAt.ltP]
 exact decide_eq_true h
theorem vX {k:Ky} (h:OkY k) (n:Nat):okD (n+3) (kyD k)=true:=by
 have:∀ p∈k.2.map prD,okD (n+1) p=true:=fun d hd=>by
  obtain ⟨p,hp,rfl⟩:=xak.mp hd
  simp [prD,okD,h p hp]
 simp only [kyD,okD,xbo,List.all_nil,xcm,Bool.true_and,xa8]
 exact this
theorem xR {l:List Ky} (h:∀ k∈l,OkY k) (n:Nat):okD (n+4) (.list (l.map kyD))=true:=by
 simp only [okD,xbO,xa8]
 exact fun k hk=>vX (h k hk) n
theorem Av (l:List Ky) (k:Ky):anyD (l.map kyD) (kyD k)=decide (k∈l):=by
 unfold anyD
 rw [List.any_map,xa4,xbE,decide_eq_true_iff]
 constructor
 ·rintro ⟨j,hj,e⟩
  have e:eqD (kyD j) (kyD k)=true:=e
  rw [q_,decide_eq_true_iff] at e
  rwa [<- e]
 ·exact fun hk=>⟨k,hk,by show eqD (kyD k) (kyD k)=true; rw [q_]; exact decide_eq_true rfl⟩
theorem jM:∀ l:List Int,nbs (l.map D.int)=true
 | []=>rfl
 | x :: l=>by simp [nbs,jM l,D.nb]
theorem uw (a b:List Int):eqD (.list (a.map .int)) (.list (b.map .int))=decide (a=b):=by
 rw [xa4,cZ _ _ (by simp [D.nb,jM]) (by simp [D.nb,jM]),decide_eq_true_iff]
 refine ⟨fun h=>map_inj (f:=D.int) (fun _ _=>D.int.inj) (D.list.inj h),fun e=>by rw [e]⟩
theorem bV (l:List Int) (n:Nat):okD (n+1) (.list (l.map .int))=true:=by
 simp [okD,xbO]
theorem to_f {α β:Type} {f:β->α} {P:β->Prop}:∀ {ks:List α},(∀ k∈ks,∃ s,k=f s/\P s)->∃ l:List β,ks=l.map f/\∀ s∈l,P s
 | [],_=>⟨[],rfl,fun s h=>nomatch h⟩
 | k :: ks,h=>by
  obtain ⟨s,rfl,p⟩:=h k xac
  obtain ⟨l,rfl,q⟩:=to_f fun k hk=>h k (xab _ hk)
  refine ⟨s :: l,rfl,fun t ht=>?_⟩
  rcases xag.mp ht with rfl | ht
  ·exact p
  ·exact q t ht
theorem kI {α:Type} {lt:α->α->Prop}:∀ {l m:List α},(∀ a∈l,∀ b∈l,lt a b->lt b a->False)->l.Pairwise lt->m.Pairwise lt->(∀ x,x∈l↔x∈m)->l=m
 | [],[],_,_,_,_=>rfl
 | [],y :: m,_,_,_,h=>absurd ((h y).mpr xac) (by simp)
 | x :: l,[],_,_,_,h=>absurd ((h x).mp xac) (by simp)
 | x :: l,y :: m,as,hl,hm,h=>by
  obtain ⟨a1,a2⟩:=xbl.mp hl
  obtain ⟨b1,b2⟩:=xbl.mp hm
  have e:x=y:=by
   rcases xag.mp ((h x).mp xac) with e | e
   ·exact e
   ·rcases xag.mp ((h y).mpr xac) with e' | e'
    ·exact e'.symm
    ·exact (as x xac y (xab _ e') (a1 y e') (b1 x e)).elim
  subst e
  have irr:¬ lt x x:=fun z=>as x xac x xac z z
  rw [kI (fun a ha b hb=>as a (xab _ ha) b (xab _ hb)) a2 b2 fun z=>⟨fun hz=>by
   rcases xag.mp ((h z).mp (xab _ hz)) with e | e
   ·subst e; exact absurd (a1 z hz) irr
   ·exact e,fun hz=>by
   rcases xag.mp ((h z).mpr (xab _ hz)) with e | e
   ·subst e; exact absurd (b1 z hz) irr
   ·exact e⟩]
def rk (ranks:List Int) (s:Int):Int:=ranks.getD s.toNat 0
structure KyIs (steps:List Stp) (ranks:List Int) (s:Int) (k:Ky):Prop where
 fst:k.1=rk ranks s
 up:k.2.Pairwise fun a b=>ltK (prK a) (prK b)=true
 mem:∀ p,p∈k.2↔∃ t∈steps,t.1=s/\p=(t.2.1,rk ranks t.2.2)
theorem KyIs.uniq {steps:List Stp} {ranks:List Int} {s:Int} {k j:Ky} (a:KyIs steps ranks s k) (b:KyIs steps ranks s j):k=j:=by
 have h2:k.2=j.2:=kI (fun x _ y _ h1 h2=>by have:=pU h1 h2; rw [nT] at this; cases this) a.up b.up fun p=>(a.mem p).trans (b.mem p).symm
 exact Prod.ext (a.fst.trans b.fst.symm) h2
theorem KyIs.ok {many:Int} {steps:List Stp} {ranks:List Int} {s:Int} {k:Ky} (a:KyIs steps ranks s k) (h:StIn many steps):OkY k:=fun p hp=>by
 obtain ⟨t,ht,_,rfl⟩:=(a.mem p).mp hp
 exact (h t ht).2.2.1.ok
structure RBy (many:Int) (steps:List Stp) (ranks r:List Int) (ky:Int->Ky) (diff:List Ky):Prop where
 len:r.length=many.toNat
 key:∀ s,0<=s->s<many->KyIs steps ranks s (ky s)
 up:diff.Pairwise fun a b=>ltY a b=true
 mem:∀ k,k∈diff↔∃ s,(0<=s/\s<many)/\k=ky s
 pos:∀ s,0<=s->s<many->0<=rk r s/\diff[(rk r s).toNat]? = some (ky s)
def RB (many:Int) (steps:List Stp) (ranks r:List Int):Prop:=∃ ky diff,RBy many steps ranks r ky diff
section
variable {many:Int} {steps:List Stp} {ranks r r2:List Int} {ky ky2:Int->Ky} {diff diff2:List Ky}
theorem RBy.ok (h:RBy many steps ranks r ky diff) (hin:StIn many steps) {k:Ky} (hk:k∈diff):OkY k:=by
 obtain ⟨s,hs,rfl⟩:=(h.mem k).mp hk
 exact (h.key s hs.1 hs.2).ok hin
theorem RBy.as (h:RBy many steps ranks r ky diff) (hin:StIn many steps):∀ a∈diff,∀ b∈diff,ltY a b=true->ltY b a=true->False:=fun a ha b hb h1 h2=>by
 have:=pL (h.ok hin ha) (h.ok hin hb) (h.ok hin ha) h1 h2
 rw [du a (h.ok hin ha)] at this
 cases this
theorem Ar {l m:List Int} (hl:l.length=many.toNat) (hm:m.length=many.toNat) (h:∀ s,0<=s->s<many->rk l s=rk m s):l=m:=by
 apply List.ext_getElem (by lia)
 intro i h1 h2
 have:=h (i:Nat) (by lia) (by lia)
 unfold rk at this
 simpa [List.getD,h1,h2] using this
theorem RBy.inj (h:RBy many steps ranks r ky diff) (hin:StIn many steps) {i j:Nat} {k:Ky} (hi:diff[i]? = some k) (hj:diff[j]? = some k):i=j:=by
 obtain ⟨hi1,hi2⟩:=xaj.mp hi
 obtain ⟨hj1,hj2⟩:=xaj.mp hj
 have hk:k∈diff:=xaB hi
 have irr:=du k (h.ok hin hk)
 have pw:=xaM.mp h.up
 rcases Nat.lt_trichotomy i j with e | e | e
 ·have:=pw i j hi1 hj1 e
  rw [hi2,hj2,irr] at this; cases this
 ·exact e
 ·have:=pw j i hj1 hi1 e
  rw [hi2,hj2,irr] at this; cases this
theorem RBy.same (h:RBy many steps ranks r ky diff) (h2:RBy many steps ranks r2 ky2 diff2) (hin:StIn many steps):r=r2:=by
 have ek:∀ s,0<=s->s<many->ky s=ky2 s:=fun s a b=>(h.key s a b).uniq (h2.key s a b)
 have ed:diff=diff2:=kI (h.as hin) h.up h2.up fun k=>by
  rw [h.mem,h2.mem]
  exact ⟨fun ⟨s,a,e⟩=>⟨s,a,e.trans (ek s a.1 a.2)⟩,fun ⟨s,a,e⟩=>⟨s,a,e.trans (ek s a.1 a.2).symm⟩⟩
 subst ed
 refine Ar h.len h2.len fun s a b=>?_
 have p1:=h.pos s a b
 have p2:=h2.pos s a b
 rw [<- ek s a b] at p2
 have:=h.inj hin p1.2 p2.2
 lia
theorem RB.uniq (h:RB many steps ranks r) (h2:RB many steps ranks r2) (hin:StIn many steps):r=r2:=by
 obtain ⟨_,_,h⟩:=h
 obtain ⟨_,_,h2⟩:=h2
 exact h.same h2 hin
theorem RBy.rF (h:RBy many steps ranks r ky diff) {s t:Int} (hs:0<=s/\s<many) (ht:0<=t/\t<many) (e:rk r s=rk r t):ky s=ky t:=by
 have p1:=(h.pos s hs.1 hs.2).2
 have p2:=(h.pos t ht.1 ht.2).2
 rw [e,p2] at p1
 exact (Option.some.inj p1).symm
theorem RBy.lt (h:RBy many steps ranks r ky diff) (hin:StIn many steps) {s t:Int} (hs:0<=s/\s<many) (ht:0<=t/\t<many):rk r s<rk r t↔ltY (ky s) (ky t)=true:=by
 have p1:=h.pos s hs.1 hs.2
 have p2:=h.pos t ht.1 ht.2
 have k1:=h.ok hin (xaB p1.2)
 have k2:=h.ok hin (xaB p2.2)
 obtain ⟨a1,a2⟩:=xaj.mp p1.2
 obtain ⟨b1,b2⟩:=xaj.mp p2.2
 have pw:=xaM.mp h.up
 constructor
 ·intro l
  have:=pw _ _ a1 b1 (by lia)
  rwa [a2,b2] at this
 ·intro l
  by_cases z:rk r t<rk r s
  ·have:=pw _ _ b1 a1 (by lia)
   rw [a2,b2] at this
   have:=pL k1 k2 k1 l this
   rw [du _ k1] at this; cases this
  ·by_cases z2:rk r s=rk r t
   ·have:=h.rF hs ht z2
    rw [this,du _ k2] at l; cases l
   ·lia
theorem RB.mono (h:RB many steps ranks r) (hin:StIn many steps) {s t:Int} (hs:0<=s/\s<many) (ht:0<=t/\t<many) (l:rk ranks s<rk ranks t):rk r s<rk r t:=by
 obtain ⟨ky,diff,h⟩:=h
 refine (h.lt hin hs ht).mpr (zf ?_)
 rw [(h.key s hs.1 hs.2).fst,(h.key t ht.1 ht.2).fst]
 exact l
theorem RB.fine (h:RB many steps ranks r) {s t:Int} (hs:0<=s/\s<many) (ht:0<=t/\t<many) (e:rk r s=rk r t):rk ranks s=rk ranks t:=by
 obtain ⟨ky,diff,h⟩:=h
 have:=h.rF hs ht e
 rw [<- (h.key s hs.1 hs.2).fst,<- (h.key t ht.1 ht.2).fst,this]
theorem RB.stp (h:RB many steps ranks r) (hin:StIn many steps) {t:Stp} (ht:t∈steps) {s:Int} (hs:0<=s/\s<many) (e:rk r t.1=rk r s):∃ u∈steps,u.1=s/\u.2.1=t.2.1/\rk ranks u.2.2=rk ranks t.2.2:=by
 obtain ⟨ky,diff,h⟩:=h
 have hk:=h.rF ⟨(hin t ht).1,(hin t ht).2.1⟩ hs e
 have hm:=((h.key t.1 (hin t ht).1 (hin t ht).2.1).mem (t.2.1,rk ranks t.2.2)).mpr ⟨t,ht,rfl,rfl⟩
 rw [hk] at hm
 obtain ⟨u,hu,e1,e2⟩:=((h.key s hs.1 hs.2).mem _).mp hm
 exact ⟨u,hu,e1,(Prod.mk.inj e2).1.symm,(Prod.mk.inj e2).2.symm⟩
def rA (many:Int) (r:List Int):Prop:=r.length=many.toNat/\(∀ s,0<=s->s<many->0<=rk r s/\rk r s<many)/\∀ s,0<=s->s<many->0<rk r s->∃ t,(0<=t/\t<many)/\rk r t=rk r s - 1
theorem RBy.short (h:RBy many steps ranks r ky diff) (hin:StIn many steps):diff.length<=many.toNat:=by
 have nd:diff.Nodup:=by
  rw [xbh]
  have:=xaM.mp h.up
  rw [xaM]
  intro i j hi hj hij e
  have z:=this i j hi hj hij
  rw [e,du _ (h.ok hin (xbe hj))] at z
  cases z
 have:=fL (m:=(aU many.toNat).map ky) nd fun k hk=>by
  obtain ⟨s,hs,rfl⟩:=(h.mem k).mp hk
  exact xak.mpr ⟨s,gj.mpr (by lia),rfl⟩
 rwa [xaf,fZ] at this
theorem RB.xg (h:RB many steps ranks r) (hin:StIn many steps):rA many r:=by
 obtain ⟨ky,diff,h⟩:=h
 have sh:=h.short hin
 refine ⟨h.len,fun s a b=>?_,fun s a b c=>?_⟩
 ·have p:=h.pos s a b
  have:=(xaj.mp p.2).1
  lia
 ·have p:=h.pos s a b
  have l:=(xaj.mp p.2).1
  have l2:(rk r s - 1).toNat<diff.length:=by lia
  obtain ⟨t,ht,e⟩:=(h.mem _).mp (xbe l2)
  have p2:=h.pos t ht.1 ht.2
  have:=h.inj hin p2.2 (xaj.mpr ⟨l2,e⟩)
  exact ⟨t,ht,by lia⟩
theorem RB.grows (h:RB many steps ranks r) (hin:StIn many steps) (d:rA many ranks):∀ (n:Nat) (s:Int),0<=s->s<many->rk ranks s=n->rk ranks s<=rk r s
 | 0,s,a,b,e=>by rw [e]; exact ((h.xg hin).2.1 s a b).1
 | n+1,s,a,b,e=>by
  obtain ⟨t,ht,et⟩:=d.2.2 s a b (by lia)
  have:=RB.grows h hin d n t ht.1 ht.2 (by lia)
  have:=h.mono hin ht ⟨a,b⟩ (by lia)
  lia
theorem RB.le (h:RB many steps ranks r) (hin:StIn many steps) (d:rA many ranks) {s:Int} (a:0<=s) (b:s<many):rk ranks s<=rk r s :=
 h.grows hin d (rk ranks s).toNat s a b (by have:=(d.2.1 s a b).1; lia)
end
theorem xX:∀ {l m:List Int},l.length=m.length->(∀ (i:Nat) (h1:i<l.length) (h2:i<m.length),l[i]<=m[i])->l.sum<=m.sum/\(l≠m->l.sum<m.sum)
 | [],[],_,_=>⟨by simp,fun h=>absurd rfl h⟩
 | [],y :: m,h,_=>by simp at h
 | x :: l,[],h,_=>by simp at h
 | x :: l,y :: m,h,hl=>by
  have ih:=xX (l:=l) (m:=m) (by simpa using h) fun i h1 h2=>by
   have:=hl (i+1) (by simp; lia) (by simp; lia)
   simpa using this
  have h0:x<=y:=by have:=hl 0 (by simp) (by simp); simpa using this
  simp only [List.sum_cons]
  refine ⟨by have:=ih.1; lia,fun ne=>?_⟩
  by_cases e:x=y
  ·subst e
   have:l≠m:=fun z=>ne (by rw [z])
   have:=ih.2 this
   lia
  ·have:=ih.1
   lia
theorem sum_bound {l:List Int} {b:Int} (h:∀ x∈l,x<=b) (hb:0<=b):l.sum<=l.length * b:=by
 induction l with
 | nil=>simp
 | cons x l ih =>
  have:=ih fun y hy=>h y (xab _ hy)
  have:=h x xac
  simp only [List.sum_cons,xaU]
  have e:((l.length+1:Nat):Int) * b=l.length * b+b:=by rw [Int.natCast_add,Int.add_mul]; simp
  lia
theorem zT {r:List Int} {i:Nat} (h:i<r.length):r[i]=rk r i:=by simp [rk,List.getD,h]
theorem RB.sum {many:Int} {steps:List Stp} {ranks r:List Int} (h:RB many steps ranks r) (hin:StIn many steps) (d:rA many ranks) (hm:0<=many) (ne:r≠ranks):ranks.sum<r.sum/\r.sum<=many * many:=by
 have d2:=h.xg hin
 have hl:=d.1
 have hl2:=d2.1
 refine ⟨(xX (by lia) fun i h1 h2=>?_).2 fun e=>ne e.symm,?_⟩
 ·rw [zT h1,zT h2]
  exact h.le hin d (by lia) (by lia)
 ·have:=sum_bound (l:=r) (b:=many) (fun x hx=>by
   obtain ⟨i,hi,rfl⟩:=List.mem_iff_getElem.mp hx
   rw [zT hi]
   have:=(d2.2.1 i (by lia) (by lia)).2
   lia) hm
  rwa [hl2,xa1 hm] at this
def Chain (many:Int) (steps:List Stp):List Int->List (List Int)->Prop
 | cur,[]=>RB many steps cur cur
 | cur,nxt :: rest=>RB many steps cur nxt/\nxt≠cur/\Chain many steps nxt rest
theorem Chain.uniq {many:Int} {steps:List Stp} (hin:StIn many steps):∀ {cur:List Int} {a b:List (List Int)},Chain many steps cur a->Chain many steps cur b->a=b
 | _,[],[],_,_=>rfl
 | _,[],y :: b,h,g=>absurd (g.1.uniq h hin) g.2.1
 | _,x :: a,[],h,g=>absurd (h.1.uniq g hin) h.2.1
 | _,x :: a,y :: b,h,g=>by
  have:=h.1.uniq g.1 hin
  subst this
  rw [Chain.uniq hin h.2.2 g.2.2]
def cT (cur:List Int) (rest:List (List Int)):List Int:=(cur :: rest).getLast (by simp)
theorem qy (cur nxt:List Int) (rest:List (List Int)):cT cur (nxt :: rest)=cT nxt rest:=by simp [cT]
theorem Chain.last {many:Int} {steps:List Stp}:∀ {cur:List Int} {rest:List (List Int)},Chain many steps cur rest->RB many steps (cT cur rest) (cT cur rest)
 | _,[],h=>h
 | cur,nxt :: rest,h=>by rw [qy]; exact h.2.2.last
def zeros (many:Int):List Int:=List.replicate many.toNat 0
theorem fu (many s:Int):rk (zeros many) s=0:=by
 unfold rk zeros
 by_cases h:s.toNat<many.toNat
 ·simp [List.getD,h]
 ·rw [List.getD,xaF (by simpa using h)]; rfl
theorem nW {many:Int} (h:1<=many):rA many (zeros many) :=
 ⟨by simp [zeros],fun s _ _=>by rw [fu]; lia,fun s _ _ z=>by rw [fu] at z; lia⟩
def Kinds (many:Int) (steps:List Stp) (k:List Int):Prop:=∃ rest,Chain many steps (zeros many) rest/\k=cT (zeros many) rest
theorem Kinds.uniq {many:Int} {steps:List Stp} (hin:StIn many steps) {k l:List Int} (h:Kinds many steps k) (g:Kinds many steps l):k=l:=by
 obtain ⟨a,ha,rfl⟩:=h
 obtain ⟨b,hb,rfl⟩:=g
 rw [ha.uniq hin hb]
theorem Kinds.stay {many:Int} {steps:List Stp} {k:List Int} (h:Kinds many steps k):RB many steps k k:=by
 obtain ⟨a,ha,rfl⟩:=h
 exact ha.last
theorem Kinds.len {many:Int} {steps:List Stp} {k:List Int} (h:Kinds many steps k):k.length=many.toNat:=by
 obtain ⟨ky,diff,r⟩:=h.stay
 exact r.len
theorem vM {ps:List Pr} (hl:ps.length<=63) {m:Md} {Q:Md->D->Prop} (k:∀ l:List Pr,l.Pairwise (fun a b=>ltK (prK a) (prK b)=true)->(∀ p,p∈l↔p∈ps)->Q (.ow true) (.list (l.map prD))) :
  dw m (.list (ps.map prD)) Q:=by
 refine ⟨ps.map prK,[true],by rw [xaG]; rfl,by rw [xaf]; exact hl,fun k hk=>?_,fun ms nd mm pw=>?_⟩
 ·obtain ⟨p,_,rfl⟩:=xak.mp hk
  rfl
 ·obtain ⟨l,rfl,hp⟩:=to_f (f:=prK) (P:=fun p=>p∈ps) (ks:=ms) fun k hk=>by
   obtain ⟨p,hp,e⟩:=xak.mp ((mm k).mp hk)
   exact ⟨p,e.symm,hp⟩
  have e:(l.map prK).map keyT=l.map prD:=by rw [xaG]; rfl
  rw [e]
  refine k l ?_ fun p=>⟨hp p,fun hp'=>?_⟩
  ·rw [xaK] at pw
   have nd':l.Pairwise fun a b=>prK a≠prK b:=by
    rw [List.Nodup,xaK] at nd
    exact nd
   refine (pw.and nd').imp fun {a b} ⟨h1,h2⟩=>?_
   cases h3:ltK (prK a) (prK b) with
   | true=>rfl
   | false=>exact absurd (lu (a:=prK a) (b:=prK b) rfl h3 h1) h2
  ·obtain ⟨q,hq,e⟩:=xak.mp ((mm (prK p)).mpr (xak.mpr ⟨p,hp',rfl⟩))
   rw [<- zR e]
   exact hq
def exS (steps:List Stp) (s:Int):List Pr:=(steps.filter fun t=>decide (t.1=s)).map (·.2)
def exL (many:Int) (steps:List Stp):List D:=(aU many.toNat).map fun s=>.list ((exS steps s).map prD)
def exD (many:Int) (steps:List Stp):D:=.list (exL many steps)
theorem Bd (many:Int):((ik 0 many.toNat).filter fun _=>true).map (fun _=>D.list [])=exL many []:=by
 unfold exL ik aU
 rw [xbF.mpr fun _ _=>rfl,xaG,xaG]
 rfl
theorem zm {many s:Int} (steps:List Stp) (h0:0<=s) (h1:s<many):(exL many steps)[s.toNat]? = some (.list ((exS steps s).map prD)):=by
 have:s.toNat<many.toNat:=by lia
 simp [exL,aU,this,xa1 h0]
theorem mZ (many:Int) (steps:List Stp):(exL many steps).length=many.toNat:=by simp [exL,aU]
theorem jH {n:Nat} {i:Int} (h0:0<=i) (h1:i<n):ixN n i=some i.toNat:=by unfold ixN; rw [if_pos h0,if_pos h1]
theorem vG (steps:List Stp) (p:Int) (d:Str) (r s:Int):exS (steps++[(p,d,r)]) s=if p=s then exS steps s++[(d,r)] else exS steps s:=by
 unfold exS
 by_cases h:p=s
 ·simp [h]
 ·simp [h]
theorem Cd {many p:Int} (steps:List Stp) (d:Str) (r:Int) (h0:0<=p) (h1:p<many):(exL many steps).set p.toNat (.list ((exS steps p).map prD++[.tup [.str d,.int r]]))=exL many (steps++[(p,d,r)]):=by
 apply xbg
 intro i
 by_cases hi:i<many.toNat
 ·have e:∀ st,(exL many st)[i]? = some (.list ((exS st (i:Nat)).map prD)):=fun st=>by
   have:=zm (many:=many) (s:=(i:Nat)) st (by lia) (by lia)
   simpa using this
  rw [e,vG]
  by_cases hp:p=(i:Nat)
  ·subst hp
   rw [if_pos rfl]
   simp [mZ,hi,prD]
  ·rw [if_neg hp,xbf (by lia),e]
 ·rw [xaF (by rw [xcd,mZ]; lia),xaF (by rw [mZ]; lia)]
theorem C_ {many s:Int} (steps:List Stp) (h0:0<=s) (h1:s<many):atI (exL many steps) s=some (.list ((exS steps s).map prD)) :=
 qz (jH h0 (by rw [mZ]; lia)) (zm steps h0 h1)
theorem BJ {many s:Int} {r:List Int} (hl:r.length=many.toNat) (h0:0<=s) (h1:s<many):atI (r.map D.int) s=some (.int (rk r s)):=by
 have h:s.toNat<r.length:=by lia
 refine qz (jH h0 (by rw [xaf]; lia)) ?_
 simp [rk,List.getD,h]
theorem uD {steps:List Stp} {s:Int} {p:Pr} (h:p∈exS steps s):∃ t∈steps,t.1=s/\t.2=p:=by
 obtain ⟨t,ht,e⟩:=xak.mp h
 obtain ⟨ht,hs⟩:=xbb.mp ht
 exact ⟨t,ht,of_decide_eq_true hs,e⟩
theorem zH {steps:List Stp} {t:Stp} (h:t∈steps):t.2∈exS steps t.1:=xak.mpr ⟨t,xbb.mpr ⟨h,decide_eq_true rfl⟩,rfl⟩
theorem sS (steps:List Stp) (s:Int):(exS steps s).length<=steps.length:=by
 unfold exS
 rw [xaf]
 exact List.length_filter_le _ _
theorem nG (many:Int):(List.replicate many.toNat [D.int 0]).flatten=(zeros many).map D.int:=by
 unfold zeros
 generalize many.toNat=n
 induction n with
 | zero=>rfl
 | succ n ih=>rw [xaX,xba,ih,xaX]; rfl
theorem tD:∀ {l:List Ky},l.Nodup->(∀ k∈l,OkY k)->∃ d:List Ky,d.Pairwise (fun a b=>ltY a b=true)/\∀ k,k∈d↔k∈l
 | [],_,_=>⟨[],.nil,fun k=>Iff.rfl⟩
 | x :: l,nd,ok=>by
  obtain ⟨hx,nd⟩:=xaD.mp nd
  obtain ⟨d,pw,mem⟩:=tD nd fun k hk=>ok k (xab _ hk)
  have okx:=ok x xac
  have okd:∀ k∈d,OkY k:=fun k hk=>ok k (xab _ ((mem k).mp hk))
  refine ⟨d.filter (fun a=>ltY a x)++x :: d.filter (fun a=>ltY x a),?_,fun k=>?_⟩
  ·refine xca.mpr ⟨pw.filter _,xbl.mpr ⟨fun b hb=>(xbb.mp hb).2,pw.filter _⟩,fun a ha b hb=>?_⟩
   obtain ⟨ha1,ha2⟩:=xbb.mp ha
   rcases xag.mp hb with rfl | hb
   ·exact ha2
   ·obtain ⟨hb1,hb2⟩:=xbb.mp hb
    exact pL (okd a ha1) okx (okd b hb1) ha2 hb2
  ·rw [xal,xag,xbb,xbb,xag,<- mem]
   constructor
   ·rintro (h | h | h)
    ·exact .inr h.1
    ·exact .inl h
    ·exact .inr h.1
   ·rintro (rfl | h)
    ·exact .inr (.inl rfl)
    ·cases h1:ltY k x with
     | true=>exact .inl ⟨h,rfl⟩
     | false =>
      cases h2:ltY x k with
      | true=>exact .inr (.inr ⟨h,rfl⟩)
      | false=>exact .inr (.inl (rR (okd k h) okx h1 h2))
theorem mj:∀ {d:List Ky},(∀ k∈d,OkY k)->d.Pairwise (fun a b=>ltY a b=true)->∀ (i:Nat) (k:Ky),d[i]? = some k->d.countP (fun a=>ltY a k)=i
 | [],_,_,i,k,h=>by simp at h
 | x :: d,ok,pw,i,k,h=>by
  obtain ⟨p1,p2⟩:=xbl.mp pw
  have okd:∀ k∈d,OkY k:=fun k hk=>ok k (xab _ hk)
  have okx:=ok x xac
  cases i with
  | zero =>
   cases h
   rw [xbD,du _ okx]
   have:d.countP (fun a=>ltY a x)=0:=List.countP_eq_zero.mpr fun a ha z=>by
    have:=pL okx (okd a ha) okx (p1 a ha) z
    rw [du _ okx] at this
    cases this
   rw [this]
   rfl
  | succ i =>
   have h:d[i]? = some k:=by simpa using h
   rw [xbD,mj okd p2 i k h,p1 k (xaB h)]
   rfl
theorem tH {d:List Ky} (ok:∀ k∈d,OkY k) (pw:d.Pairwise (fun a b=>ltY a b=true)):d.Nodup:=by
 rw [xbh]
 have:=xaM.mp pw
 rw [xaM]
 intro i j hi hj hij e
 have z:=this i j hi hj hij
 rw [e,du _ (ok _ (xbe hj))] at z
 cases z
theorem RB.vL {many:Int} {steps:List Stp} {ranks r:List Int} (hin:StIn many steps) (ky:Int->Ky) (dif:List Ky) (nd:dif.Nodup) (mem:∀ k,k∈dif↔∃ s,(0<=s/\s<many)/\k=ky s) (hl:r.length=many.toNat)
  (hk:∀ s,0<=s->s<many->KyIs steps ranks s (ky s)) (hr:∀ s,0<=s->s<many->rk r s=(dif.countP fun d=>ltY d (ky s):Nat)):RB many steps ranks r:=by
 have ok:∀ k∈dif,OkY k:=fun k hkm=>by
  obtain ⟨s,hs,rfl⟩:=(mem k).mp hkm
  exact (hk s hs.1 hs.2).ok hin
 obtain ⟨d,pw,md⟩:=tD nd ok
 have okd:∀ k∈d,OkY k:=fun k hkm=>ok k ((md k).mp hkm)
 have pm:d.Perm dif:=(List.perm_ext_iff_of_nodup (tH okd pw) nd).mpr md
 refine ⟨ky,d,hl,hk,pw,fun k=>(md k).trans (mem k),fun s a b=>?_⟩
 have hkd:ky s∈d:=(md _).mpr ((mem _).mpr ⟨s,⟨a,b⟩,rfl⟩)
 obtain ⟨i,hi⟩:=xa3.mp hkd
 have:=mj okd pw i _ hi
 rw [pm.countP_eq] at this
 rw [hr s a b,this]
 exact ⟨by lia,by simpa using hi⟩
theorem Chain.at {many:Int} {steps:List Stp}:∀ {cur:List Int} {rest:List (List Int)},Chain many steps cur rest->∀ (i:Nat) (a b:List Int),(cur :: rest)[i]? = some a->(cur :: rest)[i+1]? = some b->RB many steps a b/\b≠a
 | _,[],_,i,a,b,_,hb=>by simp at hb
 | cur,nxt :: rest,h,0,a,b,ha,hb=>by
  cases ha
  cases hb
  exact ⟨h.1,h.2.1⟩
 | cur,nxt :: rest,h,i+1,a,b,ha,hb=>h.2.2.at i a b (by simpa using ha) (by simpa using hb)
theorem Chain.end {many:Int} {steps:List Stp} {cur:List Int} {rest:List (List Int)} (h:Chain many steps cur rest) {a:List Int} (ha:(cur :: rest)[rest.length]? = some a):RB many steps a a:=by
 have:=h.last
 unfold cT at this
 rw [List.getLast_eq_getElem] at this
 have e:=(xaj.mp ha).2
 simp only [xaU,Nat.add_sub_cancel] at this
 rwa [e] at this
theorem RB.len {many:Int} {steps:List Stp} {ranks r:List Int} (h:RB many steps ranks r):r.length=many.toNat:=by
 obtain ⟨ky,diff,h⟩:=h
 exact h.len
def rowF (s:Int) (acc:List Str) (t:Stp):List Str:=if t.1=s/\t.2.1∉acc then acc++[t.2.1] else acc
def rowS (steps:List Stp) (s:Int):List Str:=steps.foldl (rowF s) []
theorem mL (steps:List Stp) (t:Stp) (s:Int):rowS (steps++[t]) s=rowF s (rowS steps s) t:=by unfold rowS; rw [List.foldl_append]; rfl
theorem pM {s:Int} {acc:List Str} {t:Stp} {d:Str}:d∈rowF s acc t↔d∈acc\/(t.1=s/\t.2.1=d):=by
 unfold rowF
 by_cases h:t.1=s/\t.2.1∉acc
 ·rw [if_pos h,xal,xaC]
  exact ⟨fun z=>z.imp id fun e=>⟨h.1,e.symm⟩,fun z=>z.imp id fun e=>e.2.symm⟩
 ·rw [if_neg h]
  refine ⟨.inl,fun z=>z.elim id fun ⟨a,b⟩=>?_⟩
  by_cases m:t.2.1∈acc
  ·rw [<- b]; exact m
  ·exact absurd ⟨a,m⟩ h
theorem pH {s:Int} {d:Str}:∀ {steps:List Stp} {acc:List Str},d∈steps.foldl (rowF s) acc↔d∈acc\/∃ t∈steps,t.1=s/\t.2.1=d
 | [],acc=>by simp
 | t :: l,acc=>by
  rw [xcc,pH,pM]
  constructor
  ·rintro ((h | h) | ⟨u,hu,h⟩)
   ·exact .inl h
   ·exact .inr ⟨t,xac,h⟩
   ·exact .inr ⟨u,xab _ hu,h⟩
  ·rintro (h | ⟨u,hu,h⟩)
   ·exact .inl (.inl h)
   ·rcases xag.mp hu with rfl | hu
    ·exact .inl (.inr h)
    ·exact .inr ⟨u,hu,h⟩
theorem jQ {steps:List Stp} {s:Int} {d:Str}:d∈rowS steps s↔∃ t∈steps,t.1=s/\t.2.1=d:=by
 unfold rowS
 rw [pH]
 simp
theorem Bf {t u:Stp} (h:ltP t u=true) (e:t.1=u.1):t.2.1=u.2.1\/L2.ltS t.2.1 u.2.1=true:=by
 obtain ⟨a,b,c⟩:=t
 obtain ⟨a',b',c'⟩:=u
 simp only at e
 subst e
 by_cases hb:b=b'
 ·exact .inl hb
 ·refine .inr ?_
  unfold ltP stpK at h
  simp only [ltK] at h
  rw [if_pos trivial,if_neg (by simpa using hb)] at h
  exact h
theorem rN {s:Int}:∀ {steps:List Stp} {acc:List Str},steps.Pairwise (fun a b=>ltP a b=true)->acc.Pairwise (fun a b=>L2.ltS a b=true)->(∀ d∈acc,∀ t∈steps,t.1=s->d=t.2.1\/L2.ltS d t.2.1=true)->(steps.foldl (rowF s) acc).Pairwise (fun a b=>L2.ltS a b=true)
 | [],_,_,h,_=>h
 | t :: l,acc,hp,h,hc=>by
  obtain ⟨p1,p2⟩:=xbl.mp hp
  rw [xcc]
  refine rN p2 ?_ fun d hd u hu e=>?_
  ·unfold rowF
   by_cases c:t.1=s/\t.2.1∉acc
   ·rw [if_pos c]
    refine xca.mpr ⟨h,by simp,fun a ha b hb=>?_⟩
    rw [xaC.mp hb]
    rcases hc a ha t xac c.1 with z | z
    ·rw [z] at ha; exact absurd ha c.2
    ·exact z
   ·rw [if_neg c]; exact h
  ·rcases pM.mp hd with hd | ⟨e1,e2⟩
   ·exact hc d hd u (xab _ hu) e
   ·rw [<- e2]
    exact Bf (p1 u hu) (e1.trans e.symm)
theorem yl {steps:List Stp} (s:Int) (h:steps.Pairwise (fun a b=>ltP a b=true)):(rowS steps s).Pairwise (fun a b=>L2.ltS a b=true):=rN h .nil fun d hd=>nomatch hd
theorem wH (s:Int) (acc:List Str) (t:Stp):(rowF s acc t).length<=acc.length+1:=by
 unfold rowF
 split
 ·simp
 ·lia
theorem pN {s:Int}:∀ {steps:List Stp} {acc:List Str},(steps.foldl (rowF s) acc).length<=acc.length+steps.length
 | [],acc=>by simp
 | t :: l,acc=>by
  have:=pN (s:=s) (steps:=l) (acc:=rowF s acc t)
  have:=wH s acc t
  rw [xcc,xaU]
  lia
theorem wu (steps:List Stp) (s:Int):(rowS steps s).length<=steps.length:=by
 have:=pN (s:=s) (steps:=steps) (acc:=[])
 unfold rowS
 simpa using this
def slD (l:List Str):D:=.list (l.map .str)
def rwL (many:Int) (steps:List Stp):List D:=(aU many.toNat).map fun s=>slD (rowS steps s)
theorem rw_nil (many:Int):((ik 0 many.toNat).filter fun _=>true).map (fun _=>D.list [])=rwL many []:=by
 unfold rwL ik aU
 rw [xbF.mpr fun _ _=>rfl,xaG,xaG]
 rfl
theorem rw_at {many s:Int} (steps:List Stp) (h0:0<=s) (h1:s<many):(rwL many steps)[s.toNat]? = some (slD (rowS steps s)):=by
 have:s.toNat<many.toNat:=by lia
 simp [rwL,aU,this,xa1 h0]
theorem rw_len (many:Int) (steps:List Stp):(rwL many steps).length=many.toNat:=by simp [rwL,aU]
theorem rw_ix {many s:Int} (steps:List Stp) (h0:0<=s) (h1:s<many):atI (rwL many steps) s=some (slD (rowS steps s)) :=
 qz (jH h0 (by rw [rw_len]; lia)) (rw_at steps h0 h1)
theorem rw_same {many p:Int} {steps:List Stp} {d:Str} {r:Int} (h:d∈rowS steps p):rwL many (steps++[(p,d,r)])=rwL many steps:=by
 unfold rwL
 refine xbq fun s _=>?_
 rw [mL]
 unfold rowF
 by_cases e:p=s
 ·subst e
  rw [if_neg fun z=>z.2 h]
 ·rw [if_neg fun z=>e z.1]
theorem rw_put {many p:Int} {steps:List Stp} {d:Str} {r:Int} (h0:0<=p) (h1:p<many) (h:d∉rowS steps p):(rwL many steps).set p.toNat (.list ((rowS steps p).map .str++[.str d]))=rwL many (steps++[(p,d,r)]):=by
 apply xbg
 intro i
 by_cases hi:i<many.toNat
 ·have e:∀ st,(rwL many st)[i]? = some (slD (rowS st (i:Nat))):=fun st=>by
   have:=rw_at (many:=many) (s:=(i:Nat)) st (by lia) (by lia)
   simpa using this
  rw [e,mL]
  unfold rowF
  by_cases hp:p=(i:Nat)
  ·subst hp
   rw [if_pos ⟨rfl,h⟩]
   simp [rw_len,hi,slD]
  ·rw [if_neg fun z=>hp z.1,xbf (by lia),e]
 ·rw [xaF (by rw [xcd,rw_len]; lia),xaF (by rw [rw_len]; lia)]
def kyS (l:List Str):Ky:=(0,l.map fun d=>(d,0))
theorem zc {a b:List Str} (h:kyS a=kyS b):a=b:=map_inj (f:=fun d:Str=>(d,(0:Int))) (fun _ _ e=>(Prod.mk.inj e).1) (Prod.mk.inj h).2
def OkS (l:List Str):Prop:=∀ x∈l,PyData.strOk x=true
theorem OkS.ky {l:List Str} (h:OkS l):OkY (kyS l):=fun p hp=>by
 obtain ⟨d,hd,rfl⟩:=xak.mp hp
 exact h d hd
theorem wM (l:List Str):(slD l).py=.list (l.map .str):=by
 show PyData.list (pys (l.map D.str))=_
 rw [d_,xaG]
 rfl
theorem uK:∀ a b:List Str,PySem.SeqAt.lexP (PySem.SeqAt.ltP 1) ((a.map fun d=>((d,(0:Int)):Pr)).map L2.cH) ((b.map fun d=>((d,(0:Int)):Pr)).map L2.cH)=PySem.SeqAt.lexP (PySem.SeqAt.ltP 2) (a.map PyData.str) (b.map PyData.str)
 | [],[]=>rfl
 | [],_ :: _=>rfl
 | _ :: _,[]=>rfl
 | x :: a,y :: b=>by
  simp only [xap,PySem.SeqAt.lexP]
  rw [uK a b]
  have e1:PyData.eqv (L2.cH (x,0)) (L2.cH (y,0))=PyData.eqv (.str x) (.str y):=by simp [L2.cH,PyData.eqv,PyData.eqvAll]
  rw [e1]
  cases e:PyData.eqv (.str x) (.str y) with
  | true=>rfl
  | false =>
   rw [if_neg xam,if_neg xam]
   simp [L2.cH,PySem.SeqAt.ltP,PySem.SeqAt.lexP,e]
theorem Al (a b:List Str):ltY (kyS a) (kyS b)=PySem.SeqAt.ltP 3 (slD a).py (slD b).py:=by
 unfold ltY kyS
 rw [ur,ur,wM,wM]
 show (if PyData.eqv (.list ((a.map fun d=>((d,(0:Int)):Pr)).map L2.cH)) (.list ((b.map fun d=>((d,(0:Int)):Pr)).map L2.cH))=true then false else PySem.SeqAt.ltP 2 _ _)=PySem.SeqAt.lexP (PySem.SeqAt.ltP 2) _ _
 rw [PySem.SeqAt.ltP,uK]
 cases e:PyData.eqv (.list ((a.map fun d=>((d,(0:Int)):Pr)).map L2.cH)) (.list ((b.map fun d=>((d,(0:Int)):Pr)).map L2.cH)) with
 | false=>rfl
 | true =>
  rw [if_pos rfl,<- uK]
  have:∀ l m:List PyData,PyData.eqvAll l m=true->PySem.SeqAt.lexP (PySem.SeqAt.ltP 1) l m=false:=by
   intro l
   induction l with
   | nil =>
    intro m h
    cases m with
    | nil=>rfl
    | cons y m=>simp [PyData.eqvAll] at h
   | cons x l ih =>
    intro m h
    cases m with
    | nil=>rfl
    | cons y m =>
     simp only [PyData.eqvAll,xaA] at h
     rw [PySem.SeqAt.lexP,h.1,if_pos rfl]
     exact ih m h.2
  exact (this _ _ (by simpa [PyData.eqv] using e)).symm
theorem zr {many:Int} {steps:List Stp} (pw:steps.Pairwise (fun a b=>ltP a b=true)) (s:Int):KyIs steps (zeros many) s (kyS (rowS steps s)):=by
 refine ⟨(fu many s).symm,?_,fun p=>?_⟩
 ·show ((rowS steps s).map fun d=>((d,(0:Int)):Pr)).Pairwise _
  rw [xaK]
  refine (yl s pw).imp fun {a b} h=>?_
  unfold prK
  simp only [ltK]
  rw [if_neg fun e=>?_]
  ·exact h
  ·cases e
   rw [ou] at h
   cases h
 ·constructor
  ·intro hp
   obtain ⟨d,hd,rfl⟩:=xak.mp hp
   obtain ⟨t,ht,e1,e2⟩:=jQ.mp hd
   exact ⟨t,ht,e1,by rw [fu,e2]⟩
  ·rintro ⟨t,ht,e1,rfl⟩
   rw [fu]
   exact xak.mpr ⟨t.2.1,jQ.mpr ⟨t,ht,e1,rfl⟩,rfl⟩
theorem tY (l:List Str):(l.map D.str).all dB=true:=by
 rw [xbO,xa8]
 exact fun _ _=>rfl
theorem ym (x:Str) (l:List Str):inD (.str x) (l.map D.str)=decide (x∈l):=by
 unfold inD
 rw [List.any_map,xa4,xbE,decide_eq_true_iff]
 constructor
 ·rintro ⟨y,hy,e⟩
  have e:eqD (.str y) (.str x)=true:=e
  rw [cZ _ _ rfl rfl] at e
  cases e
  exact hy
 ·exact fun h=>⟨x,h,(cZ _ _ rfl rfl).mpr rfl⟩
theorem vI (l:List Str):(slD l).nb=true:=by
 show nbs (l.map D.str)=true
 induction l with
 | nil=>rfl
 | cons x l ih=>simp [nbs,D.nb,ih]
theorem z8 {a b:List Str} (h:slD a=slD b):a=b:=map_inj (f:=D.str) (fun _ _=>D.str.inj) (D.list.inj h)
theorem wY {l:List Str} (h:OkS l) (n:Nat):okD (n+2) (slD l)=true:=by
 simp only [slD,okD,xbO,xa8]
 exact fun x hx=>h x hx
theorem BP (l:List (List Str)) (k:List Str):anyD (l.map slD) (slD k)=decide (k∈l):=by
 unfold anyD
 rw [List.any_map,xa4,xbE,decide_eq_true_iff]
 constructor
 ·rintro ⟨j,hj,e⟩
  have e:eqD (slD j) (slD k)=true:=e
  rw [cZ _ _ (vI j) (vI k)] at e
  rwa [<- z8 e]
 ·exact fun hk=>⟨k,hk,(cZ _ _ (vI k) (vI k)).mpr rfl⟩
theorem CT (a b:List Str):PySem.SeqAt.CmP 3 (slD a).py (slD b).py:=by
 rw [wM,wM,PySem.SeqAt.CmP]
 intro j x y hx hy _
 rw [xaH] at hx hy
 obtain ⟨u,_,rfl⟩:=xbK.mp hx
 obtain ⟨v,_,rfl⟩:=xbK.mp hy
 rw [PySem.SeqAt.CmP]
 trivial
def gh:WS :=
 (wSeq (wSet 1 (dC (cQ (wOp fIx (wVar 0) (wC (.int 0)))) (gN 0) wYes (wLst wNil) 1 []))
 (wSeq (wFrz 0 (wFor (eX (wOp fIx (wVar 0) (wC (.int 1)))) (gT 3 (dU (gN 2) (dU (gN 3) (dU (gN 4) qj))))
 (wFrz 4 (wFrz 3 (wApp (wpIx (wpN 1) (wVar 2)) (wTup (aB (wVar 3) (aB (wVar 4) wNil))))))))
 (uX 1)))
def bx:SpD:=fun ds Q=>∃ (many:Int) (steps:List Stp),ds=[mD many steps]/\(0<=many/\many<=63)/\StIn many steps/\steps.length<=63/\Q (.ow true) (exD many steps)
theorem m_ (ds Q) (h:bx ds Q):ds.length=["m"].length:=by obtain ⟨_,_,rfl,_⟩:=h; rfl
theorem qU:∀ ds Q,bx ds Q->gh { nx:=fun _=>Q .sh .non,rt:=Q } (bH 5 ds):=by
 rintro ds Q ⟨many,steps,rfl,hm,hin,hl,h⟩
 unfold gh mD
 walk_at "q"
 refine ⟨by lia,by lia,?_⟩
 refine cP (fun _=>true) (fun _=>.list []) (fun ρ=>∃ o,ρ=[o]) _ _ _ ⟨_,rfl⟩ ?_ ?_
 ·rintro x hx ρ ⟨o,rfl⟩ N1 N2 n1 n2
  walk_at "q"
  exact ⟨.inr rfl,n2 _ ⟨_,rfl⟩ rfl⟩
 rw [Bd]
 refine eQ _ (fun i ρ=>∃ o2 o3 o4,ρ=[some (.sh (.tup [.int many,.list (steps.map stpD)])),some (.ow true (.list (exL many (steps.take i)))),o2,o3,o4]) ⟨none,none,none,by simp⟩ ?_ ?_
 ·rintro i x ρ hx ⟨o2,o3,o4,rfl⟩ N hN
  obtain ⟨p,d,r,rfl,hs,ht⟩:=xV hx
  have ok:=hin _ hs
  walk_at "q"
  refine ⟨p.toNat,.list ((exS (steps.take i) p).map prD),jH ok.1 (by rw [mZ]; have:=ok.2.1; lia),zm _ ok.1 ok.2.1,rfl,?_⟩
  walk_at "q"
  refine ⟨?_,?_⟩
  ·have:=sS (steps.take i) p
   have:(steps.take i).length<=steps.length:=by rw [xaT]; lia
   lia
  ·refine hN _ ⟨some (.sh (.int p)),some (.sh (.str d)),some (.sh (.int r)),?_⟩
   rw [Cd _ _ _ ok.1 ok.2.1,<- ht]
 ·rintro ρ ⟨o2,o3,o4,rfl⟩
  walk_at "q"
  rw [xbS]
  exact h
def kJ:WS :=
 (wRet (wTup (aB (wOp fIx (wVar 1) (wVar 2)) (aB (wUn dw (dC (gA (wOp fIx (wVar 0) (wVar 2))) (gT 2 (dU (gN 0) (dU (gN 1) qj))) wYes (wTup (aB (wVar 0) (aB (wOp fIx (wVar 2) (wVar 1)) wNil))) 2 [1])) wNil))))
def cI:SpD:=fun ds Q=>∃ (many:Int) (steps:List Stp) (ranks:List Int) (s:Int),ds=[exD many steps,.list (ranks.map .int),.int s]/\(0<=s/\s<many)/\ranks.length=many.toNat/\StIn many steps/\steps.length<=63/\∀ k,KyIs steps ranks s k->Q (.ow true) (kyD k)
theorem qY (ds Q) (h:cI ds Q):ds.length=["exits", "ranks", "state"].length:=by obtain ⟨_,_,_,_,rfl,_⟩:=h; rfl
theorem wA:∀ ds Q,cI ds Q->kJ { nx:=fun _=>Q .sh .non,rt:=Q } (bH 3 ds):=by
 rintro ds Q ⟨many,steps,ranks,s,rfl,hs,hr,hin,hl,h⟩
 unfold kJ exD
 walk_at "q"
 refine ⟨_,BJ hr hs.1 hs.2,?_⟩
 walk_at "q"
 refine ⟨_,C_ steps hs.1 hs.2,?_⟩
 walk_at "q"
 refine cP (fun _=>true) (fun d=>match d with
  | .tup [.str x,.int e]=>.tup [.str x,.int (rk ranks e)]
  | d=>d) (fun ρ=>∃ o0 o1,ρ=[o0,o1,some (.sh (.list (ranks.map .int)))]) _ _ _ ⟨_,_,rfl⟩ ?_ ?_
 ·rintro x hx ρ ⟨o0,o1,rfl⟩ N1 N2 n1 n2
  obtain ⟨p,hp,rfl⟩:=xak.mp hx
  obtain ⟨t,ht,e1,e2⟩:=uD hp
  obtain ⟨x,e⟩:=p
  have ok:=hin t ht
  obtain ⟨t1,t2,t3⟩:=t
  cases e2
  unfold prD
  walk_at "q"
  refine ⟨_,BJ hr ok.2.2.2.1 ok.2.2.2.2,?_⟩
  walk_at "q"
  exact ⟨.inl rfl,n2 _ ⟨_,_,rfl⟩ rfl⟩
 have e1:((exS steps s).map prD |>.filter fun _=>true).map (fun d=>match d with
   | .tup [.str x,.int e]=>.tup [.str x,.int (rk ranks e)]
   | d=>d)=((exS steps s).map fun p=>(p.1,rk ranks p.2)).map prD:=by
  rw [xbF.mpr fun _ _=>rfl,xaG,xaG]
  rfl
 rw [e1]
 refine vM (ps:=(exS steps s).map fun p=>(p.1,rk ranks p.2)) (m:=.ow true) (Q:=fun _ d=>Q (.ow true) (.tup [.int (rk ranks s),d])) (by rw [xaf]; exact xaq (sS steps s) hl) fun l up mem=>?_
 refine h (rk ranks s,l) ⟨rfl,up,fun p=>(mem p).trans ⟨fun hp=>?_,fun hp=>?_⟩⟩
 ·obtain ⟨q,hq,rfl⟩:=xak.mp hp
  obtain ⟨t,ht,e1,rfl⟩:=uD hq
  exact ⟨t,ht,e1,rfl⟩
 ·obtain ⟨t,ht,rfl,rfl⟩:=hp
  exact xak.mpr ⟨t.2,zH ht,rfl⟩
def cC:WS :=
 (wSeq (wIfS (wB (wOp fLt (wVar 1) (wUn fLen (wVar 0))))
 (wRet (wOp fIx (wVar 0) (wVar 1)))
 dX)
 (wRet (wC (.int 0))))
def az:SpD:=fun ds Q=>∃ (ns:List Int) (k:Int),ds=[.list (ns.map .int),.int k]/\0<=k/\Q .sh (.int (ns.getD k.toNat 0))
theorem gP (ds Q) (h:az ds Q):ds.length=["_law_script", "_law_k"].length:=by obtain ⟨_,_,rfl,_⟩:=h; rfl
theorem jm:∀ ds Q,az ds Q->cC { nx:=fun _=>Q .sh .non,rt:=Q } (bH 2 ds):=by
 rintro ds Q ⟨ns,k,rfl,hk,h⟩
 unfold cC
 walk_at "q"
 refine R.D (fun hl=>?_) fun hl=>?_
 ·walk_at "q"
  have hn:k.toNat<ns.length:=by lia
  refine ⟨.int ns[k.toNat],?_,?_⟩
  ·have:=atI_nat (xs:=ns.map D.int) (j:=k.toNat) (v:=.int ns[k.toNat]) (by simp [hn])
   rwa [xa1 hk] at this
  ·show Q .sh _; simpa [List.getD,hn] using h
 ·walk_at "q"
  have:ns.getD k.toNat 0=0:=by
   have:ns.length<=k.toNat:=by lia
   simp [List.getD,xaF this]
  rwa [this] at h
def bM:WS :=
 (wSeq (wFor (cQ (wC (.int 6))) (gN 7)
 (wSeq (wSet 8 (iB (wC (.str "")) (dC (cQ (wVar 3)) (gN 0) wYes (wOp fIx (wVar 4) (wOp fMod (wOp fAdd (wOp fIx (wVar 2) (wVar 0)) (wOp fMul (wVar 3) (wUn fInt (wOp fEq (wVar 0) (wVar 1))))) (wC (.int 26)))) 1 [4,5,7,2])))
 (wSeq (wIfS (wB (wOp fEq (wOp fMod (wVar 1) (wC (.int 4))) (wC (.int 1))))
 (wSet 8 (iB (wC (.str "")) (dC (cQ (wOp fAdd (wVar 7) (wC (.int 1)))) (gN 0) wYes (wOp fIx (wVar 2) (wOp fIx (wVar 1) (wVar 0))) 1 [5,2])))
 dX)
 (wSeq (wIfS (wB (wOp fEq (wOp fMod (wVar 1) (wC (.int 4))) (wC (.int 2))))
 (wSeq (wSet 9 (dC (cQ (wOp fMod (wOp fAdd (wOp fIx (wVar 5) (wOp fSub (wC (.int 5)) (wVar 7))) (wVar 7)) (wC (.int 6)))) (gN 0) wYes (wOp fIx (wVar 2) (wOp fIx (wVar 1) (wVar 0))) 1 [5,2]))
 (wSet 8 (wOp fAdd (wOp fIx (wVar 2) (wOp fMod (wOp fAdd (wOp fIx (wVar 5) (wC (.int 0))) (wOp fMul (wC (.int 11)) (wVar 7))) (wC (.int 26)))) (iB (wC (.str "")) (wVar 9)))))
 dX)
 (wSeq (wIfS (wB (wOp fEq (wOp fMod (wVar 1) (wC (.int 4))) (wC (.int 3))))
 (wSet 8 (iB (wC (.str "")) (dC (cQ (wC (.int 6))) (gN 0) wYes (wOp fIx (wVar 3) (wOp fMod (wOp fAdd (wOp fIx (wVar 1) (wC (.int 0))) (wOp fMod (wOp fAdd (wVar 0) (wVar 2)) (wC (.int 6)))) (wC (.int 26)))) 1 [5,7,2])))
 dX)
 (wFrz 8 (wApp (wpN 6) (wVar 8))))))))
 (wSeq (wSet 10 (wOp fMod (wOp fDiv (wVar 1) (wC (.int 4))) (wC (.int 2))))
 (wRet (wSl (wOp fAdd (wLst (aB (wC (.str "*")) wNil)) (wVar 6)) (jo (wVar 10)) (jo (wOp fAdd (wOp fAdd (wVar 10) (wC (.int 1))) (wOp fMod (wOp fDiv (wVar 1) (wC (.int 8))) (wC (.int 7)))))))))
def eE:WS :=
 (wSeq (wSet 2 (wC (.str "abcdefghijklmnopqrstuvwxyz")))
 (wSeq (wSet 3 (wOp fAdd (wC (.int 1)) (wOp fMod (wVar 0) (wC (.int 6)))))
 (wSeq (wSet 4 (wOp fMod (wOp fDiv (wVar 0) (wC (.int 6))) (wVar 3)))
 (wSeq (wSet 5 (dC (cQ (wC (.int 6))) (gN 0) wYes (wOp fMod (wOp fAdd (wOp fDiv (wOp fDiv (wVar 1) (wC (.int 36))) (wOp fAdd (wVar 0) (wC (.int 1)))) (wOp fMul (wVar 0) (wVar 0))) (wC (.int 26))) 1 [0]))
 (wSeq (wSet 6 (wLst wNil))
 bM)))))
def bc:SpD:=fun ds Q=>∃ c o:Int,ds=[.int c,.int o]/\∀ names:List Str,1<=names.length->names.length<=7->(∀ n∈names,Deed n)->Q (.ow true) (.list (names.map .str))
theorem lG (ds Q) (h:bc ds Q):ds.length=["_law_cell", "_law_other"].length:=by obtain ⟨_,_,rfl,_⟩:=h; rfl
theorem lC (Q:Md->D->Prop) (c size at' kind:Int) (base:List Int) (hs:1<=size/\size<=6) (hb:base.length=6) (hbb:∀ b∈base,0<=b/\b<26)
  (h:∀ names:List Str,1<=names.length->names.length<=7->(∀ n∈names,Deed n)->Q (.ow true) (.list (names.map .str))) :
  bM { nx:=fun _=>Q .sh .non,rt:=Q } [some (.sh (.int c)),some (.sh (.int kind)),some (.sh (.str abc)),some (.sh (.int size)),some (.sh (.int at')),some (.ow true (.list (base.map .int))),some (.ow true (.list [])),none,none,none,none]:=by
 unfold bM
 walk_at "q"
 refine eQ _ (fun i ρ=>∃ (words:List Str) (o7 o8 o9:Option Sl),words.length=i/\(∀ n∈words,Open n)/\ρ=[some (.sh (.int c)),some (.sh (.int kind)),some (.sh (.str abc)),some (.sh (.int size)),some (.sh (.int at')),some (.ow true (.list (base.map .int))),some (.ow true (.list (words.map .str))),o7,o8,o9,none]) ⟨[],_,_,_,rfl,(fun n hn=>nomatch hn),rfl⟩ ?_ ?_
 ·rintro i x ρ hx ⟨words,o7,o8,o9,hl,ho,rfl⟩ N hN
  obtain ⟨hi,rfl⟩:=cB hx
  have hi:i<6:=hi
  have push:∀ (w:Str) (o9':Option Sl),Open w->N [some (.sh (.int c)),some (.sh (.int kind)),some (.sh (.str abc)),some (.sh (.int size)),some (.sh (.int at')),some (.ow true (.list (base.map .int))),some (.ow true (.list (words.map .str++[.str w]))),some (.sh (.int (0+(i:Nat)))),some (.sh (.str w)),o9',none]:=fun w o9' hw=>by
   rw [vm]
   refine hN _ ⟨words++[w],_,_,_,by simp [hl],fun n hn=>?_,rfl⟩
   rcases xal.mp hn with hn | hn
   ·exact ho n hn
   ·rw [xaC.mp hn]; exact hw
  walk_at "q"
  refine ⟨by lia,by lia,?_⟩
  refine bF (fun n out=>Lts n out) (fun ρ=>∃ o,ρ=[o,some (.sh (.int at')),some (.sh (.list (base.map .int))),some (.sh (.int (0+(i:Nat)))),some (.sh (.str abc))]) _ 0 [] _ _ ⟨_,rfl⟩ Lts.nil ?_ ?_
  ·rintro j y hy ρ ⟨o,rfl⟩ out ho N1 N2 hN2
   obtain ⟨hj,rfl⟩:=cB hy
   walk_at "q"
   obtain ⟨b,_,eb⟩:=fY (l:=base) (i:=0+(j:Nat)) (by lia) (by lia)
   refine ⟨.int b,eb,?_⟩
   walk_at "q"
   refine ⟨jD (by lia) (by lia),?_⟩
   obtain ⟨ch,ec,lc⟩:=oA (b+(0+(i:Nat)) * (if decide (0+(j:Int)=at')=true then 1 else 0))
   refine ⟨ch,ec,.inl rfl,hN2 _ _ ⟨_,rfl⟩ ?_⟩
   rw [xa5] at ho ⊢
   exact ho.push lc
  intro out hout
  rw [cN] at hout
  simp only [xa5,xbx] at hout
  obtain ⟨zs,ez,zl,wl0,we0⟩:=hout.join (by lia)
  refine ⟨zs,ez,zl,?_⟩
  generalize Str.join _ zs=w0 at *
  have hw0:Open w0:=⟨by lia,by lia,we0⟩
  clear ez zl
  rcases (show kind % 4=0\/kind % 4=1\/kind % 4=2\/kind % 4=3 by lia) with e4 | e4 | e4 | e4 <;> rw [e4]
  ·refine R.F (by decide) ?_
   walk_at "q"
   rw [e4]
   refine R.F (by decide) ?_
   walk_at "q"
   rw [e4]
   refine R.F (by decide) ?_
   walk_at "q"
   exact ⟨by lia,push w0 _ hw0⟩
  ·refine R.T (by decide) ?_
   walk_at "q"
   refine ⟨by lia,by lia,?_⟩
   refine bF (fun n out=>Lts n out) (fun ρ=>∃ o,ρ=[o,some (.sh (.list (base.map .int))),some (.sh (.str abc))]) _ 0 [] _ _ ⟨_,rfl⟩ Lts.nil ?_ ?_
   ·rintro j y hy ρ ⟨o,rfl⟩ out ho N1 N2 hN2
    obtain ⟨hj,rfl⟩:=cB hy
    walk_at "q"
    obtain ⟨b,mb,eb⟩:=fY (l:=base) (i:=0+(j:Nat)) (by lia) (by lia)
    refine ⟨.int b,eb,?_⟩
    walk_at "q"
    obtain ⟨ch,ec,lc⟩:=uV (hbb b mb).1 (hbb b mb).2
    refine ⟨ch,ec,.inl rfl,hN2 _ _ ⟨_,rfl⟩ ?_⟩
    rw [xa5] at ho ⊢
    exact ho.push lc
   intro out hout
   rw [cN] at hout
   simp only [xa5,xbx] at hout
   obtain ⟨zs,ez,zl,wl1,we1⟩:=hout.join (by lia)
   refine ⟨zs,ez,zl,?_⟩
   generalize Str.join _ zs=w1 at *
   rw [e4]
   refine R.F (by decide) ?_
   walk_at "q"
   rw [e4]
   refine R.F (by decide) ?_
   walk_at "q"
   exact ⟨by lia,push w1 _ ⟨by lia,by lia,we1⟩⟩
  ·refine R.F (by decide) ?_
   walk_at "q"
   rw [e4]
   refine R.T (by decide) ?_
   walk_at "q"
   obtain ⟨b5,mb5,eb5⟩:=fY (l:=base) (i:=5 - (0+(i:Nat))) (by lia) (by lia)
   refine ⟨.int b5,eb5,?_⟩
   walk_at "q"
   refine ⟨by lia,by lia,?_⟩
   refine bF (fun n out=>Lts n out) (fun ρ=>∃ o,ρ=[o,some (.sh (.list (base.map .int))),some (.sh (.str abc))]) _ 0 [] _ _ ⟨_,rfl⟩ Lts.nil ?_ ?_
   ·rintro j y hy ρ ⟨o,rfl⟩ out ho N1 N2 hN2
    obtain ⟨hj,rfl⟩:=cB hy
    walk_at "q"
    obtain ⟨b,mb,eb⟩:=fY (l:=base) (i:=0+(j:Nat)) (by lia) (by lia)
    refine ⟨.int b,eb,?_⟩
    walk_at "q"
    obtain ⟨ch,ec,lc⟩:=uV (hbb b mb).1 (hbb b mb).2
    refine ⟨ch,ec,.inl rfl,hN2 _ _ ⟨_,rfl⟩ ?_⟩
    rw [xa5] at ho ⊢
    exact ho.push lc
   intro out hout
   rw [cN] at hout
   simp only [xa5,xbx] at hout
   obtain ⟨b0,mb0,eb0⟩:=fY (l:=base) (i:=0) (by lia) (by lia)
   refine ⟨.int b0,eb0,?_⟩
   walk_at "q"
   obtain ⟨ch,ec,lc⟩:=oA (b0+11 * (0+(i:Nat)))
   refine ⟨jD (by lia) (by lia),ch,ec,?_⟩
   obtain ⟨zs,ez,zl,wl1,we1⟩:=hout.join (by lia)
   refine ⟨zs,ez,zl,?_⟩
   generalize Str.join _ zs=w1 at *
   refine ⟨by rw [fX]; lia,?_⟩
   rw [e4]
   refine R.F (by decide) ?_
   walk_at "q"
   exact ⟨by lia,push _ _ ⟨by rw [b7,fX]; lia,by rw [b7,fX]; lia,xq (wR lc) we1⟩⟩
  ·refine R.F (by decide) ?_
   walk_at "q"
   rw [e4]
   refine R.F (by decide) ?_
   walk_at "q"
   rw [e4]
   refine R.T (by decide) ?_
   walk_at "q"
   refine bF (fun n out=>Lts n out) (fun ρ=>∃ o,ρ=[o,some (.sh (.list (base.map .int))),some (.sh (.int (0+(i:Nat)))),some (.sh (.str abc))]) _ 0 [] _ _ ⟨_,rfl⟩ Lts.nil ?_ ?_
   ·rintro j y hy ρ ⟨o,rfl⟩ out ho N1 N2 hN2
    obtain ⟨hj,rfl⟩:=cB hy
    walk_at "q"
    obtain ⟨b,mb,eb⟩:=fY (l:=base) (i:=0) (by lia) (by lia)
    refine ⟨.int b,eb,?_⟩
    walk_at "q"
    obtain ⟨ch,ec,lc⟩:=oA (b+(0+(j:Int)+(0+(i:Nat))) % 6)
    refine ⟨ch,ec,.inl rfl,hN2 _ _ ⟨_,rfl⟩ ?_⟩
    rw [xa5] at ho ⊢
    exact ho.push lc
   intro out hout
   rw [cN] at hout
   simp only [xa5,xbx] at hout
   obtain ⟨zs,ez,zl,wl1,we1⟩:=hout.join (by decide)
   refine ⟨zs,ez,zl,?_⟩
   generalize Str.join _ zs=w1 at *
   exact ⟨by lia,push w1 _ ⟨by rw [wl1]; decide,by rw [wl1]; decide,we1⟩⟩
 ·rintro ρ ⟨words,o7,o8,o9,hl,ho,rfl⟩
  rw [cN] at hl
  walk_at "q"
  refine ⟨by lia,.inl ⟨iZ words,?_⟩⟩
  refine .inl ⟨iZ words,?_⟩
  have e:(D.str "*" :: words.map D.str)=(("*" : Str) :: words).map D.str:=rfl
  rw [e,xj]
  have hc:=A_ (l:=("*" : Str) :: words) (a:=kind / 4 % 2) (b:=kind / 4 % 2+1+kind / 8 % 7) (by lia) (by lia) (by simp; lia)
  refine h _ hc.1 (xaq hc.2.1 (by simp; lia)) fun n hn=>?_
  rcases xag.mp (hc.2.2 n hn) with rfl | hn
  ·exact .inl rfl
  ·exact .inr (ho n hn)
theorem nM:∀ ds Q,bc ds Q->eE { nx:=fun _=>Q .sh .non,rt:=Q } (bH 11 ds):=by
 rintro ds Q ⟨c,o,rfl,h⟩
 obtain ⟨w5,e5⟩:∃ w5,w5=bM:=⟨_,rfl⟩
 unfold eE
 rw [<- e5]
 walk_at "q"
 refine ⟨by lia,?_⟩
 refine bF (fun n out=>∃ bs:List Int,out=bs.map .int/\bs.length=n/\∀ b∈bs,0<=b/\b<26) (fun ρ=>∃ o,ρ=[o,some (.sh (.int c))]) _ 0 [] _ _ ⟨_,rfl⟩ ⟨[],rfl,rfl,fun b hb=>nomatch hb⟩ ?_ ?_
 ·rintro j y hy ρ ⟨o,rfl⟩ out ⟨bs,rfl,hl,hbb⟩ N1 N2 hN2
  have hj:=(cB hy).1
  obtain ⟨hj,rfl⟩:=cB hy
  walk_at "q"
  refine ⟨by lia,uB (by lia) (by lia),.inl rfl,hN2 _ _ ⟨_,rfl⟩ ⟨bs++[(c / 36 / (0+(j:Nat)+1)+(0+(j:Nat)) * (0+(j:Nat))) % 26],by simp,by simp [hl],fun b hb=>?_⟩⟩
  rcases xal.mp hb with hb | hb
  ·exact hbb b hb
  ·rw [xaC.mp hb]; exact uU _ (by decide)
 rintro out ⟨base,e,hb,hbb⟩
 simp only [xbx] at e
 subst e
 rw [cN] at hb
 rw [e5]
 exact lC Q c _ _ o base (by lia) (by simpa using hb) hbb h
def dF:WS :=
 (wSeq (wSet 3 sZ)
 (wSeq (wFrz 0 (wFor (eX (wSl (wVar 0) (jo (wC (.int 3))) (jo (wOp fAdd (wC (.int 3)) (wC (.int 60)))))) (gN 4)
 (wSeq (wSet 5 (wOp fDiv (wVar 4) (wVar 1)))
 (xf (wpN 3) (wTup (aB (wOp fMod (wVar 4) (wVar 1)) (aB (wOp fIx (wVar 2) (wOp fMod (wVar 5) (wUn fLen (wVar 2)))) (aB (wOp fMod (wOp fDiv (wVar 5) (wUn fLen (wVar 2))) (wVar 1)) wNil)))) (wC (.bl true))))))
 (wRet (wUn nY (wVar 3)))))
theorem StD.zW {P:Stp->Prop} {kvs:Kn} (h:StD P kvs) (h63:kvs.length<=63) {R:List (List Key)->Prop} (k:∀ steps:List Stp,(steps.map stpK).Perm (kvs.map (·.1))->(∀ s∈steps,P s)->steps.Pairwise (fun a b=>ltP a b=true)->steps.length=kvs.length->R (steps.map stpK)) :
  ∃ b0 sh,kvs.length<=63/\(∀ p∈kvs,shOf p.1=b0 :: sh)/\∀ ms:List (List Key),ms.Perm (kvs.map (·.1))->(ms.Pairwise fun a b=>ltK b a=false)->R ms:=by
 refine ⟨true,[false,true],h63,fun p hp=>?_,fun ms pm pw=>?_⟩
 ·obtain ⟨s,e,_⟩:=h.1 p hp
  rw [e]; rfl
 ·obtain ⟨l,rfl,hl⟩:=rY (P:=P) (ks:=ms) fun k hk=>by
   obtain ⟨p,hp,e⟩:=xak.mp (pm.mem_iff.mp hk)
   rw [<- e]
   exact h.1 p hp
  refine k l pm hl ?_ (by have:=pm.length_eq; simpa using this)
  have nd:(l.map stpK).Nodup:=pm.nodup_iff.mpr h.2
  rw [xaK] at pw
  have nd':l.Pairwise fun a b=>stpK a≠stpK b:=by
   rw [List.Nodup,xaK] at nd
   exact nd
  refine (pw.and nd').imp fun {a b} ⟨h1,h2⟩=>?_
  unfold ltP
  cases h3:ltK (stpK a) (stpK b) with
  | true=>rfl
  | false=>exact absurd (lu (a:=stpK a) (b:=stpK b) rfl h3 h1) h2
def aV:SpD:=fun ds Q=>∃ (ns:List Int) (many:Int) (names:List Str),ds=[.list (ns.map .int),.int many,.list (names.map .str)]/\(1<=many/\many<=20)/\(1<=names.length/\names.length<=7)/\(∀ n∈names,Deed n)/\∀ steps:List Stp,StIn many steps->steps.length<=63->steps.Pairwise (fun a b=>ltP a b=true)->Q (.ow true) (.list (steps.map stpD))
theorem jr (ds Q) (h:aV ds Q):ds.length=["_law_script", "_law_many", "_law_menu_here"].length:=by obtain ⟨_,_,_,rfl,_⟩:=h; rfl
theorem mQ:∀ ds Q,aV ds Q->dF { nx:=fun _=>Q .sh .non,rt:=Q } (bH 6 ds):=by
 rintro ds Q ⟨ns,many,names,rfl,hm,hn1,hd,h⟩
 unfold dF
 walk_at "q"
 refine .inl ⟨fc _,?_⟩
 rw [xu]
 have hcl:(cutG ns (some 3) (some 63)).length<=60:=by
  unfold cutG
  rw [xaT]
  simp only [HT.sIx]
  rw [if_neg (by decide),if_neg (by decide)]
  lia
 generalize cutG ns (some 3) (some 63)=cells at hcl ⊢
 refine eQ _ (fun i ρ=>∃ (kvs:Kn) (o4 o5:Option Sl),StD (StOk many) kvs/\kvs.length<=i/\ρ=[some (.sh (.list (ns.map .int))),some (.sh (.int many)),some (.sh (.list (names.map .str))),some (.ow true (.dT kvs)),o4,o5]) ⟨[],_,_,StD.nil,xah _,rfl⟩ ?_ ?_
 ·rintro i x ρ hx ⟨kvs,o4,o5,hk,hkl,rfl⟩ N hN
  have hi:=(xaj.mp hx).1
  rw [xaf] at hi
  obtain ⟨c,_,rfl⟩:=iK hx
  walk_at "q"
  obtain ⟨n,hn,en⟩:=name_mod (names:=names) (c / many) hn1.1
  refine ⟨by lia,by lia,by lia,_,en,?_⟩
  walk_at "q"
  refine ⟨by lia,by lia,by lia,?_⟩
  have a:=uU c (show 0<many by lia)
  have b:=uU (c / many / (names.length:Int)) (show 0<many by lia)
  have:=lD kvs (stpK (c % many,n,c / many / (names.length:Int) % many)) (D.bl true)
  exact hN _ ⟨_,_,_,hk.put (s:=(c % many,n,c / many / (names.length:Int) % many)) ⟨a.1,a.2,hd n hn,b.1,b.2⟩,by lia,rfl⟩
 ·rintro ρ ⟨kvs,o4,o5,hk,hkl,rfl⟩
  rw [xaf] at hkl
  walk_at "q"
  refine hk.zW (by lia) fun steps pm hP pw hlen=>?_
  rw [qN]
  exact h steps hP (by lia) pw
def cX:WS :=
 (wSeq (wIfS (wOr (wNot (wB (wUn (fIsi "list") (wVar 0)))) (wB (wOp fNe (wUn fLen (wVar 0)) (wVar 1))))
 (wRet (wC (.bl false)))
 dX)
 (wSeq (wFrz 0 (wFor (eX (wVar 0)) (gN 2)
 (wIfS (wOr (wNot (wB (wUn (fIsi "int") (wVar 2)))) (wB (wUn (fIsi "bool") (wVar 2))))
 (wRet (wC (.bl false)))
 dX)))
 (wRet (wC (.bl true)))))
def aM:SpD:=fun ds Q=>∃ (r:List Int) (many:Int),ds=[.list (r.map .int),.int many]/\(r.length:Int)=many/\Q .sh (.bl true)
theorem ji (ds Q) (h:aM ds Q):ds.length=["_law_found", "_law_many"].length:=by obtain ⟨_,_,rfl,_⟩:=h; rfl
theorem mF:∀ ds Q,aM ds Q->cX { nx:=fun _=>Q .sh .non,rt:=Q } (bH 3 ds):=by
 rintro ds Q ⟨r,many,rfl,hl,h⟩
 unfold cX
 walk_at "q"
 refine R.F (by decide) ?_
 walk_at "q"
 refine R.F (by simp [hl]) ?_
 walk_at "q"
 refine eQ _ (fun i ρ=>∃ o:Option Sl,ρ=[some (.sh (.list (r.map .int))),some (.sh (.int many)),o]) ⟨_,rfl⟩ ?_ ?_
 ·rintro i x ρ hx ⟨o,rfl⟩ N hN
  obtain ⟨c,_,rfl⟩:=iK hx
  walk_at "q"
  refine R.F (by decide) ?_
  walk_at "q"
  refine R.F (by decide) ?_
  walk_at "q"
  exact hN _ ⟨_,rfl⟩
 ·rintro ρ ⟨o,rfl⟩
  walk_at "q"
  exact h
def cj:WS :=
 (wRet (dC (gA (wVar 2)) (gN 0) wYes (wUn fLen (pG (gA (wVar 1)) (gN 0) (wB (wOp fLtR (wVar 0) (wVar 1))) (wVar 0) 1 [0])) 1 [6]))
def b8:WS :=
 (wSeq (wSet 6 (wLst wNil))
 (wSeq (wFrz 2 (wFor (eX (wVar 2)) (gN 7)
 (wIfS (wB (wOp (fInR true) (wVar 7) (wVar 6)))
 (wFrz 7 (wApp (wpN 6) (wVar 7)))
 dX)))
 cj))
def fW:WS :=
 (wSeq (wSet 2 (dC (cQ (wVar 0)) (gN 0) wYes (wLst wNil) 1 []))
 (wSeq (wFrz 1 (wFor (eX (wVar 1)) (gT 3 (dU (gN 3) (dU (gN 4) (dU (gN 5) qj))))
 (wIfS (wB (wOp (fIn true) (wVar 4) (wOp fIx (wVar 2) (wVar 3))))
 (wFrz 4 (wApp (wpIx (wpN 2) (wVar 3)) (wVar 4)))
 dX)))
 b8))
def bA:SpD:=fun ds Q=>∃ (many:Int) (steps:List Stp),ds=[.int many,.list (steps.map stpD)]/\(1<=many/\many<=20)/\StIn many steps/\steps.length<=63/\steps.Pairwise (fun a b=>ltP a b=true)/\∀ r,RB many steps (zeros many) r->Q (.ow true) (.list (r.map .int))
theorem mX (ds Q) (h:bA ds Q):ds.length=["_law_many", "_law_steps_here"].length:=by obtain ⟨_,_,rfl,_⟩:=h; rfl
theorem xQ {many:Int} {steps:List Stp} (hin:StIn many steps) (s:Int):OkS (rowS steps s):=fun d hd=>by
 obtain ⟨t,ht,_,rfl⟩:=jQ.mp hd
 exact (hin t ht).2.2.1.ok
theorem nH {Q:Md->D->Prop} {many:Int} {steps:List Stp} {dif:List (List Str)} {o1 o3 o4 o5 o7:Option Sl} {fl:Bool} (hm:1<=many/\many<=20) (hin:StIn many steps) (pw:steps.Pairwise (fun a b=>ltP a b=true))
  (nd:dif.Nodup) (md:∀ k,k∈dif↔k∈(aU many.toNat).map (rowS steps)) (h:∀ r,RB many steps (zeros many) r->Q (.ow true) (.list (r.map .int))) :
  cj { nx:=fun _=>Q .sh .non,rt:=Q } [some (.sh (.int many)),o1,some (.sh (.list (rwL many steps))),o3,o4,o5,some (.ow fl (.list (dif.map slD))),o7]:=by
 have okl:∀ k∈(aU many.toNat).map (rowS steps),OkS k:=fun k hk=>by
  obtain ⟨s,_,rfl⟩:=xak.mp hk
  exact xQ hin s
 have er:rwL many steps=((aU many.toNat).map (rowS steps)).map slD:=by unfold rwL; rw [xaG]; rfl
 rw [er]
 unfold cj
 walk_at "q"
 refine cP (fun _=>true) (fun d=>.int ((((dif.map slD).filter fun e=>PySem.SeqAt.ltP 3 e.py d.py).map fun e=>e).length:Nat)) (fun ρ=>∃ o,ρ=[o,some (.sh (.list (dif.map slD)))]) _ _ _ ⟨_,rfl⟩ ?_ ?_
 ·rintro x hx ρ ⟨o,rfl⟩ N1 N2 n1 n2
  obtain ⟨k,hkm,rfl⟩:=xak.mp hx
  walk_at "q"
  refine iG (fun e=>PySem.SeqAt.ltP 3 e.py (slD k).py) (fun e=>e) (fun ρ=>∃ o,ρ=[o,some (.sh (slD k))]) _ _ _ ⟨_,rfl⟩ ?_ ?_
  ·rintro y hy ρ ⟨o,rfl⟩ M1 M2 m1 m2
   obtain ⟨j,hj,rfl⟩:=xak.mp hy
   have hjl:=(md j).mp hj
   walk_at "q"
   refine ⟨wY (okl j hjl) 10,wY (okl k hkm) 10,CT j k,?_⟩
   cases e:PySem.SeqAt.ltP 3 (slD j).py (slD k).py with
   | true =>
    rw [if_pos rfl]
    exact ⟨.inr rfl,m2 _ ⟨_,rfl⟩ e⟩
   | false =>
    rw [if_neg xam]
    exact m1 _ ⟨_,rfl⟩ e
  exact ⟨.inl rfl,n2 _ ⟨_,rfl⟩ rfl⟩
 have e1:((((aU many.toNat).map (rowS steps)).map slD).filter fun _=>true).map (fun d=>D.int ((((dif.map slD).filter fun e=>PySem.SeqAt.ltP 3 e.py d.py).map fun e=>e).length:Nat))=((aU many.toNat).map fun s=>(((dif.map kyS).countP fun d=>ltY d (kyS (rowS steps s)):Nat):Int)).map D.int:=by
  rw [xbF.mpr fun _ _=>rfl,xaG,xaG,xaG]
  refine xbq fun s _=>?_
  show D.int _=D.int (((dif.map kyS).countP fun d=>ltY d (kyS (rowS steps s)):Nat):Int)
  rw [xaf,List.filter_map,xaf,List.countP_map,List.countP_eq_length_filter]
  congr 3
  refine List.filter_congr fun a _=>?_
  exact (Al a _).symm
 rw [e1]
 refine h _ (RB.vL hin (fun s=>kyS (rowS steps s)) (dif.map kyS) ?_ (fun k=>?_) (by rw [xaf,fZ]) (fun s a b=>zr pw s) fun s a b=>?_)
 ·rw [List.Nodup,xaK]
  exact nd.imp fun h e=>h (zc e)
 ·rw [xak]
  constructor
  ·rintro ⟨l,hl,rfl⟩
   obtain ⟨s,hs,rfl⟩:=xak.mp ((md l).mp hl)
   exact ⟨s,by have:=gj.mp hs; lia,rfl⟩
  ·rintro ⟨s,hs,rfl⟩
   exact ⟨_,(md _).mpr (xak.mpr ⟨s,gj.mpr (by lia),rfl⟩),rfl⟩
 ·have hs:s.toNat<many.toNat:=by lia
  simp [rk,List.getD,aU,hs,xa1 a]
theorem mV {Q:Md->D->Prop} {many:Int} {steps:List Stp} {o1 o3 o4 o5:Option Sl} (hm:1<=many/\many<=20) (hin:StIn many steps) (pw:steps.Pairwise (fun a b=>ltP a b=true)) (h:∀ r,RB many steps (zeros many) r->Q (.ow true) (.list (r.map .int))) :
  b8 { nx:=fun _=>Q .sh .non,rt:=Q } [some (.sh (.int many)),o1,some (.ow true (.list (rwL many steps))),o3,o4,o5,none,none]:=by
 have er:rwL many steps=((aU many.toNat).map (rowS steps)).map slD:=by unfold rwL; rw [xaG]; rfl
 have hll:((aU many.toNat).map (rowS steps)).length=many.toNat:=by rw [xaf,fZ]
 have okl:∀ k∈(aU many.toNat).map (rowS steps),OkS k:=fun k hk=>by
  obtain ⟨s,_,rfl⟩:=xak.mp hk
  exact xQ hin s
 obtain ⟨w4,e4⟩:∃ w4,w4=cj:=⟨_,rfl⟩
 unfold b8
 rw [<- e4,er]
 generalize el:(aU many.toNat).map (rowS steps)=l at *
 walk_at "q"
 refine eQ _ (fun i ρ=>∃ (dif:List (List Str)) (fl:Bool) (o7:Option Sl),dif.Nodup/\(∀ k,k∈dif↔k∈l.take i)/\dif.length<=i/\ρ=[some (.sh (.int many)),o1,some (.sh (.list (l.map slD))),o3,o4,o5,some (.ow fl (.list (dif.map slD))),o7]) ⟨[],true,none,xaQ,by simp,by simp,rfl⟩ ?_ ?_
 ·rintro i x ρ hx ⟨dif,fl,o9,nd,mem,dl,rfl⟩ N hN
  obtain ⟨hi,hx'⟩:=xaj.mp hx
  have hi':i<l.length:=by simpa using hi
  have hxe:x=slD l[i]:=by rw [<- hx']; simp
  subst hxe
  have hkm:l[i]∈l:=xbe hi'
  have tk:l.take (i+1)=l.take i++[l[i]]:=by rw [xb1,xau hi']; rfl
  have okd:∀ k∈dif,OkS k:=fun k hkd=>okl k (xbA ((mem k).mp hkd))
  generalize l[i]=k at *
  walk_at "q"
  refine ⟨wY (okl k hkm) 10,?_,?_⟩
  ·show okD 12 (.list (dif.map slD))=true
   simp only [okD,xbO,xa8]
   exact fun a ha=>wY (okd a ha) 9
  rw [BP]
  by_cases hd:k∈dif
  ·refine R.F (by simp [hd]) ?_
   walk_at "q"
   refine hN _ ⟨dif,fl,_,nd,fun k'=>?_,by lia,rfl⟩
   rw [mem,tk,xal,xaC]
   exact ⟨.inl,fun z=>z.elim id fun e=>by rw [e]; exact (mem k).mp hd⟩
  ·refine R.T (by simp [hd]) ?_
   walk_at "q"
   refine ⟨by lia,?_⟩
   refine hN _ ⟨dif++[k],fl && (slD k).flat,some (.sh (slD k)),?_,fun k'=>?_,by simp; lia,by simp⟩
   ·refine xar.mpr ⟨nd,by simp,fun a ha b hb e=>?_⟩
    rw [xaC.mp hb] at e
    exact hd (by rw [<- e]; exact ha)
   ·rw [xal,xaC,mem,tk,xal,xaC]
 ·rintro ρ ⟨dif,fl,o9,nd,mem,dl,rfl⟩
  rw [xaf,xbS] at mem
  rw [e4,<- er]
  exact nH hm hin pw nd (by rw [el]; exact mem) h
theorem qu:∀ ds Q,bA ds Q->fW { nx:=fun _=>Q .sh .non,rt:=Q } (bH 8 ds):=by
 rintro ds Q ⟨many,steps,rfl,hm,hin,hl,pw,h⟩
 obtain ⟨w2,e2⟩:∃ w2,w2=b8:=⟨_,rfl⟩
 unfold fW
 rw [<- e2]
 walk_at "q"
 refine ⟨by lia,by lia,?_⟩
 refine cP (fun _=>true) (fun _=>.list []) (fun ρ=>∃ o,ρ=[o]) _ _ _ ⟨_,rfl⟩ ?_ ?_
 ·rintro x hx ρ ⟨o,rfl⟩ N1 N2 n1 n2
  walk_at "q"
  exact ⟨.inr rfl,n2 _ ⟨_,rfl⟩ rfl⟩
 rw [rw_nil]
 refine eQ _ (fun i ρ=>∃ o3 o4 o5,ρ=[some (.sh (.int many)),some (.sh (.list (steps.map stpD))),some (.ow true (.list (rwL many (steps.take i)))),o3,o4,o5,none,none]) ⟨none,none,none,by simp⟩ ?_ ?_
 ·rintro i x ρ hx ⟨o3,o4,o5,rfl⟩ N hN
  obtain ⟨p,d,r,rfl,hs,ht⟩:=xV hx
  have ok:=hin _ hs
  walk_at "q"
  refine ⟨_,rw_ix _ ok.1 ok.2.1,?_⟩
  unfold slD
  walk_at "q"
  refine ⟨rfl,tY _,?_⟩
  rw [ym]
  by_cases hd:d∈rowS (steps.take i) p
  ·refine R.F (by simp [hd]) ?_
   walk_at "q"
   refine hN _ ⟨some (.sh (.int p)),some (.sh (.str d)),some (.sh (.int r)),?_⟩
   rw [ht,rw_same hd]
  ·refine R.T (by simp [hd]) ?_
   walk_at "q"
   refine ⟨p.toNat,slD (rowS (steps.take i) p),jH ok.1 (by rw [rw_len]; have:=ok.2.1; lia),rw_at _ ok.1 ok.2.1,rfl,?_⟩
   unfold slD
   walk_at "q"
   refine ⟨?_,?_⟩
   ·have:=wu (steps.take i) p
    have:(steps.take i).length<=steps.length:=by rw [xaT]; lia
    lia
   ·refine hN _ ⟨some (.sh (.int p)),some (.sh (.str d)),some (.sh (.int r)),?_⟩
    rw [rw_put ok.1 ok.2.1 hd,<- ht]
 ·rintro ρ ⟨o3,o4,o5,rfl⟩
  rw [xaf,xbS,e2]
  exact mV hm hin pw h
def cz:WS :=
 (wSeq (wSet 2 (dC (cQ (wUn fLen (wVar 1))) (gN 0) wYes (cA cI (aB (wVar 1) (aB (wVar 2) (aB (wVar 0) wNil)))) 1 [0,1]))
 (wSeq (wSet 3 (wLst wNil))
 (wSeq (wFrz 2 (wFor (eX (wUn uG (wVar 2))) (gN 4)
 (wIfS (wB (wOp (fInR true) (wVar 4) (wVar 3)))
 (wFrz 4 (wApp (wpN 3) (wVar 4)))
 dX)))
 (wRet (dC (gA (wVar 2)) (gN 0) wYes (qe (wVar 1) (wVar 0)) 1 [3])))))
def aJ:SpD:=fun ds Q=>∃ (many:Int) (steps:List Stp) (ranks:List Int),ds=[exD many steps,.list (ranks.map .int)]/\(0<=many/\many<=63)/\ranks.length=many.toNat/\StIn many steps/\steps.length<=63/\∀ r,RB many steps ranks r->Q (.ow true) (.list (r.map .int))
theorem gK (ds Q) (h:aJ ds Q):ds.length=["exits", "ranks"].length:=by obtain ⟨_,_,_,rfl,_⟩:=h; rfl
theorem jh:∀ ds Q,aJ ds Q->cz { nx:=fun _=>Q .sh .non,rt:=Q } (bH 5 ds):=by
 rintro ds Q ⟨many,steps,ranks,rfl,hm,hr,hin,hl,h⟩
 unfold cz exD
 walk_at "q"
 refine ⟨by lia,by lia,?_⟩
 refine bF (fun n out=>∃ l:List Ky,out=l.map kyD/\l.length=n/\∀ (i:Nat) k,l[i]? = some k->KyIs steps ranks i k) (fun ρ=>∃ o,ρ=[o,some (.sh (.list (exL many steps))),some (.sh (.list (ranks.map .int)))]) _ 0 [] _ _ ⟨_,rfl⟩ ⟨[],rfl,rfl,fun i k hk=>by simp at hk⟩ ?_ ?_
 ·rintro j y hy ρ ⟨o,rfl⟩ out ⟨l,rfl,hll,hk⟩ N1 N2 hN2
  have hj:=(cB hy).1
  obtain ⟨_,rfl⟩:=cB hy
  walk_at "q"
  refine ⟨many,steps,ranks,0+(j:Nat),rfl,by lia,hr,hin,hl,fun k hk2=>?_⟩
  walk_at "q"
  refine ⟨.inr rfl,hN2 _ _ ⟨_,rfl⟩ ⟨l++[k],by simp,by simp [hll],fun i k' hk'=>?_⟩⟩
  rcases xbX i l.length with hi | hi
  ·rw [xbj hi] at hk'
   exact hk i k' hk'
  ·rw [xaY hi] at hk'
   have hi0:i - l.length=0:=by
    rcases Nat.eq_zero_or_pos (i - l.length) with z | z
    ·exact z
    ·rw [xaF (by simp; lia)] at hk'; cases hk'
   rw [hi0] at hk'
   cases hk'
   have:((i:Nat):Int)=0+(j:Nat):=by lia
   rw [this]
   exact hk2
 rintro out ⟨l,e,hll,hk⟩
 simp only [xbx] at e
 subst e
 rw [cN,xa5] at hll
 have okl:∀ k∈l,OkY k:=fun k hkm=>by
  obtain ⟨i,hi⟩:=xa3.mp hkm
  exact (hk i k hi).ok hin
 refine ⟨by rw [xaf]; lia,fun d hd=>?_,fun ms pm pw=>?_⟩
 ·obtain ⟨k,hkm,rfl⟩:=xak.mp hd
  exact ⟨vX (okl k hkm) 9,(okl k hkm).rkS⟩
 obtain ⟨l2,rfl,hl2⟩:=to_f (f:=kyD) (P:=fun k=>k∈l) (ks:=ms) fun d hd=>by
  obtain ⟨k,hkm,e⟩:=xak.mp (pm.mem_iff.mp hd)
  exact ⟨k,e.symm,hkm⟩
 have back:∀ k∈l,k∈l2:=fun k hkm=>by
  obtain ⟨j,hj,e⟩:=xak.mp (pm.mem_iff.mpr (xak.mpr ⟨k,hkm,rfl⟩))
  rw [<- sW e]; exact hj
 have hll2:l2.length=l.length:=by have:=pm.length_eq; simpa using this
 rw [xaK] at pw
 have pw:l2.Pairwise fun a b=>ltY b a=false:=pw
 refine eQ _ (fun i ρ=>∃ (diff:List Ky) (fl:Bool) (o4:Option Sl),diff.Pairwise (fun a b=>ltY a b=true)/\(∀ k,k∈diff↔k∈l2.take i)/\diff.length<=i/\ρ=[some (.sh (.list (exL many steps))),some (.sh (.list (ranks.map .int))),some (.sh (.list (l.map kyD))),some (.ow fl (.list (diff.map kyD))),o4]) ⟨[],true,none,.nil,by simp,by simp,rfl⟩ ?_ ?_
 ·rintro i x ρ hx ⟨diff,fl,o4,up,mem,dl,rfl⟩ N hN
  obtain ⟨hi,hx'⟩:=xaj.mp hx
  have hi':i<l2.length:=by simpa using hi
  have hxe:x=kyD l2[i]:=by rw [<- hx']; simp
  subst hxe
  have hkm:l2[i]∈l:=hl2 _ (xbe hi')
  have tk:l2.take (i+1)=l2.take i++[l2[i]]:=by rw [xb1,xau hi']; rfl
  have okd:∀ k∈diff,OkY k:=fun k hkd=>okl k (hl2 k (xbA ((mem k).mp hkd)))
  generalize ek:l2[i]=k at *
  walk_at "q"
  refine ⟨vX (okl k hkm) 9,xR okd 8,?_⟩
  rw [Av]
  by_cases hd:k∈diff
  ·refine R.F (by simp [hd]) ?_
   walk_at "q"
   refine hN _ ⟨diff,fl,_,up,fun k'=>?_,by lia,rfl⟩
   rw [mem,tk,xal,xaC]
   exact ⟨.inl,fun z=>z.elim id fun e=>by rw [e]; exact (mem k).mp hd⟩
  ·refine R.T (by simp [hd]) ?_
   walk_at "q"
   refine ⟨by lia,?_⟩
   refine hN _ ⟨diff++[k],fl && (kyD k).flat,some (.sh (kyD k)),?_,fun k'=>?_,by simp; lia,by simp⟩
   ·refine xca.mpr ⟨up,by simp,fun a ha b hb=>?_⟩
    rw [xaC.mp hb]
    cases h3:ltY a k with
    | true=>rfl
    | false =>
     have h4:ltY k a=false:=by
      obtain ⟨j,hj⟩:=xa3.mp ((mem a).mp ha)
      obtain ⟨hj1,hj2⟩:=xaj.mp hj
      have hji:j<i:=by rw [xaT] at hj1; lia
      have:=xaM.mp pw j i (by lia) hi' hji
      rw [ek] at this
      rw [List.getElem_take] at hj2
      rwa [hj2] at this
     exact absurd (rR (okd a ha) (okl k hkm) h3 h4) fun e=>hd (by rw [<- e]; exact ha)
   ·rw [xal,xaC,mem,tk,xal,xaC]
 ·rintro ρ ⟨diff,fl,o4,up,mem,dl,rfl⟩
  rw [xaf,xbS] at mem
  have md:∀ k,k∈diff↔k∈l:=fun k=>(mem k).trans ⟨hl2 k,back k⟩
  have okd:∀ k∈diff,OkY k:=fun k hkd=>okl k ((md k).mp hkd)
  walk_at "q"
  refine bF (fun n out=>∃ r:List Int,out=r.map .int/\r.length=n/\∀ (i:Nat) x,r[i]? = some x->0<=x/\diff[x.toNat]? = l[i]?) (fun ρ=>∃ o,ρ=[o,some (.sh (.list (diff.map kyD)))]) _ 0 [] _ _ ⟨_,rfl⟩ ⟨[],rfl,rfl,fun i k hk=>by simp at hk⟩ ?_ ?_
  ·rintro j y hy ρ ⟨o,rfl⟩ out ⟨r,rfl,hrl,hrk⟩ N1 N2 hN2
   obtain ⟨hj,hy'⟩:=xaj.mp hy
   have hj':j<l.length:=by simpa using hj
   have hye:y=kyD l[j]:=by rw [<- hy']; simp
   subst hye
   have hkm:l[j]∈l:=xbe hj'
   have hlj:l[j]? = some l[j]:=xau hj'
   generalize l[j]=k at *
   have hkd:=(md k).mpr hkm
   have hix:=List.idxOf_lt_length_of_mem hkd
   walk_at "q"
   refine ⟨xR okd 8,vX (okl k hkm) 9,diff.idxOf k,⟨kyD k,?_,by rw [q_]; exact decide_eq_true rfl⟩,fun i z hi hz=>?_,.inl rfl,hN2 _ _ ⟨_,rfl⟩ ⟨r++[((diff.idxOf k:Nat):Int)],by simp,by simp [hrl],fun i x hx=>?_⟩⟩
   ·rw [xaH,xau hix,List.getElem_idxOf hix]; rfl
   ·rw [xaH,xau (by lia)] at hz
    cases hz
    rw [q_]
    refine decide_eq_false fun e=>?_
    have:=List.not_of_lt_findIdx (p:=(· == k)) (xs:=diff) hi
    rw [show diff[i]=k from e] at this
    simp at this
   ·rcases xbX i r.length with hi | hi
    ·rw [xbj hi] at hx
     exact hrk i x hx
    ·rw [xaY hi] at hx
     have hi0:i - r.length=0:=by
      rcases Nat.eq_zero_or_pos (i - r.length) with z | z
      ·exact z
      ·rw [xaF (by simp; lia)] at hx; cases hx
     rw [hi0] at hx
     cases hx
     have:i=j:=by lia
     subst this
     refine ⟨by lia,?_⟩
     rw [hlj,xby,xau hix,List.getElem_idxOf hix]
  rintro out ⟨r,e,hrl,hrk⟩
  simp only [xbx] at e
  subst e
  rw [xaf,xa5] at hrl
  refine h r ⟨fun s=>l.getD s.toNat (0,[]),diff,by lia,fun s a b=>?_,up,fun k=>?_,fun s a b=>?_⟩
  ·have hs:s.toNat<l.length:=by lia
   have:=hk s.toNat l[s.toNat] (xau hs)
   rw [xa1 a] at this
   simpa [List.getD,hs] using this
  ·rw [md]
   constructor
   ·intro hkm
    obtain ⟨i,hi,rfl⟩:=List.mem_iff_getElem.mp hkm
    exact ⟨(i:Nat),by lia,by simp [List.getD,hi]⟩
   ·rintro ⟨s,hs,rfl⟩
    have hs:s.toNat<l.length:=by lia
    simp [List.getD,hs]
  ·have hs:s.toNat<r.length:=by lia
   have hs':s.toNat<l.length:=by lia
   have:=hrk s.toNat r[s.toNat] (xau hs)
   simpa [rk,List.getD,hs,hs'] using this
def eO:WS :=
 (wSeq (wSet 1 (cA bx (aB (wVar 0) wNil)))
 (wSeq (wSet 2 (wLst (aB (wOp tV (wLst (aB (wC (.int 0)) wNil)) (wOp fIx (wVar 0) (wC (.int 0)))) wNil)))
 (wSeq (wSet 3 (cA aJ (aB (wVar 1) (aB (wOp fIx (wVar 2) (wC (.int 0))) wNil))))
 (wSeq (x_ (wB (wOp fNe (wVar 3) (wOp fIx (wVar 2) (wUn fNeg (wC (.int 1))))))
 (uH 2 3 (cA aJ (aB (wVar 1) (aB (wVar 3) wNil)))))
 (uX 2)))))
def rdD (rs:List (List Int)):D:=.list (rs.map rsD)
def aL:SpD:=fun ds Q=>∃ (many:Int) (steps:List Stp),ds=[mD many steps]/\(1<=many/\many<=63)/\StIn many steps/\steps.length<=63/\∀ rest,Chain many steps (zeros many) rest->rest.length<=10000->Q (.ow true) (rdD (zeros many :: rest))
theorem lE (ds Q) (h:aL ds Q):ds.length=["m"].length:=by obtain ⟨_,_,rfl,_⟩:=h; rfl
theorem jX (cur:List Int) (pre:List (List Int)):atI ((cur :: pre).map rsD) (-1)=some (rsD (cT cur pre)):=by
 have e:(cur :: pre).map rsD=((cur :: pre).dropLast.map rsD)++[rsD (cT cur pre)]:=by
  conv=>lhs; rw [<- List.dropLast_concat_getLast (show cur :: pre≠[] by simp)]
  rw [xbL]
  rfl
 rw [e]
 exact atI_last _ _
theorem rB (cur nxt:List Int) (pre:List (List Int)):cT cur (pre++[nxt])=nxt:=by
 unfold cT
 rw [List.getLast_cons (by simp),List.getLast_concat]
theorem n8:∀ ds Q,aL ds Q->eO { nx:=fun _=>Q .sh .non,rt:=Q } (bH 4 ds):=by
 rintro ds Q ⟨many,steps,rfl,hm,hin,hl,h⟩
 unfold eO
 have hmm:many * many<=10000:=by
  have:=Int.mul_le_mul hm.2 hm.2 (by lia) (by lia)
  lia
 have e0:bH 4 [mD many steps]=[some (.sh (mD many steps)),none,none,none]:=rfl
 rw [e0]
 walk_at "q"
 refine ⟨many,steps,rfl,by lia,hin,hl,?_⟩
 unfold exD
 walk_at "q"
 unfold mD
 walk_at "q"
 refine ⟨by lia,?_⟩
 rw [nG]
 refine ⟨many,steps,zeros many,rfl,by lia,by simp [zeros],hin,hl,fun r hr=>?_⟩
 walk_at "q"
 refine ⟨fun ρ=>∃ (pre:List (List Int)) (cur nxt:List Int),rA many cur/\RB many steps cur nxt/\(∀ rest,Chain many steps cur rest->Chain many steps (zeros many) (pre++rest))/\cT (zeros many) pre=cur/\(pre.length:Int)<=cur.sum/\cur.sum<=many * many /\
   ρ=[some (.sh (.tup [.int many,.list (steps.map stpD)])),some (.ow true (.list (exL many steps))),some (.ow true (.list ((zeros many :: pre).map rsD))),some (.ow true (.list (nxt.map .int)))],
  fun ρ=>match ρ with
   | [_,_,some (.ow _ (.list rs)),_]=>20000 - rs.length
   | _=>0,⟨[],zeros many,r,nW hm.1,hr,fun rest hc=>hc,rfl,?_,?_,rfl⟩,?_⟩
 ·simp [zeros]
 ·have:0<=many * many:=Int.mul_nonneg (by lia) (by lia)
  simp [zeros]; lia
 rintro ρ ⟨pre,cur,nxt,hd,hb,hc,hla,hp,hs,rfl⟩
 walk_at "q"
 refine ⟨_,jX _ _,?_⟩
 rw [hla]
 unfold rsD
 walk_at "q"
 refine ⟨bV _ _,bV _ _,?_⟩
 rw [uw]
 by_cases e:nxt=cur
 ·rw [if_neg (by simp [e])]
  rw [e] at hb
  have:=hc [] hb
  rw [xaO] at this
  exact h pre this (by lia)
 ·rw [if_pos (by simp [e])]
  have hsum:=hb.sum hin hd (by lia) e
  refine ⟨fc _,by lia,?_⟩
  refine ⟨many,steps,nxt,rfl,by lia,(hb.xg hin).1,hin,hl,fun r2 hr2=>?_⟩
  walk_at "q"
  refine ⟨⟨pre++[nxt],nxt,r2,hb.xg hin,hr2,fun rest hch=>?_,rB _ _ _,by simp; lia,hsum.2,by simp [rsD]⟩,?_⟩
  ·have:=hc (nxt :: rest) ⟨hb,e,hch⟩
   simpa using this
  ·simp
   lia
def fU:WS :=
 (wRet (wIxO (cA aL (aB (wVar 0) wNil)) (wUn fNeg (wC (.int 1)))))
def aZ:SpD:=fun ds Q=>∃ (many:Int) (steps:List Stp),ds=[mD many steps]/\(1<=many/\many<=63)/\StIn many steps/\steps.length<=63/\∀ k,Kinds many steps k->Q (.ow true) (.list (k.map .int))
theorem mJ (ds Q) (h:aZ ds Q):ds.length=["m"].length:=by obtain ⟨_,_,rfl,_⟩:=h; rfl
theorem qp:∀ ds Q,aZ ds Q->fU { nx:=fun _=>Q .sh .non,rt:=Q } (bH 1 ds):=by
 rintro ds Q ⟨many,steps,rfl,hm,hin,hl,h⟩
 unfold fU
 rw [show bH 1 [mD many steps]=[some (.sh (mD many steps))] from rfl]
 walk_at "q"
 refine ⟨many,steps,rfl,hm,hin,hl,fun rest hc hr=>?_⟩
 unfold rdD
 walk_at "q"
 refine ⟨_,jX _ _,?_⟩
 unfold rsD
 walk_at "q"
 exact h _ ⟨rest,hc,rfl⟩
def gQ:WS :=
 (wSeq (wSet 9 (dC (gA (wVar 5)) (gN 0) wYes (wUn qP (wVar 0)) 1 []))
 (wSeq (wFrz 1 (vy (wpN 8) (wC (.int 0)) (wVar 1)))
 (wSeq (wFrz 1 (vy (wpIx (wpN 5) (wC (.int 0))) (wC (.int 0)) (wVar 1)))
 (wSeq (wApp (wpN 5) (wLst wNil))
 (wFrz 3 (wFrz 1 (wRet (tL (wOp fEq (cA aL (aB (wVar 4) wNil)) (wVar 9)) (tL (wOp fEq (cA aZ (aB (wVar 4) wNil)) (wOp fIx (wVar 9) (wUn fNeg (wC (.int 1))))) (wOp fEq (wVar 4) (wTup (aB (wVar 1) (aB (wVar 3) wNil)))))))))))))
def j_:WS :=
 (wSeq (wFrz 7 (wIfS (wOr (wB (wOp fNe (wOp fIx (wVar 5) (wC (.int 0))) (wOp tV (wLst (aB (wC (.int 0)) wNil)) (wVar 1)))) (wB (wOp fNe (wSlB (wVar 5) (jo (wC (.int 1))) (jo (wC (.int 2)))) (wSlB (wLst (aB (wVar 7) wNil)) nU (jo (wUn fInt (wOp fNe (wVar 7) (wOp fIx (wVar 5) (wC (.int 0))))))))))
 (wRet (wC (.bl false)))
 dX))
 (wSeq (wSet 8 (cA aZ (aB (wVar 4) wNil)))
 (wSeq (wIfS (wOr (wNot (wB (cA aM (aB (wVar 8) (aB (wVar 1) wNil))))) (wB (wOp fNe (wVar 8) (wOp fIx (wVar 5) (wUn fNeg (wC (.int 1)))))))
 (wRet (wC (.bl false)))
 dX)
 gQ)))
def lr:WS :=
 (wSeq (gR 5 6 (wNot (wB (cA aM (aB (wVar 6) (aB (wVar 1) wNil))))))
 (wSeq (wSet 7 (cA bA (aB (wVar 1) (aB (wVar 3) wNil))))
 j_))
def jT:WS :=
 (wSeq (wSet 2 (cA bc (aB (cA az (aB (wVar 0) (aB (wC (.int 1)) wNil))) (aB (cA az (aB (wVar 0) (aB (wC (.int 2)) wNil))) wNil))))
 (wSeq (wSet 3 (cA aV (aB (wVar 0) (aB (wVar 1) (aB (wVar 2) wNil)))))
 (wSeq (wFrz 1 (wSet 4 (wTup (aB (wVar 1) (aB (wUn qP (wVar 3)) wNil)))))
 (wSeq (wSet 5 (cA aL (aB (wVar 4) wNil)))
 (wSeq (wIfS (wOr (wNot (wB (wUn (fIsi "list") (wVar 5)))) (wB (wOp fEq (wVar 5) (wLst wNil))))
 (wRet (wC (.bl false)))
 dX)
 lr)))))
def zM:WS :=
 (wSeq (wSet 1 (wOp fAdd (wC (.int 1)) (wOp fMod (cA az (aB (wVar 0) (aB (wC (.int 0)) wNil))) (wC (.int 8)))))
 (wSeq (wIfS (wB (wOp fEq (wOp fMod (wOp fDiv (cA az (aB (wVar 0) (aB (wC (.int 0)) wNil))) (wC (.int 8))) (wC (.int 4))) (wC (.int 1))))
 (wSet 1 (wC (.int 20)))
 dX)
 jT))
abbrev sp_law:SpD:=spLaw
theorem zL (ds Q) (h:sp_law ds Q):ds.length=["_law_script"].length:=by obtain ⟨_,rfl,_⟩:=h; rfl
theorem Bu:∀ l:List (List Int),nbs (l.map rsD)=true
 | []=>rfl
 | x :: l=>by simp [nbs,Bu l,rsD,D.nb,jM]
theorem uy (l:List (List Int)) (n:Nat):okD (n+2) (.list (l.map rsD))=true:=by
 simp only [okD,xbO,xa8]
 exact fun r _=>bV r n
theorem Ca (l:List (List Int)):eqD (.list (l.map rsD)) (.list (l.map rsD))=true:=eq_self (show D.nb (.list (l.map rsD))=true from Bu l)
theorem vW {Q:Md->D->Prop} {ns:List Int} {many:Int} {steps:List Stp} {rest:List (List Int)} {o2 o7:Option Sl} (m1:1<=many) (m2:many<=20) (hin:StIn many steps) (hl:steps.length<=63) (hc:Chain many steps (zeros many) rest) (hr:rest.length<=10000) (h:∀ m,Q m (.bl true)) :
  gQ { nx:=fun _=>Q .sh .non,rt:=Q } [some (.sh (.list (ns.map .int))),some (.sh (.int many)),o2,some (.ow true (.list (steps.map stpD))),some (.ow true (.tup [.int many,.list (steps.map stpD)])),some (.ow true (.list ((zeros many :: rest).map rsD))),none,o7,some (.ow true (.list ((cT (zeros many) rest).map .int))),none]:=by
 have hlast:=jX (zeros many) rest
 have hz0:(zeros many).length=many.toNat:=by simp [zeros]
 have hkl:(cT (zeros many) rest).length=many.toNat:=(Kinds.len ⟨rest,hc,rfl⟩:_)
 have hrl:(zeros many :: rest).length<=10001:=by simp; lia
 have hr0:((zeros many :: rest).map rsD)[0]? = some (rsD (zeros many)):=rfl
 have huq:∀ rest2,Chain many steps (zeros many) rest2->zeros many :: rest2=zeros many :: rest:=fun rest2 h2=>by rw [h2.uniq hin hc]
 unfold gQ
 generalize zeros many :: rest=rds at *
 walk_at "q"
 refine cP (fun _=>true) (fun d=>d) (fun ρ=>∃ o,ρ=[o]) _ _ _ ⟨_,rfl⟩ ?_ ?_
 ·rintro x hx ρ ⟨o,rfl⟩ N1 N2 n1 n2
  obtain ⟨r,hr,rfl⟩:=xak.mp hx
  have n2:=fun ρ' e=>n2 ρ' e rfl
  unfold rsD at n2 ⊢
  walk_at "q"
  exact .inl ⟨fc _,.inr rfl,n2 _ ⟨_,rfl⟩⟩
 rw [xbF.mpr fun _ _=>rfl,List.map_id']
 have h1:1<=rds.length:=by
  cases rds with
  | nil=>cases hr0
  | cons=>simp
 refine ⟨by lia,0,_,jH (by lia) (by lia),hr0,rfl,?_⟩
 rw [show rsD (zeros many)=D.list ((zeros many).map .int) from rfl]
 walk_at "q"
 refine ⟨by lia,by rw [xcd,xaf]; lia,?_⟩
 refine ⟨many,steps,rfl,⟨m1,by lia⟩,hin,hl,fun rest2 hc2 _=>?_⟩
 unfold rdD
 rw [huq _ hc2]
 walk_at "q"
 refine ⟨uy _ 10,uy _ 10,?_⟩
 refine R.T (Ca _) ?_
 walk_at "q"
 refine ⟨many,steps,rfl,⟨m1,by lia⟩,hin,hl,fun k2 hk2=>?_⟩
 walk_at "q"
 refine ⟨_,hlast,?_⟩
 rw [show rsD (cT (zeros many) rest)=D.list ((cT (zeros many) rest).map .int) from rfl]
 walk_at "q"
 rw [hk2.uniq hin ⟨rest,hc,rfl⟩]
 refine ⟨bV _ _,bV _ _,?_⟩
 refine R.T (by rw [uw]; exact decide_eq_true rfl) ?_
 walk_at "q"
 refine ⟨m_ok 9 hin,m_ok 9 hin,?_⟩
 rw [show eqD (.tup [.int many,.list (steps.map stpD)]) (.tup [.int many,.list (steps.map stpD)])=true from eq_self (nb_m _ _)]
 exact h _
theorem yJ {α:Type} (x y:α) (l:List α):cutG (x :: y :: l) (some 1) (some 2)=[y]:=by
 unfold cutG
 simp only [HT.sIx]
 rw [if_neg (by decide),if_neg (by decide),show min (Int.toNat 1) (x :: y :: l).length=1 by simp,show min (Int.toNat 2) (x :: y :: l).length=2 by simp]
 rfl
theorem zj {Q:Md->D->Prop} {ns:List Int} {many:Int} {steps:List Stp} {rest:List (List Int)} {due:List Int} {o2:Option Sl} (m1:1<=many) (m2:many<=20) (hin:StIn many steps) (hl:steps.length<=63) (hc:Chain many steps (zeros many) rest) (hr:rest.length<=10000) (hd:RB many steps (zeros many) due) (h:∀ m,Q m (.bl true)) :
  j_ { nx:=fun _=>Q .sh .non,rt:=Q } [some (.sh (.list (ns.map .int))),some (.sh (.int many)),o2,some (.ow true (.list (steps.map stpD))),some (.ow true (.tup [.int many,.list (steps.map stpD)])),some (.ow true (.list ((zeros many :: rest).map rsD))),none,some (.ow true (.list (due.map .int))),none,none]:=by
 obtain ⟨w12,e12⟩:∃ w12,w12=gQ:=⟨_,rfl⟩
 unfold j_
 rw [<- e12]
 walk_at "q"
 rw [show rsD (zeros many)=D.list ((zeros many).map .int) from rfl]
 walk_at "q"
 rw [nG]
 refine ⟨by lia,bV _ _,bV _ _,?_⟩
 refine R.F (by rw [uw]; simp) ?_
 walk_at "q"
 rw [show rsD (zeros many)=D.list ((zeros many).map .int) from rfl]
 walk_at "q"
 refine ⟨bV _ _,bV _ _,?_⟩
 rw [uw]
 have hcut:∃ l:List (List Int),cutG (D.list ((zeros many).map D.int) :: rest.map rsD) (some 1) (some 2)=l.map rsD/\cutG [D.list (due.map D.int)] none (some (if (!decide (due=zeros many))=true then 1 else 0))=l.map rsD:=by
  cases rest with
  | nil =>
   rw [hd.uniq hc hin,decide_eq_true rfl]
   exact ⟨[],rfl,rfl⟩
  | cons nxt rest =>
   have e:=hd.uniq hc.1 hin
   rw [decide_eq_false (by rw [e]; exact hc.2.1),e]
   exact ⟨[nxt],yJ _ _ _,rfl⟩
 obtain ⟨l,e1,e2⟩:=hcut
 rw [e1,e2]
 refine ⟨uy _ 10,uy _ 10,?_⟩
 refine R.F (by rw [Ca]; rfl) ?_
 walk_at "q"
 refine ⟨many,steps,rfl,⟨m1,by lia⟩,hin,hl,fun k hk=>?_⟩
 obtain rfl:=hk.uniq hin ⟨rest,hc,rfl⟩
 walk_at "q"
 have hkl:=hk.len
 refine ⟨_,many,rfl,by lia,?_⟩
 walk_at "q"
 refine ⟨_,jX _ _,?_⟩
 rw [show rsD (cT (zeros many) rest)=D.list ((cT (zeros many) rest).map .int) from rfl]
 walk_at "q"
 refine ⟨bV _ _,bV _ _,?_⟩
 refine R.F (by rw [uw]; simp) ?_
 walk_at "q"
 rw [e12]
 exact vW m1 m2 hin hl hc hr h
theorem yO {Q:Md->D->Prop} {ns:List Int} {many:Int} {steps:List Stp} {rest:List (List Int)} {o2:Option Sl} (m1:1<=many) (m2:many<=20) (hin:StIn many steps) (hl:steps.length<=63) (pw:steps.Pairwise (fun a b=>ltP a b=true)) (hc:Chain many steps (zeros many) rest) (hr:rest.length<=10000) (h:∀ m,Q m (.bl true)) :
  lr { nx:=fun _=>Q .sh .non,rt:=Q } [some (.sh (.list (ns.map .int))),some (.sh (.int many)),o2,some (.ow true (.list (steps.map stpD))),some (.ow true (.tup [.int many,.list (steps.map stpD)])),some (.ow true (.list ((zeros many :: rest).map rsD))),none,none,none,none]:=by
 have hz:(zeros many).length=many.toNat:=by simp [zeros]
 have hlen:∀ r∈zeros many :: rest,r.length=many.toNat:=fun r hr=>by
  obtain ⟨i,hi⟩:=xa3.mp hr
  cases i with
  | zero=>cases hi; exact hz
  | succ i =>
   have hi1:i<(zeros many :: rest).length:=by have:=(xaj.mp hi).1; lia
   exact (hc.at i _ r (xau hi1) hi).1.len
 obtain ⟨w9,e9⟩:∃ w9,w9=j_:=⟨_,rfl⟩
 unfold lr
 rw [<- e9]
 generalize er:(zeros many :: rest).map rsD=rd
 walk_at "q"
 refine ⟨fun x hx=>?_,?_⟩
 ·rw [<- er] at hx
  obtain ⟨r,hr,rfl⟩:=xak.mp hx
  have:=hlen r hr
  exact ⟨r,many,rfl,by lia,by walk_at "q"⟩
 ·refine ⟨many,steps,rfl,⟨m1,m2⟩,hin,hl,pw,fun due hd=>?_⟩
  walk_at "q"
  rw [e9,<- er]
  exact zj m1 m2 hin hl hc hr hd h
theorem tM {Q:Md->D->Prop} {ns:List Int} {many:Int} (hn:ns.length<=63) (m1:1<=many) (m2:many<=20) (h:∀ m,Q m (.bl true)) :
  jT { nx:=fun _=>Q .sh .non,rt:=Q } [some (.sh (.list (ns.map .int))),some (.sh (.int many)),none,none,none,none,none,none,none,none]:=by
 obtain ⟨w7,e7⟩:∃ w7,w7=lr:=⟨_,rfl⟩
 unfold jT
 rw [<- e7]
 walk_at "q"
 refine ⟨ns,1,rfl,by decide,?_⟩
 generalize ns.getD _ 0=c1
 walk_at "q"
 refine ⟨ns,2,rfl,by decide,?_⟩
 generalize ns.getD _ 0=c2
 walk_at "q"
 refine ⟨c1,c2,rfl,fun names n1 n7 hd=>?_⟩
 walk_at "q"
 refine ⟨ns,many,names,rfl,⟨m1,m2⟩,⟨n1,n7⟩,hd,fun steps hin hl pw=>?_⟩
 walk_at "q"
 refine .inl ⟨lN _,?_⟩
 refine ⟨many,steps,rfl,⟨m1,by lia⟩,hin,hl,fun rest hc hr=>?_⟩
 unfold rdD
 generalize er:(zeros many :: rest).map rsD=rd
 walk_at "q"
 refine R.F (by decide) ?_
 walk_at "q"
 refine ⟨by rw [<- er]; exact uy _ 10,rfl,?_⟩
 refine R.F (by rw [<- er]; rfl) ?_
 walk_at "q"
 rw [e7,<- er]
 exact yO m1 m2 hin hl pw hc hr h
theorem D_:∀ ds Q,sp_law ds Q->zM { nx:=fun _=>Q .sh .non,rt:=Q } (bH 10 ds):=by
 rintro ds Q ⟨ns,rfl,hn,h⟩
 obtain ⟨w2,e2⟩:∃ w2,w2=jT:=⟨_,rfl⟩
 unfold zM
 rw [<- e2]
 walk_at "q"
 refine ⟨ns,0,rfl,by decide,?_⟩
 generalize ns.getD _ 0=c0
 walk_at "q"
 refine ⟨ns,0,rfl,by decide,?_⟩
 generalize ns.getD _ 0=c0'
 walk_at "q"
 refine R.D (fun e=>?_) fun e=>?_
 ·walk_at "q"
  rw [e2]
  exact tM hn (by decide) (by decide) h
 ·walk_at "q"
  rw [e2]
  exact tM hn (by lia) (by lia) h
def top (i:Nat):Stmt:=PySem.Challenge.pw_kinlook_k30_first_rounds.main.body.getD i (.Pass ⟨0,0,0,0⟩)
abbrev bz:Stmt:=top 1
abbrev iI:List Str:=["m", "exits", "start", "deed", "end"]
abbrev cO:Stmt:=top 3
abbrev lY:List Str:=["exits", "ranks", "state"]
abbrev aG:Stmt:=top 4
abbrev bR:List Str:=["exits", "ranks", "keys", "different", "key"]
abbrev bB:Stmt:=top 5
abbrev lL:List Str:=["m", "exits", "rounds", "ranks"]
abbrev bO:Stmt:=top 6
abbrev nR:List Str:=["m"]
abbrev aQ:Stmt:=top 8
abbrev iH:List Str:=["_law_script", "_law_k"]
abbrev aH:Stmt:=top 9
abbrev bh:List Str:=["_law_cell", "_law_other", "_law_letters", "_law_size", "_law_at", "_law_base", "_law_words", "_law_k", "_law_word", "_law_tail", "_law_first"]
abbrev bj:Stmt:=top 10
abbrev jR:List Str:=["_law_script", "_law_many", "_law_menu_here", "_law_found", "_law_cell", "_law_rest"]
abbrev bf:Stmt:=top 11
abbrev jY:List Str:=["_law_found", "_law_many", "_law_rank"]
abbrev aW:Stmt:=top 12
abbrev dY:List Str:=["_law_many", "_law_steps_here", "_law_rows", "_law_at", "_law_deed", "_law_to", "_law_different", "_law_row"]
abbrev jc:Stmt:=top 13
abbrev xW:List Str:=["_law_script", "_law_many", "_law_menu_here", "_law_steps_here", "_law_handed", "_law_told", "_law_ranks_here", "_law_due_here", "_law_last", "_law_kept"]
structure Txt (K:PySem.W.Frag) (mg:Str->Option Value):Prop where
 n__law_other:mg "_law_other" = none
 n_bool:mg "bool" = none
 n_int:mg "int" = none
 n_isinstance:mg "isinstance" = none
 n_len:mg "len" = none
 n_list:mg "list" = none
 n_range:mg "range" = none
 n_set:mg "set" = none
 n_sorted:mg "sorted" = none
section
variable {P:Program} {w:World} {K:PySem.W.Frag} {mg:Str->Option Value} {base:Heap}
theorem g_:FnScope iI ["m"] (defScope bz):=⟨rfl,rfl,rfl,by decide +kernel,rfl,by decide +kernel,by decide +kernel⟩
theorem nJ {f:Addr} {fd:FuncData} (F:Fun K "exits_of" "exits_of" bz f fd) (T:Txt K mg)  : FnOk P w K mg base CX0 1 f fd ["m"] (au K bx) :=
 FunQ.ok (t:=gh) F g_ m_ (fun cdv A outer s H E hr =>
  have nd:=g_.nd
  have hu:=hr.units
  (aa (cG (i:=1) (tn:=["state"]) (cn:=[]) (ix:=[]) nd rfl (Or.inl rfl) rfl (gn (cJ T.n_range (q_ix hu (qv 0) aq))) (aO.of (sc:=defScope bz) (N:=iI) rfl rfl (by decide +kernel)) (fun _ _ _ _=>(aD (i:=0) (show (["state"]:List Str).Nodup by decide +kernel) rfl (Or.inl rfl) (.inr rfl))) (fun _ _ _ _=>bJ) (fun _ _ _ _=>(gJ aA)))
   (aa (bw 0 (jb PassesOwn.never rfl (gk (q_ix hu (qv 0) aq)) (rQ rfl (cg (aD (i:=2) nd rfl (Or.inl rfl)) (cg (aD (i:=3) nd rfl (Or.inl rfl)) (cg (aD (i:=4) nd rfl (Or.inl rfl)) n6))))
   (ao (bw 4 (bw 3 (jJ (y_ hu (cL (pv 1)) (qv 2)) (qX (aj (qv 3) (aj (qv 4) aA)))))))))
   (ao (u_ (pv 1)))))) qU
theorem lV:FnScope lY ["exits", "ranks", "state"] (defScope cO):=⟨rfl,rfl,rfl,by decide +kernel,rfl,by decide +kernel,by decide +kernel⟩
theorem sO {f:Addr} {fd:FuncData} (F:Fun K "key_of" "key_of" cO f fd) (T:Txt K mg)  : FnOk P w K mg base CX0 1 f fd ["exits", "ranks", "state"] (au K cI) :=
 FunQ.ok (t:=kJ) F lV qY (fun cdv A outer s H E hr =>
  have nd:=lV.nd
  have hu:=hr.units
  (ao (bZ (qX (aj (q_ix hu (qv 1) (qv 2)) (aj (qQ hu rfl T.n_sorted rfl T.n_set (jA (tn:=["deed", "end"]) (cn:=["ranks"]) (ix:=[1]) rfl (ig (q_ix hu (qv 0) (qv 2))) (aO.of (sc:=defScope cO) (N:=lY) rfl rfl (by decide +kernel)) (fun _ _ _ _=>(rQ rfl (cg (aD (i:=0) (show (["deed", "end", "ranks"]:List Str).Nodup by decide +kernel) rfl (Or.inl rfl) (.inr rfl)) (cg (aD (i:=1) (show (["deed", "end", "ranks"]:List Str).Nodup by decide +kernel) rfl (Or.inl rfl) (.inr rfl)) n6)))) (fun _ _ _ _=>bJ) (fun _ _ _ _=>(qX (aj (qv 0) (aj (q_ix hu (qv 2) (qv 1)) aA)))))) aA)))))) wA
theorem cV:FnScope iH ["_law_script", "_law_k"] (defScope aQ):=⟨rfl,rfl,rfl,by decide +kernel,rfl,by decide +kernel,by decide +kernel⟩
theorem iR {f:Addr} {fd:FuncData} (F:Fun K "_law_cell_at" "_law_cell_at" aQ f fd) (T:Txt K mg)  : FnOk P w K mg base CX0 1 f fd ["_law_script", "_law_k"] (au K az) :=
 FunQ.ok (t:=cC) F cV gP (fun cdv A outer s H E hr =>
  have nd:=cV.nd
  have hu:=hr.units
  (aa (fQ (bY Ad Df (qv 1) (dh bN jE rfl T.n_len jx (qv 0)) (nomark _))
   (ao (bZ (q_ix hu (qv 0) (qv 1))))
   bC)
   (ao (bZ aq)))) jm
theorem gr:FnScope bh ["_law_cell", "_law_other"] (defScope aH):=⟨rfl,rfl,rfl,by decide +kernel,rfl,by decide +kernel,by decide +kernel⟩
theorem nj {f:Addr} {fd:FuncData} (F:Fun K "_law_menu" "_law_menu" aH f fd) (T:Txt K mg)  : FnOk P w K mg base CX0 1 f fd ["_law_cell", "_law_other"] (au K bc) :=
 FunQ.ok (t:=eE) F gr lG (fun cdv A outer s H E hr =>
  have nd:=gr.nd
  have hu:=hr.units
  (aa (aN (i:=2) nd rfl (Or.inr rfl) qT)
   (aa (aN (i:=3) nd rfl (Or.inl rfl) (eG aq (cR (qv 0) aq)))
   (aa (aN (i:=4) nd rfl (Or.inr rfl) (cR (lR (qv 0) aq) (qv 3)))
   (aa (aN (i:=5) nd rfl (Or.inr rfl) (jA (tn:=["_law_j"]) (cn:=["_law_cell"]) (ix:=[0]) rfl (gn (cJ T.n_range aq)) (aO.of (sc:=defScope aH) (N:=bh) rfl rfl (by decide +kernel)) (fun _ _ _ _=>(aD (i:=0) (show (["_law_j", "_law_cell"]:List Str).Nodup by decide +kernel) rfl (Or.inl rfl) (.inr rfl))) (fun _ _ _ _=>bJ) (fun _ _ _ _=>(cR (eG (lR (lR (qv 1) aq) (eG (qv 0) aq)) (yW (qv 0) (qv 0))) aq))))
   (aa (aN (i:=6) nd rfl (Or.inl rfl) (gJ aA))
   (aa (jb PassesOwn.never rfl (cJ T.n_range aq) (aD (i:=7) nd rfl (Or.inr rfl))
   (aa (aN (i:=8) nd rfl (Or.inl rfl) (qg qT (jA (tn:=["_law_j"]) (cn:=["_law_at", "_law_base", "_law_k", "_law_letters"]) (ix:=[4,5,7,2]) rfl (gn (cJ T.n_range (qv 3))) (aO.of (sc:=defScope aH) (N:=bh) rfl rfl (by decide +kernel)) (fun _ _ _ _=>(aD (i:=0) (show (["_law_j", "_law_at", "_law_base", "_law_k", "_law_letters"]:List Str).Nodup by decide +kernel) rfl (Or.inl rfl) (.inr rfl))) (fun _ _ _ _=>bJ) (fun _ _ _ _=>(q_ix hu (qv 4) (cR (eG (q_ix hu (qv 2) (qv 0)) (yW (qv 3) (gY call_int1 xK rfl T.n_int pI (uL (kEq (K:=K) hu) k_ (qv 0) (qv 1) (nomark _))))) aq))))))
   (aa (fQ (bY (kEq (K:=K) hu) k_ (cR (qv 1) aq) aq (nomark _))
   (ao (aN (i:=8) nd rfl (Or.inl rfl) (qg qT (jA (tn:=["_law_j"]) (cn:=["_law_base", "_law_letters"]) (ix:=[5,2]) rfl (gn (cJ T.n_range (eG (qv 7) aq))) (aO.of (sc:=defScope aH) (N:=bh) rfl rfl (by decide +kernel)) (fun _ _ _ _=>(aD (i:=0) (show (["_law_j", "_law_base", "_law_letters"]:List Str).Nodup by decide +kernel) rfl (Or.inl rfl) (.inr rfl))) (fun _ _ _ _=>bJ) (fun _ _ _ _=>(q_ix hu (qv 2) (q_ix hu (qv 1) (qv 0))))))))
   bC)
   (aa (fQ (bY (kEq (K:=K) hu) k_ (cR (qv 1) aq) aq (nomark _))
   (aa (cG (i:=9) (tn:=["_law_j"]) (cn:=["_law_base", "_law_letters"]) (ix:=[5,2]) nd rfl (Or.inl rfl) rfl (gn (cJ T.n_range (cR (eG (q_ix hu (qv 5) (CP aq (qv 7))) (qv 7)) aq))) (aO.of (sc:=defScope aH) (N:=bh) rfl rfl (by decide +kernel)) (fun _ _ _ _=>(aD (i:=0) (show (["_law_j", "_law_base", "_law_letters"]:List Str).Nodup by decide +kernel) rfl (Or.inl rfl) (.inr rfl))) (fun _ _ _ _=>bJ) (fun _ _ _ _=>(q_ix hu (qv 2) (q_ix hu (qv 1) (qv 0)))))
   (ao (aN (i:=8) nd rfl (Or.inl rfl) (eG (q_ix hu (qv 2) (cR (eG (q_ix hu (qv 5) aq) (yW aq (qv 7))) aq)) (qg qT (qv 9))))))
   bC)
   (aa (fQ (bY (kEq (K:=K) hu) k_ (cR (qv 1) aq) aq (nomark _))
   (ao (aN (i:=8) nd rfl (Or.inl rfl) (qg qT (jA (tn:=["_law_j"]) (cn:=["_law_base", "_law_k", "_law_letters"]) (ix:=[5,7,2]) rfl (gn (cJ T.n_range aq)) (aO.of (sc:=defScope aH) (N:=bh) rfl rfl (by decide +kernel)) (fun _ _ _ _=>(aD (i:=0) (show (["_law_j", "_law_base", "_law_k", "_law_letters"]:List Str).Nodup by decide +kernel) rfl (Or.inl rfl) (.inr rfl))) (fun _ _ _ _=>bJ) (fun _ _ _ _=>(q_ix hu (qv 3) (cR (eG (q_ix hu (qv 1) aq) (cR (eG (qv 0) (qv 2)) aq)) aq)))))))
   bC)
   (ao (bw 8 (jJ (cL (pv 6)) (qv 8)))))))))
   (aa (aN (i:=10) nd rfl (Or.inl rfl) (cR (lR (qv 1) aq) aq))
   (ao (bZ (uC (eG (gJ (aj qT aA)) (qv 6)) (eF (qv 10)) (eF (eG (eG (qv 10) aq) (cR (lR (qv 1) aq) aq)))))))))))))) nM
theorem fG:FnScope jR ["_law_script", "_law_many", "_law_menu_here"] (defScope bj):=⟨rfl,rfl,rfl,by decide +kernel,rfl,by decide +kernel,by decide +kernel⟩
theorem lg {f:Addr} {fd:FuncData} (F:Fun K "_law_steps" "_law_steps" bj f fd) (T:Txt K mg)  : FnOk P w K mg base CX0 1 f fd ["_law_script", "_law_many", "_law_menu_here"] (au K aV) :=
 FunQ.ok (t:=dF) F fG jr (fun cdv A outer s H E hr =>
  have nd:=fG.nd
  have hu:=hr.units
  (aa (aN (i:=3) nd rfl (Or.inl rfl) yX)
   (aa (bw 0 (jb PassesOwn.never rfl (gk (uC (qv 0) (eF aq) (eF (eG aq aq)))) (aD (i:=4) nd rfl (Or.inl rfl))
   (aa (aN (i:=5) nd rfl (Or.inl rfl) (lR (qv 4) (qv 1)))
   (ao (zY hu (cL (pv 3)) (qX (aj (cR (qv 4) (qv 1)) (aj (q_ix hu (qv 2) (cR (qv 5) (dh bN jE rfl T.n_len jx (qv 2)))) (aj (cR (lR (qv 5) (dh bN jE rfl T.n_len jx (qv 2))) (qv 1)) aA)))) q_bl)))))
   (ao (bZ (dh yN rH rfl T.n_sorted h_ (qv 3))))))) mQ
theorem fD:FnScope jY ["_law_found", "_law_many"] (defScope bf):=⟨rfl,rfl,rfl,by decide +kernel,rfl,by decide +kernel,by decide +kernel⟩
theorem kO {f:Addr} {fd:FuncData} (F:Fun K "_law_ranks" "_law_ranks" bf f fd) (T:Txt K mg)  : FnOk P w K mg base CX0 1 f fd ["_law_found", "_law_many"] (au K aM) :=
 FunQ.ok (t:=cX) F fD ji (fun cdv A outer s H E hr =>
  have nd:=fD.nd
  have hu:=hr.units
  (aa (fQ (qt_w (um (nu (ju (xm T.n_isinstance (qv 0) (vV T.n_list jN)))) (lM (bY (kNe (K:=K) hu) rn (dh bN jE rfl T.n_len jx (qv 0)) (qv 1) (nomark _)))))
   (ao (bZ q_bl))
   bC)
   (aa (bw 0 (jb PassesOwn.never rfl (gk (qv 0)) (aD (i:=2) nd rfl (Or.inl rfl))
   (ao (fQ (qt_w (um (nu (ju (xm T.n_isinstance (qv 2) (vV T.n_int pI)))) (lM (ju (xm T.n_isinstance (qv 2) (vV T.n_bool yV))))))
   (ao (bZ q_bl))
   bC))))
   (ao (bZ q_bl))))) mF
theorem i_:FnScope dY ["_law_many", "_law_steps_here"] (defScope aW):=⟨rfl,rfl,rfl,by decide +kernel,rfl,by decide +kernel,by decide +kernel⟩
theorem oN {f:Addr} {fd:FuncData} (F:Fun K "_law_due" "_law_due" aW f fd) (T:Txt K mg)  : FnOk P w K mg base CX0 1 f fd ["_law_many", "_law_steps_here"] (au K bA) :=
 FunQ.ok (t:=fW) F i_ mX (fun cdv A outer s H E hr =>
  have nd:=i_.nd
  have hu:=hr.units
  (aa (cG (i:=2) (tn:=["_law_k"]) (cn:=[]) (ix:=[]) nd rfl (Or.inl rfl) rfl (gn (cJ T.n_range (qv 0))) (aO.of (sc:=defScope aW) (N:=dY) rfl rfl (by decide +kernel)) (fun _ _ _ _=>(aD (i:=0) (show (["_law_k"]:List Str).Nodup by decide +kernel) rfl (Or.inl rfl) (.inr rfl))) (fun _ _ _ _=>bJ) (fun _ _ _ _=>(gJ aA)))
   (aa (bw 1 (jb PassesOwn.never rfl (gk (qv 1)) (rQ rfl (cg (aD (i:=3) nd rfl (Or.inl rfl)) (cg (aD (i:=4) nd rfl (Or.inl rfl)) (cg (aD (i:=5) nd rfl (Or.inl rfl)) n6))))
   (ao (fQ (bY (Af (K:=K) hu) DP (qv 4) (q_ix hu (qv 2) (qv 3)) (by rfl))
   (ao (bw 4 (jJ (y_ hu (cL (pv 2)) (qv 3)) (qv 4))))
   bC))))
   (aa (aN (i:=6) nd rfl (Or.inr rfl) (gJ aA))
   (aa (bw 2 (jb PassesOwn.never rfl (gk (qv 2)) (aD (i:=7) nd rfl (Or.inl rfl))
   (ao (fQ (bY (uh (K:=K) hu) xZ (qv 7) (qv 6) (by rfl))
   (ao (bw 7 (jJ (cL (pv 6)) (qv 7))))
   bC))))
   (ao (bZ (yQ (tn:=["_law_row"]) (cn:=["_law_different"]) (ix:=[6]) rfl (ig (qv 2)) (di.of (sc:=defScope aW) (N:=dY) rfl rfl (by decide +kernel)) (fun _ _ _ _=>(aD (i:=0) (show (["_law_row", "_law_different"]:List Str).Nodup by decide +kernel) rfl (Or.inr rfl) (.inl rfl))) (fun _ _ _ _=>bJ) (fun _ _ _ _=>(dh bN jE rfl T.n_len jx (zB (tn:=["_law_other"]) (cn:=["_law_row"]) (ix:=[0]) rfl (ig (qv 1)) (aO.inC (sc:=defScope aW) rfl (by decide +kernel)) (fun _ _ _ _=>(aD (i:=0) (show (["_law_other", "_law_row"]:List Str).Nodup by decide +kernel) rfl (Or.inl rfl) (.inr rfl))) (fun _ _ _ _=>(yD (bY (kLtR (K:=K) hu) Ci (qv 0) (qv 1) (nomark _)))) (fun _ _ _ _=>(qv 0))))))))))))) qu
theorem dD:FnScope bR ["exits", "ranks"] (defScope aG):=⟨rfl,rfl,rfl,by decide +kernel,rfl,by decide +kernel,by decide +kernel⟩
theorem iQ {f:Addr} {fd:FuncData} (F:Fun K "ranks_behind" "ranks_behind" aG f fd) (T:Txt K mg) (c_key_of:Cal P w K mg base 1 "key_of" ["exits", "ranks", "state"] (au K cI)):FnOk P w K mg base CX0 2 f fd ["exits", "ranks"] (au K aJ) :=
 FunQ.ok (t:=cz) F dD gK (fun cdv A outer s H E hr =>
  have nd:=dD.nd
  have hu:=hr.units
  (aa (cG (i:=2) (tn:=["state"]) (cn:=["exits", "ranks"]) (ix:=[0,1]) nd rfl (Or.inl rfl) rfl (gn (cJ T.n_range (dh bN jE rfl T.n_len jx (qv 1)))) (aO.of (sc:=defScope aG) (N:=bR) rfl rfl (by decide +kernel)) (fun _ _ _ _=>(aD (i:=0) (show (["state", "exits", "ranks"]:List Str).Nodup by decide +kernel) rfl (Or.inl rfl) (.inr rfl))) (fun _ _ _ _=>bJ) (fun _ _ _ _=>(cU c_key_of (hr.mono (by decide)) (aj (qv 1) (aj (qv 2) (aj (qv 0) aA))))))
   (aa (aN (i:=3) nd rfl (Or.inr rfl) (gJ aA))
   (aa (bw 2 (jb PassesOwn.never rfl (gk (dh (BV hu) vA rfl T.n_sorted h_ (qv 2))) (aD (i:=4) nd rfl (Or.inl rfl))
   (ao (fQ (bY (uh (K:=K) hu) xZ (qv 4) (qv 3) (by rfl))
   (ao (bw 4 (jJ (cL (pv 3)) (qv 4))))
   bC))))
   (ao (bZ (jA (tn:=["key"]) (cn:=["different"]) (ix:=[3]) rfl (ig (qv 2)) (aO.of (sc:=defScope aG) (N:=bR) rfl rfl (by decide +kernel)) (fun _ _ _ _=>(aD (i:=0) (show (["key", "different"]:List Str).Nodup by decide +kernel) rfl (Or.inl rfl) (.inr rfl))) (fun _ _ _ _=>bJ) (fun _ _ _ _=>(z7 hu (qv 1) (qv 0)))))))))) jh
theorem gF:FnScope lL ["m"] (defScope bB):=⟨rfl,rfl,rfl,by decide +kernel,rfl,by decide +kernel,by decide +kernel⟩
theorem lW {f:Addr} {fd:FuncData} (F:Fun K "rounds_of" "rounds_of" bB f fd) (T:Txt K mg) (c_exits_of:Cal P w K mg base 1 "exits_of" ["m"] (au K bx)) (c_ranks_behind:Cal P w K mg base 2 "ranks_behind" ["exits", "ranks"] (au K aJ)):FnOk P w K mg base CX0 3 f fd ["m"] (au K aL) :=
 FunQ.ok (t:=eO) F gF lE (fun cdv A outer s H E hr =>
  have nd:=gF.nd
  have hu:=hr.units
  (aa (aN (i:=1) nd rfl (Or.inl rfl) (cU c_exits_of (hr.mono (by decide)) (aj (qv 0) aA)))
   (aa (aN (i:=2) nd rfl (Or.inl rfl) (gJ (aj (xM (gJ (aj aq aA)) (q_ix hu (qv 0) aq)) aA)))
   (aa (aN (i:=3) nd rfl (Or.inl rfl) (cU c_ranks_behind (hr.mono (by decide)) (aj (qv 1) (aj (q_ix hu (qv 2) aq) aA))))
   (aa (vP PassesOwn.never (bY (kNe (K:=K) hu) rn (qv 3) (q_ix hu (qv 2) (wz aq)) (nomark _))
   (wy nd rfl (Or.inl rfl) (pv 2) (pv 3) (cU c_ranks_behind (hr.mono (by decide)) (aj (qv 1) (aj (qv 3) aA)))))
   (ao (u_ (pv 2)))))))) n8
theorem iW:FnScope nR ["m"] (defScope bO):=⟨rfl,rfl,rfl,by decide +kernel,rfl,by decide +kernel,by decide +kernel⟩
theorem oH {f:Addr} {fd:FuncData} (F:Fun K "kinds_of" "kinds_of" bO f fd) (T:Txt K mg) (c_rounds_of:Cal P w K mg base 3 "rounds_of" ["m"] (au K aL)):FnOk P w K mg base CX0 4 f fd ["m"] (au K aZ) :=
 FunQ.ok (t:=fU) F iW mJ (fun cdv A outer s H E hr =>
  have nd:=iW.nd
  have hu:=hr.units
  (ao (bZ (De (cU c_rounds_of (hr.mono (by decide)) (aj (qv 0) aA)) (wz aq))))) qp
theorem xH:FnScope xW ["_law_script"] (defScope jc):=⟨rfl,rfl,rfl,by decide +kernel,rfl,by decide +kernel,by decide +kernel⟩
theorem ok_law {f:Addr} {fd:FuncData} (F:Fun K "law" "law" jc f fd) (T:Txt K mg) (c__law_menu:Cal P w K mg base 1 "_law_menu" ["_law_cell", "_law_other"] (au K bc)) (c__law_steps:Cal P w K mg base 1 "_law_steps" ["_law_script", "_law_many", "_law_menu_here"] (au K aV)) (c_rounds_of:Cal P w K mg base 3 "rounds_of" ["m"] (au K aL)) (c__law_due:Cal P w K mg base 1 "_law_due" ["_law_many", "_law_steps_here"] (au K bA)) (c_kinds_of:Cal P w K mg base 4 "kinds_of" ["m"] (au K aZ)) (c__law_cell_at:Cal P w K mg base 1 "_law_cell_at" ["_law_script", "_law_k"] (au K az)) (c__law_ranks:Cal P w K mg base 1 "_law_ranks" ["_law_found", "_law_many"] (au K aM)):FnOk P w K mg base CX0 5 f fd ["_law_script"] (au K sp_law) :=
 FunQ.ok (t:=zM) F xH zL (fun cdv A outer s H E hr =>
  have nd:=xH.nd
  have hu:=hr.units
  (aa (aN (i:=1) nd rfl (Or.inl rfl) (eG aq (cR (cU c__law_cell_at (hr.mono (by decide)) (aj (qv 0) (aj aq aA))) aq)))
   (aa (fQ (bY (kEq (K:=K) hu) k_ (cR (lR (cU c__law_cell_at (hr.mono (by decide)) (aj (qv 0) (aj aq aA))) aq) aq) aq (nomark _))
   (ao (aN (i:=1) nd rfl (Or.inl rfl) aq))
   bC)
   (aa (aN (i:=2) nd rfl (Or.inl rfl) (cU c__law_menu (hr.mono (by decide)) (aj (cU c__law_cell_at (hr.mono (by decide)) (aj (qv 0) (aj aq aA))) (aj (cU c__law_cell_at (hr.mono (by decide)) (aj (qv 0) (aj aq aA))) aA))))
   (aa (aN (i:=3) nd rfl (Or.inl rfl) (cU c__law_steps (hr.mono (by decide)) (aj (qv 0) (aj (qv 1) (aj (qv 2) aA)))))
   (aa (bw 1 (aN (i:=4) nd rfl (Or.inl rfl) (qX (aj (qv 1) (aj (gY jC vd rfl T.n_list jN (qv 3)) aA)))))
   (aa (aN (i:=5) nd rfl (Or.inl rfl) (cU c_rounds_of (hr.mono (by decide)) (aj (qv 4) aA)))
   (aa (fQ (qt_w (um (nu (ju (xm T.n_isinstance (qv 5) (vV T.n_list jN)))) (lM (bY (kEq (K:=K) hu) k_ (qv 5) (gJ aA) (nomark _)))))
   (ao (bZ q_bl))
   bC)
   (aa (qR (i:=5) (j:=6) PassesOwn.never rfl nd rfl (Or.inl rfl) (pv 5) (nu (ju (cU c__law_ranks (hr.mono (by decide)) (aj (qv 6) (aj (qv 1) aA))))))
   (aa (aN (i:=7) nd rfl (Or.inl rfl) (cU c__law_due (hr.mono (by decide)) (aj (qv 1) (aj (qv 3) aA))))
   (aa (bw 7 (fQ (qt_w (um (bY (kNe (K:=K) hu) rn (q_ix hu (qv 5) aq) (xM (gJ (aj aq aA)) (qv 1)) (nomark _)) (lM (bY (kNe (K:=K) hu) rn (oX (qv 5) (eF aq) (eF aq)) (oX (gJ (aj (qv 7) aA)) yz (eF (gY call_int1 xK rfl T.n_int pI (uL (kNe (K:=K) hu) rn (qv 7) (q_ix hu (qv 5) aq) (nomark _))))) (nomark _)))))
   (ao (bZ q_bl))
   bC))
   (aa (aN (i:=8) nd rfl (Or.inl rfl) (cU c_kinds_of (hr.mono (by decide)) (aj (qv 4) aA)))
   (aa (fQ (qt_w (um (nu (ju (cU c__law_ranks (hr.mono (by decide)) (aj (qv 8) (aj (qv 1) aA))))) (lM (bY (kNe (K:=K) hu) rn (qv 8) (q_ix hu (qv 5) (wz aq)) (nomark _)))))
   (ao (bZ q_bl))
   bC)
   (aa (cG (i:=9) (tn:=["_law_ranks_here"]) (cn:=[]) (ix:=[]) nd rfl (Or.inl rfl) rfl (ig (qv 5)) (aO.of (sc:=defScope jc) (N:=xW) rfl rfl (by decide +kernel)) (fun _ _ _ _=>(aD (i:=0) (show (["_law_ranks_here"]:List Str).Nodup by decide +kernel) rfl (Or.inl rfl) (.inr rfl))) (fun _ _ _ _=>bJ) (fun _ _ _ _=>(gY jC vd rfl T.n_list jN (qv 0))))
   (aa (bw 1 (tZ (cL (pv 8)) aq (qv 1)))
   (aa (bw 1 (tZ (y_ hu (cL (pv 5)) aq) aq (qv 1)))
   (aa (jJ (cL (pv 5)) (gJ aA))
   (ao (bw 3 (bw 1 (bZ (Bk (uL (kEq (K:=K) hu) k_ (cU c_rounds_of (hr.mono (by decide)) (aj (qv 4) aA)) (qv 9) (nomark _)) (Bk (uL (kEq (K:=K) hu) k_ (cU c_kinds_of (hr.mono (by decide)) (aj (qv 4) aA)) (q_ix hu (qv 9) (wz aq)) (nomark _)) (Ed (uL (kEq (K:=K) hu) k_ (qv 4) (qX (aj (qv 1) (aj (qv 3) aA))) (nomark _)))))))))))))))))))))))))) D_
end
theorem us1 {us:List Value} (h:us.length=1):∃ a0,us=[a0]:=by
 cases us with
 | nil=>simp at h
 | cons a0 us =>
 cases us with
 | nil=>exact ⟨_,rfl⟩
 | cons b us=>simp at h
theorem us2 {us:List Value} (h:us.length=2):∃ a0 a1,us=[a0,a1]:=by
 cases us with
 | nil=>simp at h
 | cons a0 us =>
 cases us with
 | nil=>simp at h
 | cons a1 us =>
 cases us with
 | nil=>exact ⟨_,_,rfl⟩
 | cons b us=>simp at h
theorem us3 {us:List Value} (h:us.length=3):∃ a0 a1 a2,us=[a0,a1,a2]:=by
 cases us with
 | nil=>simp at h
 | cons a0 us =>
 cases us with
 | nil=>simp at h
 | cons a1 us =>
 cases us with
 | nil=>simp at h
 | cons a2 us =>
 cases us with
 | nil=>exact ⟨_,_,_,rfl⟩
 | cons b us=>simp at h
theorem all_mk {l:PySem.W.OpenLaw} {w:World} {K:PySem.W.Frag} {h:Heap} {mg:Str->Option Value} {fa:Addr} (X:K.In h) (G:h.Ns mainGlobals mg) (hfa:mg "law" = some (.ref fa))
  (a0:PySem.W.nsIn K mainGlobals "exits_of" = some (some (.ref f0))) (l0:K.lookup f0=some ⟨o0,d0,.func (PySem.W.fnOf "exits_of" "exits_of" (defArgs bz) (defBody bz) (defScope bz) .none v0 j0 p0 e0 r0 u0),t0⟩) (c0:PySem.W.codeIn K r0 "exits_of" = true) (k0:PySem.W.keepIn K (.ref f0)=true)
  (a1:PySem.W.nsIn K mainGlobals "key_of" = some (some (.ref f1))) (l1:K.lookup f1=some ⟨o1,d1,.func (PySem.W.fnOf "key_of" "key_of" (defArgs cO) (defBody cO) (defScope cO) .none v1 j1 p1 e1 r1 u1),t1⟩) (c1:PySem.W.codeIn K r1 "key_of" = true) (k1:PySem.W.keepIn K (.ref f1)=true)
  (a2:PySem.W.nsIn K mainGlobals "ranks_behind" = some (some (.ref f2))) (l2:K.lookup f2=some ⟨o2,d2,.func (PySem.W.fnOf "ranks_behind" "ranks_behind" (defArgs aG) (defBody aG) (defScope aG) .none v2 j2 p2 e2 r2 u2),t2⟩) (c2:PySem.W.codeIn K r2 "ranks_behind" = true) (k2:PySem.W.keepIn K (.ref f2)=true)
  (a3:PySem.W.nsIn K mainGlobals "rounds_of" = some (some (.ref f3))) (l3:K.lookup f3=some ⟨o3,d3,.func (PySem.W.fnOf "rounds_of" "rounds_of" (defArgs bB) (defBody bB) (defScope bB) .none v3 j3 p3 e3 r3 u3),t3⟩) (c3:PySem.W.codeIn K r3 "rounds_of" = true) (k3:PySem.W.keepIn K (.ref f3)=true)
  (a4:PySem.W.nsIn K mainGlobals "kinds_of" = some (some (.ref f4))) (l4:K.lookup f4=some ⟨o4,d4,.func (PySem.W.fnOf "kinds_of" "kinds_of" (defArgs bO) (defBody bO) (defScope bO) .none v4 j4 p4 e4 r4 u4),t4⟩) (c4:PySem.W.codeIn K r4 "kinds_of" = true) (k4:PySem.W.keepIn K (.ref f4)=true)
  (a5:PySem.W.nsIn K mainGlobals "_law_cell_at" = some (some (.ref f5))) (l5:K.lookup f5=some ⟨o5,d5,.func (PySem.W.fnOf "_law_cell_at" "_law_cell_at" (defArgs aQ) (defBody aQ) (defScope aQ) .none v5 j5 p5 e5 r5 u5),t5⟩) (c5:PySem.W.codeIn K r5 "_law_cell_at" = true) (k5:PySem.W.keepIn K (.ref f5)=true)
  (a6:PySem.W.nsIn K mainGlobals "_law_menu" = some (some (.ref f6))) (l6:K.lookup f6=some ⟨o6,d6,.func (PySem.W.fnOf "_law_menu" "_law_menu" (defArgs aH) (defBody aH) (defScope aH) .none v6 j6 p6 e6 r6 u6),t6⟩) (c6:PySem.W.codeIn K r6 "_law_menu" = true) (k6:PySem.W.keepIn K (.ref f6)=true)
  (a7:PySem.W.nsIn K mainGlobals "_law_steps" = some (some (.ref f7))) (l7:K.lookup f7=some ⟨o7,d7,.func (PySem.W.fnOf "_law_steps" "_law_steps" (defArgs bj) (defBody bj) (defScope bj) .none v7 j7 p7 e7 r7 u7),t7⟩) (c7:PySem.W.codeIn K r7 "_law_steps" = true) (k7:PySem.W.keepIn K (.ref f7)=true)
  (a8:PySem.W.nsIn K mainGlobals "_law_ranks" = some (some (.ref f8))) (l8:K.lookup f8=some ⟨o8,d8,.func (PySem.W.fnOf "_law_ranks" "_law_ranks" (defArgs bf) (defBody bf) (defScope bf) .none v8 j8 p8 e8 r8 u8),t8⟩) (c8:PySem.W.codeIn K r8 "_law_ranks" = true) (k8:PySem.W.keepIn K (.ref f8)=true)
  (a9:PySem.W.nsIn K mainGlobals "_law_due" = some (some (.ref f9))) (l9:K.lookup f9=some ⟨o9,d9,.func (PySem.W.fnOf "_law_due" "_law_due" (defArgs aW) (defBody aW) (defScope aW) .none v9 j9 p9 e9 r9 u9),t9⟩) (c9:PySem.W.codeIn K r9 "_law_due" = true) (k9:PySem.W.keepIn K (.ref f9)=true)
  (a10:PySem.W.nsIn K mainGlobals "law" = some (some (.ref f10))) (l10:K.lookup f10=some ⟨o10,d10,.func (PySem.W.fnOf "law" "law" (defArgs jc) (defBody jc) (defScope jc) .none v10 j10 p10 e10 r10 u10),t10⟩) (c10:PySem.W.codeIn K r10 "law" = true) (k10:PySem.W.keepIn K (.ref f10)=true)
  (n__law_other:PySem.W.nsIn K mainGlobals "_law_other" = some none)
  (n_bool:PySem.W.nsIn K mainGlobals "bool" = some none)
  (n_int:PySem.W.nsIn K mainGlobals "int" = some none)
  (n_isinstance:PySem.W.nsIn K mainGlobals "isinstance" = some none)
  (n_len:PySem.W.nsIn K mainGlobals "len" = some none)
  (n_list:PySem.W.nsIn K mainGlobals "list" = some none)
  (n_range:PySem.W.nsIn K mainGlobals "range" = some none)
  (n_set:PySem.W.nsIn K mainGlobals "set" = some none)
  (n_sorted:PySem.W.nsIn K mainGlobals "sorted" = some none)
  : ∃ fd:FuncData,(∀ (s:Shared) (v:Value),BindsTo s fd ⟨[v],[]⟩ [("_law_script",v)])/\∀ base:Heap,K.In base->base.Ns mainGlobals mg->FnOk l.prog w K mg base CX0 5 fa fd ["_law_script"] (au K sp_law):=by
 have e:=hfa.symm.trans (PySem.W.mg_of X G a10)
 cases e
 have T:Txt K mg:=⟨PySem.W.mg_none_of X G n__law_other,PySem.W.mg_none_of X G n_bool,PySem.W.mg_none_of X G n_int,PySem.W.mg_none_of X G n_isinstance,PySem.W.mg_none_of X G n_len,PySem.W.mg_none_of X G n_list,PySem.W.mg_none_of X G n_range,PySem.W.mg_none_of X G n_set,PySem.W.mg_none_of X G n_sorted⟩
 have F0:=fun_mk (st:=bz) l0 c0 k0
 have F1:=fun_mk (st:=cO) l1 c1 k1
 have F2:=fun_mk (st:=aG) l2 c2 k2
 have F3:=fun_mk (st:=bB) l3 c3 k3
 have F4:=fun_mk (st:=bO) l4 c4 k4
 have F5:=fun_mk (st:=aQ) l5 c5 k5
 have F6:=fun_mk (st:=aH) l6 c6 k6
 have F7:=fun_mk (st:=bj) l7 c7 k7
 have F8:=fun_mk (st:=bf) l8 c8 k8
 have F9:=fun_mk (st:=aW) l9 c9 k9
 have F10:=fun_mk (st:=jc) l10 c10 k10
 refine ⟨PySem.W.fnOf "law" "law" (defArgs jc) (defBody jc) (defScope jc) .none v10 j10 p10 e10 r10 u10,fun s v=>.of_eq rfl,fun base _ _=>?_⟩
 have C0:Cal l.prog w K mg base 1 "exits_of" ["m"] (au K bx):=F0.cal (PySem.W.mg_of X G a0) (nJ F0 T ) fun _ _ _ _ _ _ us hl=>by obtain ⟨_,rfl⟩:=us1 hl; rfl
 have C1:Cal l.prog w K mg base 1 "key_of" ["exits", "ranks", "state"] (au K cI):=F1.cal (PySem.W.mg_of X G a1) (sO F1 T ) fun _ _ _ _ _ _ us hl=>by obtain ⟨_,_,_,rfl⟩:=us3 hl; rfl
 have C5:Cal l.prog w K mg base 1 "_law_cell_at" ["_law_script", "_law_k"] (au K az):=F5.cal (PySem.W.mg_of X G a5) (iR F5 T ) fun _ _ _ _ _ _ us hl=>by obtain ⟨_,_,rfl⟩:=us2 hl; rfl
 have C6:Cal l.prog w K mg base 1 "_law_menu" ["_law_cell", "_law_other"] (au K bc):=F6.cal (PySem.W.mg_of X G a6) (nj F6 T ) fun _ _ _ _ _ _ us hl=>by obtain ⟨_,_,rfl⟩:=us2 hl; rfl
 have C7:Cal l.prog w K mg base 1 "_law_steps" ["_law_script", "_law_many", "_law_menu_here"] (au K aV):=F7.cal (PySem.W.mg_of X G a7) (lg F7 T ) fun _ _ _ _ _ _ us hl=>by obtain ⟨_,_,_,rfl⟩:=us3 hl; rfl
 have C8:Cal l.prog w K mg base 1 "_law_ranks" ["_law_found", "_law_many"] (au K aM):=F8.cal (PySem.W.mg_of X G a8) (kO F8 T ) fun _ _ _ _ _ _ us hl=>by obtain ⟨_,_,rfl⟩:=us2 hl; rfl
 have C9:Cal l.prog w K mg base 1 "_law_due" ["_law_many", "_law_steps_here"] (au K bA):=F9.cal (PySem.W.mg_of X G a9) (oN F9 T ) fun _ _ _ _ _ _ us hl=>by obtain ⟨_,_,rfl⟩:=us2 hl; rfl
 have C2:Cal l.prog w K mg base 2 "ranks_behind" ["exits", "ranks"] (au K aJ):=F2.cal (PySem.W.mg_of X G a2) (iQ F2 T C1) fun _ _ _ _ _ _ us hl=>by obtain ⟨_,_,rfl⟩:=us2 hl; rfl
 have C3:Cal l.prog w K mg base 3 "rounds_of" ["m"] (au K aL):=F3.cal (PySem.W.mg_of X G a3) (lW F3 T C0 C2) fun _ _ _ _ _ _ us hl=>by obtain ⟨_,rfl⟩:=us1 hl; rfl
 have C4:Cal l.prog w K mg base 4 "kinds_of" ["m"] (au K aZ):=F4.cal (PySem.W.mg_of X G a4) (oH F4 T C3) fun _ _ _ _ _ _ us hl=>by obtain ⟨_,rfl⟩:=us1 hl; rfl
 exact ok_law F10 T C6 C7 C3 C9 C4 C5 C8
theorem walk {l:PySem.W.OpenLaw} {q:Program} {loose:List Str} {XP:(Str->Option Value)->Heap->Prop} {YP:World->Heap->Prop} {d:DefRec} {K:Params->PySem.W.Frag} (hn:l.most=some 63) (hdf:d.params.defaults=[])
  (hY:∀ (w:World) (h:Heap),YP w h->(K w.params).In h)
  (F:∀ (w:World) (mg:Str->Option Value) (fa:Addr) (h:Heap),(K w.params).In h->h.Ns mainGlobals mg->mg d.name=some (.ref fa) ->
   ∃ fd:FuncData,(∀ (s:Shared) (u:Value),BindsTo s fd ⟨[u],[]⟩ [("_law_script",u)])/\∀ base:Heap,(K w.params).In base->base.Ns mainGlobals mg->FnOk l.prog w (K w.params) mg base CX0 5 fa fd ["_law_script"] (au (K w.params) sp_law)) :
  PySem.W.WalkO q loose XP YP l.row.toRowW d [] (fun f vs=>PySem.call f vs) :=
 L2.walk_of (n:=63) (k:=5) (x := "_law_script") (CX:=fun _=>CX0) (sp:=fun w=>au (K w.params) sp_law) hn (by decide) hdf ⟨rfl,by decide,by decide⟩ hY F (fun w H a ns hl hO hS=>vZ hl hS) fun _ _ _ _ _ z=>z
end L2.Q.Law
open PySem PySem.W PyProof.Rows
set_option maxRecDepth 100000 in
set_option maxHeartbeats 0 in
theorem PySem.Challenge.cw_kinlook_k30_first_rounds_holds : PySem.Challenge.rw_kinlook_k30_first_rounds.Holds := by
 w_on; o_law; k_head; (case hw=>w_witness2)
 k_fill
 refine L2.Q.Law.walk (l:=PySem.Challenge.rw_kinlook_k30_first_rounds) rfl rfl (fun w h Y=>PySem.W.kIn_of Y) ?F
 case F =>
  intro w mg fa h KX G hmg
  refine' L2.Q.Law.all_mk KX G hmg ?a0 ?l0 ?c0 ?k0 ?a1 ?l1 ?c1 ?k1 ?a2 ?l2 ?c2 ?k2 ?a3 ?l3 ?c3 ?k3 ?a4 ?l4 ?c4 ?k4 ?a5 ?l5 ?c5 ?k5 ?a6 ?l6 ?c6 ?k6 ?a7 ?l7 ?c7 ?k7 ?a8 ?l8 ?c8 ?k8 ?a9 ?l9 ?c9 ?k9 ?a10 ?l10 ?c10 ?k10 ?n__law_other ?n_bool ?n_int ?n_isinstance ?n_len ?n_list ?n_range ?n_set ?n_sorted
  (case a0=>k_is)
  (case l0=>k_is)
  (case c0=>k_is)
  (case k0=>k_is)
  (case a1=>k_is)
  (case l1=>k_is)
  (case c1=>k_is)
  (case k1=>k_is)
  (case a2=>k_is)
  (case l2=>k_is)
  (case c2=>k_is)
  (case k2=>k_is)
  (case a3=>k_is)
  (case l3=>k_is)
  (case c3=>k_is)
  (case k3=>k_is)
  (case a4=>k_is)
  (case l4=>k_is)
  (case c4=>k_is)
  (case k4=>k_is)
  (case a5=>k_is)
  (case l5=>k_is)
  (case c5=>k_is)
  (case k5=>k_is)
  (case a6=>k_is)
  (case l6=>k_is)
  (case c6=>k_is)
  (case k6=>k_is)
  (case a7=>k_is)
  (case l7=>k_is)
  (case c7=>k_is)
  (case k7=>k_is)
  (case a8=>k_is)
  (case l8=>k_is)
  (case c8=>k_is)
  (case k8=>k_is)
  (case a9=>k_is)
  (case l9=>k_is)
  (case c9=>k_is)
  (case k9=>k_is)
  (case a10=>k_is)
  (case l10=>k_is)
  (case c10=>k_is)
  (case k10=>k_is)
  (case n__law_other=>k_is)
  (case n_bool=>k_is)
  (case n_int=>k_is)
  (case n_isinstance=>k_is)
  (case n_len=>k_is)
  (case n_list=>k_is)
  (case n_range=>k_is)
  (case n_set=>k_is)
  (case n_sorted=>k_is)
