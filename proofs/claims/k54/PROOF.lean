import PyProof.Rows.All
import Wide.All
import OpenK.AllK
import Wide.FinOn
import Lean
import PyProof.EqAt
import PyProof.EqKinds
import PyProof.TupleCall
import PyProof.CompUse
import PyProof.NeData
import PyProof.WalksEnum
import PyProof.EnumMake
import PyProof.ZipIter
import PyProof.Rows.EnumRows
import PyProof.Rows.FactsT2
import KE.KDictList
import PyProof.Rows.SortRuns
import PyProof.Rows.SortWalk
import KE.KSortTup
import PyProof.Rows.SortStr
import PyProof.ListRange
import PyProof.StrOps2
import PyProof.StrBlock2
import PyProof.AutoIntG3
import PyProof.ListMulRight
import PyProof.Rows.ListMulArg
import PyProof.Rows.CallKwBuiltin
import PyProof.Rows.StrMul
import KE.KMinBuiltin
import PyProof.TupleKey
import PyProof.SetKind
import PyProof.Rows.SetFrom
import PyProof.DictWalks
import KE.KRevIter
import PyProof.AutoSeq1
import PyProof.DictUpdate
import PySem.Challenge.RW_kinlook_k54_rounds_of_following
open PySem renaming wpAny_bind->xaa,wpAny_pure->xae,wpAny_mono->xaM
open List renaming mem_cons_of_mem->xab,mem_cons_self->xac,length_map->xad,mem_append->xaf,mem_append_right->xag,mem_map->xai,nodup_append->xaj,mem_cons->xak,length_append->xam,sublist_append_right->xan,mem_append_left->xap,map_cons->xaq,size_toArray->xav,getElem?_eq_some_iff->xaw,nodup_cons->xax,nodup_nil->xaB,length_take->xaC,append_nil->xaE,map_append->xaF,map_map->xaG,mem_singleton->xaH,mem_filter->xaJ,length_cons->xaK,mem_of_getElem?->xaL,getElem?_map->xaN,filterMap_cons->xaP,pairwise_map->xaR,mem_range->xaS,getElem?_append_right->xaU,lookup_cons->xaV,nil_sublist->xaW,append_assoc->xa0,drop_eq_getElem_cons->xa1,getElem?_eq_getElem->xa4,sublist_append_left->xa5,length_drop->xa8,pairwise_iff_getElem->xa9,take_length->xba,not_mem_nil->xbf,append_eq_nil_iff->xbg,zip_cons_cons->xbj,getElem?_eq_none->xbl,length_zip->xbn,getElem?_append_left->xbo,all_cons->xbp,any_cons->xbq,take_add_one->xbr,replicate_succ->xbt,map_congr_left->xbv,length_eq_zero_iff->xbw,find?_cons->xbx,length_singleton->xbA,ext_getElem?->xbC,getElem?_set_ne->xbD,pairwise_append->xbE,mem_of_mem_drop->xbF,mem_of_mem_take->xbG,cons_ne_nil->xbJ,extract_eq_drop_take->xbL,getElem?_replicate->xbP,flatten_cons->xbT,take_of_length_le->xbU,length_replicate->xbV,cons_append->xbW,filter_cons->xbX,all_eq_true->xbY,perm_append_comm->xbZ,take_append_drop->xb2,map_fst_zip->xb3,countP_cons->xb4,eq_nil_iff_forall_not_mem->xb5,filter_map->xb9,contains_cons->xcg,drop_length->xcm,any_eq_true->xcn,map_nil->xco
open Nat renaming le_refl->xah,lt_of_lt_of_le->xal,zero_le->xar,le_trans->xaz,ne_of_lt->xaA,lt_irrefl->xaO,le_of_lt->xaT,lt_succ_of_lt->xaZ,add_sub_of_le->xbc,le_add_right->xbe,succ_pos->xbm,le_of_not_lt->xbH,add_assoc->xbK,lt_of_le_of_lt->xbO,mul_le_mul->xbQ,lt_of_succ_lt->xbR,le_of_succ_le->xbS,one_pos->xb1,le_antisymm->xb7,add_comm->xca,zero_add->xcb,min_self->xcc,sub_lt->xcd,le_of_eq->xcp,add_zero->xcq
open PySem.Heap renaming lt_size->xao,get?_push_of_some->xau,get?_push_size->xaI,get?_push_ne->xbs,size_update->xbu,get?_update_self->xbB,size_push->xce
open Bool renaming false_ne_true->xas,false_eq_true->xat,and_eq_true->xay,eq_iff_iff->xa3,not_eq_true'->xck,eq_false_iff->xcl
open Array renaming toList_push->xaD,getElem?_toList->xaQ,eq_empty_of_size_eq_zero->xaX,length_toList->xaY,size_extract->xbb,getD_eq_getD_getElem?->xbh,append_assoc->xbi,getElem?_eq_some_iff->xbk,getElem?_eq_none->xby,getElem?_extract->xbz,perm_iff_toList_perm->xbI,toList_inj->xb0,toList_extract->xb6,append_empty->xcf
open Int renaming le_trans->xa2,le_refl->xa6,toNat_of_nonneg->xa7,le_of_lt->xbd,emod_nonneg->xb8,emod_lt_of_pos->xci
open Option renaming map_some->xbM,isSome_iff_exists->xbN,isSome_map->xcj
local macro_rules | `(command| def $i:declId $s:optDeclSig $v:declVal)=>`(command| noncomputable def $i:declId $s:optDeclSig $v:declVal)
local macro_rules | `(command| abbrev $i:declId $s:optDeclSig $v:declVal)=>`(command| noncomputable abbrev $i:declId $s:optDeclSig $v:declVal)
set_option compiler.extract_closed false
local macro_rules | `(tactic| walk_at "l") => `(tactic| first | lia | omega)
local macro_rules | `(tactic| walk_at "s1") => `(tactic| solve_by_elim (maxDepth := 4) [Nat.lt_of_lt_of_le, Nat.lt_of_le_of_lt, Nat.le_trans, Nat.lt_trans, Nat.le_of_lt, Nat.le_of_not_lt])
local macro_rules | `(tactic| walk_at "s2") => `(tactic| solve_by_elim (maxDepth := 5) [Nat.lt_of_lt_of_le, Nat.lt_of_le_of_lt, Nat.le_trans, Nat.le_of_lt, Nat.le_of_not_lt, Nat.lt_of_not_le, Nat.lt_of_succ_lt, Nat.le_of_succ_le])
local macro_rules | `(tactic| walk_at "s3") => `(tactic| solve_by_elim (maxDepth := 5) [Int.lt_of_lt_of_le, Int.lt_of_le_of_lt, Int.le_trans, Int.le_of_lt, Int.not_lt.mp, Int.not_le.mp])
local macro_rules | `(tactic| walk_at "s4") => `(tactic| solve_by_elim (maxDepth := 5) [Nat.le_trans, Nat.lt_of_lt_of_le, Nat.le_of_lt, Nat.le_add_right, Nat.le_add_left, Nat.add_le_add_left, Nat.add_lt_add_left, Nat.succ_le_succ, Nat.sub_le])
theorem L2.ex2 {α β:Type _} {A B C:α->β->Prop} {G:Prop} (x:∃ a b,A a b/\B a b/\C a b) (k:∀ a b,A a b->B a b->C a b->G):G :=
 let ⟨a,b,p,q,r⟩:=x
 k a b p q r
set_option Elab.async false
set_option linter.all false
set_option maxRecDepth 100000
namespace L2
open PySem PySem.Spec PyProof.Rows
abbrev Key:=Sum Int Str
def keyIs:Key->Value->Bool
 | .inl k,v=>Value.isInt k v
 | .inr x,v=>Value.isStrOf x v
def keyH (w:World):Key->Int
 | .inl k=>hashInt k
 | .inr x=>hashStr w x
theorem keyIs_shape:∀ {k:Key} {v:Value},keyIs k v=true->(∃ i t,k=Sum.inl i/\v=Value.int i t)\/(∃ x t,k=Sum.inr x/\v=Value.str x t)
 | .inl i,v,h=>by
  obtain ⟨t,e⟩:=Value.isInt_shape (k:=i) (v:=v) h
  exact .inl ⟨i,t,rfl,e⟩
 | .inr x,v,h=>by
  obtain ⟨t,e⟩:=Value.isStrOf_shape (x:=x) (v:=v) h
  exact .inr ⟨x,t,rfl,e⟩
theorem keyIs_int (i:Int) (t:Tok):keyIs (.inl i) (.int i t)=true:=by simp [keyIs,Value.isInt]
theorem keyIs_str (x:Str) (t:Tok):keyIs (.inr x) (.str x t)=true:=by simp [keyIs,Value.isStrOf]
theorem key_ll (a b:Int):decide ((Sum.inl a:Key)=Sum.inl b)=(a == b):=by
 by_cases e:a=b
 ·subst e; simp
 ·have h:¬ (Sum.inl a:Key)=Sum.inl b:=fun q=>e (Sum.inl.inj q)
  rw [decide_eq_false h]
  exact (beq_eq_false_iff_ne.mpr e).symm
theorem key_rr (a b:Str):decide ((Sum.inr a:Key)=Sum.inr b)=decide (a=b):=by
 by_cases e:a=b
 ·subst e; simp
 ·have h:¬ (Sum.inr a:Key)=Sum.inr b:=fun q=>e (Sum.inr.inj q)
  rw [decide_eq_false h,decide_eq_false e]
theorem key_lr (a:Int) (b:Str):decide ((Sum.inl a:Key)=Sum.inr b)=false:=decide_eq_false (fun q=>nomatch q)
theorem key_rl (a:Str) (b:Int):decide ((Sum.inr a:Key)=Sum.inl b)=false:=decide_eq_false (fun q=>nomatch q)
def mixKind (prog:Program) (w:World):PySem.KeyKind prog w Key where
 is:=keyIs
 hash:=keyH w
 inj:=fun v a b ha hb=>by
  rcases keyIs_shape ha with ⟨i,t,rfl,rfl⟩ | ⟨x,t,rfl,rfl⟩
  ·rcases keyIs_shape hb with ⟨j,u,rfl,e⟩ | ⟨y,u,rfl,e⟩
   ·injection e with e1 _; rw [e1]
   ·exact nomatch e
  ·rcases keyIs_shape hb with ⟨j,u,rfl,e⟩ | ⟨y,u,rfl,e⟩
   ·exact nomatch e
   ·injection e with e1 _; rw [e1]
 byValue:=fun k v h=>by
  rcases keyIs_shape h with ⟨i,t,rfl,rfl⟩ | ⟨x,t,rfl,rfl⟩ <;> rfl
 pyHash:=fun hv h=>by
  rcases keyIs_shape hv with ⟨i,t,rfl,rfl⟩ | ⟨x,t,rfl,rfl⟩
  ·exact wpAny_pyHash_int h
  ·exact wpAny_pyHash_str h
 eqBool:=fun hu hv h=>by
  rcases keyIs_shape hu with ⟨i,t,rfl,rfl⟩ | ⟨x,t,rfl,rfl⟩
  ·rcases keyIs_shape hv with ⟨j,u,rfl,rfl⟩ | ⟨y,u,rfl,rfl⟩
   ·rw [key_ll] at h; exact wpAny_eqBool_int h
   ·rw [key_lr] at h; exact SeqAt.EqAt.int_str i t y u _ _ _ _ h
  ·rcases keyIs_shape hv with ⟨j,u,rfl,rfl⟩ | ⟨y,u,rfl,rfl⟩
   ·rw [key_rl] at h; exact SeqAt.EqAt.str_int x t j u _ _ _ _ h
   ·rw [key_rr] at h; exact wpAny_eqBool_str h
 «strs» := fun k x t v h=>by
  rcases keyIs_shape h with ⟨i,u,rfl,e⟩ | ⟨y,u,rfl,e⟩
  ·exact nomatch e
  ·injection e with e1 _
   subst e1
   cases v <;> rfl
theorem mixKind_int (prog:Program) (w:World) (i:Int) (t:Tok):(mixKind prog w).is (.inl i) (.int i t)=true:=keyIs_int i t
theorem mixKind_str (prog:Program) (w:World) (x:Str) (t:Tok):(mixKind prog w).is (.inr x) (.str x t)=true:=keyIs_str x t
inductive V where
 | non | bl (b:Bool) | int (i:Int) | str (x:Str) | byt (b:Array UInt8) | flt (b:UInt64) | ref (a:Addr) | ty (n:String)
 deriving DecidableEq
def RelV:V->Value->Prop
 | .non,u=>u=Value.none
 | .bl b,u=>u=Value.bool b
 | .int i,u=>∃ t,u=Value.int i t
 | .str x,u=>∃ t,u=Value.str x t
 | .byt b,u=>∃ t,u=Value.bytes b t
 | .flt b,u=>∃ t,u=Value.float b t
 | .ref a,u=>u=Value.ref a
 | .ty n,u=>u=Value.type n
abbrev Vals:List V->List Value->Prop:=Paired RelV
theorem Vals.length (r:Vals xs us):xs.length=us.length:=Paired.length r
theorem Vals.get:∀ {xs:List V} {us:List Value} {i:Nat} {x:V},Vals xs us->xs[i]? = some x->∃ u,us[i]? = some u/\RelV x u
 | _,_,_,_,.nil,e=>by simp at e
 | _,_,0,_,.cons r _,e=>by simp at e; subst e; exact ⟨_,rfl,r⟩
 | _,_,i+1,x,.cons _ t,e=>by
  obtain ⟨u,h1,h2⟩:=Vals.get (i:=i) (x:=x) t (by simpa using e)
  exact ⟨u,by simpa using h1,h2⟩
theorem Vals.set (r:RelV x u):∀ {xs:List V} {us:List Value} (i:Nat),Vals xs us->Vals (xs.set i x) (us.set i u)
 | _,_,_,.nil=>.nil
 | _,_,0,.cons _ t=>.cons r t
 | _,_,i+1,.cons q t=>.cons q (Vals.set r i t)
theorem Vals.append:∀ {xs ys:List V} {us ws:List Value},Vals xs us->Vals ys ws->Vals (xs++ys) (us++ws)
 | _,_,_,_,.nil,s=>s
 | _,_,_,_,.cons r t,s=>.cons r (Vals.append t s)
theorem Vals.take:∀ {xs:List V} {us:List Value} (n:Nat),Vals xs us->Vals (xs.take n) (us.take n)
 | _,_,0,_=>.nil
 | _,_,_+1,.nil=>.nil
 | _,_,n+1,.cons r t=>.cons r (Vals.take n t)
theorem Vals.drop:∀ {xs:List V} {us:List Value} (n:Nat),Vals xs us->Vals (xs.drop n) (us.drop n)
 | _,_,0,r=>r
 | _,_,_+1,.nil=>.nil
 | _,_,n+1,.cons _ t=>Vals.drop n t
def RelO:Option V->Option Value->Prop
 | some v,some u=>RelV v u
 | none,none=>True
 | _,_=>False
def KV {κ:Type}:List (κ × V)->List (κ × Value)->Prop:=Paired fun (p:κ × V) (q:κ × Value)=>p.1=q.1/\RelV p.2 q.2
def kV:Key->V
 | .inl i=>.int i
 | .inr x=>.str x
inductive HO where
 /-- a list -/
 | lst (xs:List V)
 /-- a tuple (never changes) -/
 | tup (xs:List V)
 /-- a dict whose keys are ints and texts; one whose keys are tuples of ints and texts (the empty one is both) -/
 | dK (kvs:List (Key × V)) | dT (kvs:List (List Key × V))
 /-- a set of ints: its members,its size -/
 | set (S:Int->Bool) (n:Nat)
 /-- an instance of the class at C,its dict at dx,its attributes -/
 | ins (C dx:Addr) (fs:List (Str × V))
 /-- the dict of the instance at x -/
 | own (x:Addr)
 /-- the dict of an exception -/
 | xd (fs:List (Str × V))
 /-- a bound method,f of x -/
 | met (f x:Addr)
 /-- a range object lo,lo+1,.. below hi -/
 | rng (lo hi:Int)
 /-- a thing that is known to the object (the script; a dict while a loop walks it): read,never written while it is so -/
 | frz (o:Obj) (u:HO)
 /-- a code object's table -/
 | tbl (ps:Array Value)
 /-- any other thing,by what is true of its one object (a def of one's own: SetO a S n:=HO.ext fun h=>..) -/
 | ext (φ:Heap->Prop)
abbrev Hp:=Addr->Option HO
def upd (H:Hp) (a:Addr) (o:HO):Hp:=fun b=>if b=a then some o else H b
theorem upd_same:upd H a o a=some o:=by unfold upd; rw [if_pos rfl]
theorem upd_ne (h:b≠a):upd H a o b=H b:=by unfold upd; rw [if_neg h]
theorem ne_of {H:Hp} {a b:Addr} {o u:HO} (h:H a=some o) (h':H b=some u) (d:o≠u):a≠b:=by
 intro e; subst e; rw [h] at h'; exact d (Option.some.inj h')
theorem ne_of_none {H:Hp} {a b:Addr} {o:HO} (h:H a=some o) (h':H b=none):a≠b:=by
 intro e; subst e; rw [h] at h'; cases h'
section
variable (P:Program) (w:World)
def ObjOk (H:Hp) (h:Heap) (a:Addr):HO->Prop
 | .lst xs=>xs.length<=sizeLine/\∃ (its:List Value) (n:Nat),Vals xs its/\h.get? a=some { cls:=.type "list",data:=.seq its.toArray n }
 | .tup xs=>xs.length<=sizeLine/\∃ its:List Value,Vals xs its/\IsTup h a its.toArray
 | .dK kvs=>kvs.length<=sizeLine/\(a == sysModules)=false/\∃ vs,KV kvs vs/\h.DictOf (mixKind P w) a vs
 | .dT kvs=>kvs.length<=sizeLine/\(a == sysModules)=false/\∃ xs:List (List Key × Addr × Value),
   Paired (fun (p:List Key × V) (q:List Key × Addr × Value)=>p.1=q.1/\H q.2.1=some (.tup (p.1.map kV))/\RelV p.2 q.2.2) kvs xs /\
   ∃ o es ep,h.get? a=some o/\o.ExactDict/\o.data=.dict es ep/\es.toList=xs.map (entryOfKey (tupleKind (mixKind P w)))/\(xs.map (·.1)).Nodup
 | .set S n=>h.SetOf (intKind P w) a S n
 | .ins C dx fs=>H dx=some (.own a)/\fs.length<=1000/\dx≠a/\h.get? a=some (PySem.W.instObj C dx) /\
   ∃ mA,h.Ns1 dx mA/\(∀ f,RelO (fs.lookup f) (mA f))/\PySem.Within mA (fs.map (·.1))
 | .own _=>∃ o,h.get? a=some o
 | .xd fs=>∃ mA,h.Ns1 a mA/\∀ f,RelO (fs.lookup f) (mA f)
 | .rng lo hi=>∃ t u v,h.get? a=some { cls:=.type "range",data:=.fields #[.int lo t,.int hi u,.int 1 v] }
 | .frz o u=>h.get? a=some o/\ObjOk H h a u
 | .tbl ps=>h.get? a=some { cls:=.none,data:=.fields ps }
 | .met f x=>h.get? a=some (PySem.W.methodObj (.ref f) (.ref x))
 | .ext φ=>φ h/\(∃ o,h.get? a=some o)/\∀ h1 h2:Heap,φ h1->(∀ o,h1.get? a=some o->h2.get? a=some o)->φ h2
def HOk (H:Hp) (h:Heap):Prop:=∀ a o,H a=some o->ObjOk P w H h a o
end
section
variable {P:Program} {w:World} {H H':Hp} {h h':Heap} {a:Addr} {o:HO}
theorem ObjOk.lt (x:ObjOk P w H h a o):a<h.objs.size:=by
 cases o with
 | lst xs=>obtain ⟨_,_,_,_,e⟩:=x; exact xao e
 | tup xs=>obtain ⟨_,_,_,p⟩:=x; exact p.lt
 | dK kvs=>obtain ⟨_,_,_,_,o,_,_,e,_⟩:=x; exact xao e
 | dT kvs=>obtain ⟨_,_,_,_,o,_,_,e,_⟩:=x; exact xao e
 | set S n=>obtain ⟨o,_,_,_,e,_⟩:=x; exact xao e
 | ins C dx fs=>obtain ⟨_,_,_,e,_⟩:=x; exact xao e
 | own y=>obtain ⟨_,e⟩:=x; exact xao e
 | xd fs=>obtain ⟨_,⟨_,_,_,e,_⟩,_⟩:=x; exact xao e
 | rng lo hi=>obtain ⟨_,_,_,e⟩:=x; exact xao e
 | frz ob u=>obtain ⟨e,_⟩:=x; exact xao e
 | tbl ps=>exact xao (show h.get? a=some _ from x)
 | met f y=>exact xao (show h.get? a=some _ from x)
 | ext φ=>obtain ⟨_,⟨_,e⟩,_⟩:=x; exact xao e
theorem Paired.mapP {α β:Type} {F G:α->β->Prop}:∀ {l₁:List α} {l₂:List β},Paired F l₁ l₂->(∀ a b,F a b->G a b)->Paired G l₁ l₂
 | _,_,.nil,_=>.nil
 | _,_,.cons r t,f=>.cons (f _ _ r) (Paired.mapP t f)
theorem ObjOk.stay (x:ObjOk P w H h a o) (k:∀ b u,(b=a\/H b=some (.own a))->h.get? b=some u->h'.get? b=some u)
  (ho:∀ b,H b=some (.own a)->H' b=some (.own a)) (ht:∀ b xs,H b=some (.tup xs)->H' b=some (.tup xs)):ObjOk P w H' h' a o:=by
 induction o with
 | lst xs=>obtain ⟨z,its,n,r,e⟩:=x; exact ⟨z,its,n,r,k _ _ (.inl rfl) e⟩
 | tup xs=>obtain ⟨z,its,r,ob,e,c⟩:=x; exact ⟨z,its,r,ob,k _ _ (.inl rfl) e,c⟩
 | dK kvs=>obtain ⟨z,y,vs,r,ob,es,ep,e,c⟩:=x; exact ⟨z,y,vs,r,ob,es,ep,k _ _ (.inl rfl) e,c⟩
 | dT kvs =>
  obtain ⟨z,y,xs,r,ob,es,ep,e,c⟩:=x
  exact ⟨z,y,xs,Paired.mapP r fun p q z=>⟨z.1,ht _ _ z.2.1,z.2.2⟩,ob,es,ep,k _ _ (.inl rfl) e,c⟩
 | set S n=>obtain ⟨ob,es,ep,t,e,c⟩:=x; exact ⟨ob,es,ep,t,k _ _ (.inl rfl) e,c⟩
 | ins C dx fs =>
  obtain ⟨d,z,ne,e,mA,⟨od,es,ep,e2,c⟩,r⟩:=x
  exact ⟨ho _ d,z,ne,k _ _ (.inl rfl) e,mA,⟨od,es,ep,k _ _ (.inr d) e2,c⟩,r⟩
 | own y=>obtain ⟨ob,e⟩:=x; exact ⟨ob,k _ _ (.inl rfl) e⟩
 | xd fs=>obtain ⟨mA,⟨od,es,ep,e,c⟩,r⟩:=x; exact ⟨mA,⟨od,es,ep,k _ _ (.inl rfl) e,c⟩,r⟩
 | rng lo hi=>obtain ⟨t,u,v,e⟩:=x; exact ⟨t,u,v,k _ _ (.inl rfl) e⟩
 | frz ob u ih=>obtain ⟨e,q⟩:=x; exact ⟨k _ _ (.inl rfl) e,ih q⟩
 | tbl ps =>
  have e:h.get? a=some { cls:=.none,data:=.fields ps }:=x
  show h'.get? a=some { cls:=.none,data:=.fields ps }
  exact k a _ (.inl rfl) e
 | met f y =>
  have e:h.get? a=some (PySem.W.methodObj (.ref f) (.ref y)):=x
  show h'.get? a=some (PySem.W.methodObj (.ref f) (.ref y))
  exact k a _ (.inl rfl) e
 | ext φ=>obtain ⟨p,⟨o,e⟩,st⟩:=x; exact ⟨st _ _ p fun o q=>k _ _ (.inl rfl) q,⟨o,k _ _ (.inl rfl) e⟩,st⟩
theorem HOk.lt (x:HOk P w H h) (e:H a=some o):a<h.objs.size:=(x a o e).lt
theorem HOk.fresh (x:HOk P w H h) (e:h.objs.size<=a):H a=none:=by
 cases q:H a with
 | none=>rfl
 | some u=>exact absurd (xal (x.lt q) e) (xaO _)
theorem HOk.kept (x:HOk P w H h) (k:∀ b u,h.get? b=some u->h'.get? b=some u):HOk P w H h':=fun a o e =>
 (x a o e).stay (fun b u _ q=>k b u q) (fun _ q=>q) fun _ _ q=>q
theorem HOk.laid (x:HOk P w H h) (k:∀ b u,h.get? b=some u->h'.get? b=some u) (hp:h.objs.size<=a) (new:ObjOk P w (upd H a o) h' a o):HOk P w (upd H a o) h':=fun b u e=>by
 have hn:=x.fresh hp
 by_cases hb:b=a
 ·subst hb; rw [upd_same] at e; cases e; exact new
 ·rw [upd_ne hb] at e
  exact (x b u e).stay (fun c v _ q=>k c v q) (fun c q=>by rw [upd_ne (ne_of_none q hn)]; exact q) fun c xs q=>by rw [upd_ne (ne_of_none q hn)]; exact q
end
def Rd (H:Hp) (a:Addr) (u:HO):Prop:=H a=some u\/∃ o,H a=some (.frz o u)
theorem Rd.of (h:H a=some u):Rd H a u:=.inl h
theorem Rd.ok {P:Program} (r:Rd H a u) (x:HOk P w H h):ObjOk P w H h a u:=by
 rcases r with r | ⟨o,r⟩
 ·exact x a u r
 ·obtain ⟨_,q⟩:=x a _ r
  exact q
def Mut:Option HO->Prop
 | some (.lst _)=>True
 | some (.dK _)=>True
 | some (.dT _)=>True
 | some (.set _ _)=>True
 | some (.ins _ _ _)=>True
 | some (.ext _)=>True
 | _=>False
section
variable {P:Program} {w:World} {H:Hp} {h h':Heap} {x e:Addr} {o':HO}
theorem HOk.write (ok:HOk P w H h) (mu:Mut (H x)) (he:e=x\/H e=some (.own x)) (k:∀ b u,b≠e->h.get? b=some u->h'.get? b=some u) (heo:∃ u,h'.get? e=some u)
  (new:ObjOk P w (upd H x o') h' x o'):HOk P w (upd H x o') h':=fun b u q=>by
 have nown:∀ c y,H c=some (.own y)->c≠x:=fun c y r z=>by subst z; rw [r] at mu; exact mu
 have ntup:∀ c xs,H c=some (.tup xs)->c≠x:=fun c xs r z=>by subst z; rw [r] at mu; exact mu
 by_cases hb:b=x
 ·subst hb; rw [upd_same] at q; cases q; exact new
 ·rw [upd_ne hb] at q
  by_cases hbe:b=e
  ·have q':H b=some (.own x):=by
    rcases he with z | z
    ·exact absurd (hbe.trans z) hb
    ·rw [hbe]; exact z
   rw [q] at q'; cases q'
   obtain ⟨v,hv⟩:=heo
   exact ⟨v,by rw [hbe]; exact hv⟩
  ·refine (ok b u q).stay (fun c v hc r=>k c v ?_ r) (fun c r=>by rw [upd_ne (nown c b r)]; exact r) fun c xs r=>by rw [upd_ne (ntup c xs r)]; exact r
   rcases hc with rfl | hc
   ·exact hbe
   ·rintro rfl
    rcases he with z | z
    ·exact nown c b hc z
    ·rw [hc] at z; cases z; exact hb rfl
end
structure Un (fs ex:List Addr) (H H':Hp) (h h':Heap):Prop where
 keep:∀ b o,h.get? b=some o->H b=none->b∉fs->b∉ex->h'.get? b=some o
 slot:∀ b o,h.get? b=some o->H b=none->b∈fs->b∉ex->∃ sl,h'.get? b=some { o with slots:=sl }
 free:∀ b o,h.get? b=some o->H b=none->b∉ex->H' b=none
 there:∀ b o,h.get? b=some o->b∉ex->∃ o',h'.get? b=some o'
 tups:∀ b xs,H b=some (.tup xs)->H' b=some (.tup xs)
 frzs:∀ b o u,H b=some (.frz o u)->H' b=some (.frz o u)
 tbls:∀ b ps,H b=some (.tbl ps)->∃ more,H' b=some (.tbl (ps++more))
section
variable {fs fs' ex ex':List Addr} {H H1 H2:Hp} {h h1 h2 h':Heap} {a x e:Addr} {o:HO}
theorem Un.any (u:Un fs ex H H1 h h1) (q:h.get? b=some ob) (n:H b=none) (hx:b∉ex):∃ sl,h1.get? b=some { ob with slots:=sl }:=by
 by_cases hb:b∈fs
 ·exact u.slot b ob q n hb hx
 ·exact ⟨ob.slots,u.keep b ob q n hb hx⟩
theorem Un.trans (a:Un fs ex H H1 h h1) (b:Un fs ex H1 H2 h1 h2):Un fs ex H H2 h h2 where
 keep:=fun c ob q n hc hx=>b.keep c ob (a.keep c ob q n hc hx) (a.free c ob q n hx) hc hx
 slot:=fun c ob q n hc hx=>by
  obtain ⟨sl,e1⟩:=a.slot c ob q n hc hx
  obtain ⟨sl',e2⟩:=b.slot c _ e1 (a.free c ob q n hx) hc hx
  exact ⟨sl',e2⟩
 free:=fun c ob q n hx=>by
  obtain ⟨o',e1⟩:=a.there c ob q hx
  exact b.free c o' e1 (a.free c ob q n hx) hx
 there:=fun c ob q hx=>by
  obtain ⟨o',e1⟩:=a.there c ob q hx
  exact b.there c o' e1 hx
 tups:=fun c xs q=>b.tups c xs (a.tups c xs q)
 frzs:=fun c ob xs q=>b.frzs c ob xs (a.frzs c ob xs q)
 tbls:=fun c ps q=>by
  obtain ⟨m1,e1⟩:=a.tbls c ps q
  obtain ⟨m2,e2⟩:=b.tbls c _ e1
  exact ⟨m1++m2,by rw [e2,xbi]⟩
theorem Un.kept (k:∀ b u,h.get? b=some u->h'.get? b=some u):Un fs ex H H h h' :=
 ⟨fun b ob q _ _ _=>k b ob q,fun b ob q _ _ _=>⟨ob.slots,k b ob q⟩,fun _ _ _ n _=>n,fun b ob q _=>⟨ob,k b ob q⟩,fun _ _ q=>q,fun _ _ _ q=>q,fun _ ps q=>⟨#[],by rw [q]; simp⟩⟩
theorem Un.refl:Un fs ex H H h h:=Un.kept fun _ _ q=>q
theorem Un.laid (k:∀ b u,h.get? b=some u->h'.get? b=some u) (hp:h.objs.size<=a) (hn:H a=none):Un fs ex H (upd H a o) h h' where
 keep:=fun b u q _ _ _=>k b u q
 slot:=fun b u q _ _ _=>⟨u.slots,k b u q⟩
 free:=fun b u q n _=>by rw [upd_ne (xaA (xal (xao q) hp))]; exact n
 there:=fun b u q _=>⟨u,k b u q⟩
 tups:=fun b xs q=>by rw [upd_ne (ne_of_none q hn)]; exact q
 frzs:=fun b u xs q=>by rw [upd_ne (ne_of_none q hn)]; exact q
 tbls:=fun b ps q=>⟨#[],by rw [upd_ne (ne_of_none q hn),q]; simp⟩
theorem Un.write (mu:Mut (H x)) (he:e=x\/H e=some (.own x)) (k:∀ b u,b≠e->h.get? b=some u->h'.get? b=some u) (heo:∃ u,h'.get? e=some u):Un fs ex H (upd H x o) h h':=by
 have hx:∀ b,H b=none->b≠x:=fun b n z=>by subst z; rw [n] at mu; exact mu
 have hb:∀ b,H b=none->b≠e:=fun b n z=>by
  subst z
  rcases he with r | r
  ·exact hx b n r
  ·rw [n] at r; cases r
 have hm:∀ b u,H b=some u->¬ Mut (some u)->b≠x:=fun b u q nm z=>by subst z; rw [q] at mu; exact nm mu
 refine ⟨fun b u q n _ _=>k b u (hb b n) q,fun b u q n _ _=>⟨u.slots,k b u (hb b n) q⟩,fun b u q n _=>by rw [upd_ne (hx b n)]; exact n,fun b u q _=>?_,
  fun b xs q=>by rw [upd_ne (hm b _ q fun z=>z)]; exact q,fun b u xs q=>by rw [upd_ne (hm b _ q fun z=>z)]; exact q,fun b ps q=>⟨#[],by rw [upd_ne (hm b _ q fun z=>z),q]; simp⟩⟩
 by_cases hbe:b=e
 ·subst hbe; exact heo
 ·exact ⟨u,k b u hbe q⟩
theorem Un.mono (u:Un fs ex H H1 h h1) (hs:∀ b∈fs,b∈fs') (hx:∀ b∈ex,b∈ex'):Un fs' ex' H H1 h h1 :=
 ⟨fun b ob q n hb he=>u.keep b ob q n (fun z=>hb (hs b z)) fun z=>he (hx b z),fun _ _ q n _ he=>u.any q n fun z=>he (hx _ z),fun b ob q n he=>u.free b ob q n fun z=>he (hx b z),fun b ob q he=>u.there b ob q fun z=>he (hx b z),u.tups,u.frzs,u.tbls⟩
end
def trk (h:Heap) (H:Hp):List Addr:=(List.range h.objs.size).filter fun a=>(H a).isSome
def hidT (h:Heap) (H:Hp):Heap:=PySem.W.hideAll h (trk h H)
theorem hidT_size (h:Heap) (H:Hp):(hidT h H).objs.size=h.objs.size:=PySem.W.hideAll_size _ _
theorem hidT_get (e:h.get? b=some o) (n:H b=none):(hidT h H).get? b=some o :=
 PySem.W.hideAll_get _ e fun hm=>by
  have q:(H b).isSome=true:=(xaJ.mp hm).2
  rw [n] at q; simp at q
theorem of_hidT (e:(hidT h H).get? b=some o):h.get? b=some o/\H b=none:=by
 have e':h.get? b=some o:=PySem.W.of_hideAll (trk h H) e
 refine ⟨e',?_⟩
 cases q:H b with
 | none=>rfl
 | some x =>
  have hm:b∈trk h H:=xaJ.mpr ⟨xaS.mpr (xao e'),by simp [q]⟩
  have z:(hidT h H).get? b=none:=PySem.W.hideAll_none (trk h H) hm
  rw [z] at e; cases e
def allNews (g h:Heap) (L:Addr):List (Addr × Obj):=(List.range h.objs.size).filterMap fun a=>if a=L\/(g.get? a).isSome=true then none else (h.get? a).map fun o=>(a,o)
def rest (g h:Heap) (L d:Addr):List (Addr × Obj):=(allNews g h L).filter fun p=>decide (p.1≠d)
structure Mod (K:PySem.W.Frag) (mg:Str->Option Value) (base:Heap):Prop where
 kin:K.In base
 glob:base.Ns mainGlobals mg
 blt:∃ mb,base.Ns builtinsNs mb/\∀ x:Str,x ≠ "__name__"->mb x=bootBuiltins x
 nolimit:base.NoLimit
structure Cx where
 prog:Program
 w:World
 K:PySem.W.Frag
 mg:Str->Option Value
 base:Heap
 A:Around
 N:List Str
 s₀:Shared
 H₀:Hp
 env:Env
 outer:List Env
 stack:List Env
 ex:List Addr
 fn:Str->Bool
 calm:Bool
 pn:List (Addr × Obj)
 xe:Value->Shared->Prop
def frs (l:List Env):List Addr:=l.filterMap (·.frame)
abbrev Cx.fs (X:Cx):List Addr:=frs X.outer
def Vis (sc:Scope) (x:Str):Prop:=sc.names.lookup x=some .local\/sc.names.lookup x=some .cell\/sc.names.lookup x=some .free
def Loc (sc:Scope) (x:Str):Prop:=sc.names.lookup x=some .local\/sc.names.lookup x=some .cell
def Look (env:Env) (h:Heap) (m:Str->Option Value) (x:Str) (u:Value):Prop :=
 (env.kindOf x=some .local/\m x=some u)\/((env.kindOf x=some .cell\/env.kindOf x=some .free)/\∃ c,env.cells.lookup x=some c/\h.IsCell c (some u))
structure Cx.Ok (X:Cx):Prop where
 mod:Mod X.K X.mg X.base
 kind:X.env.scope.kind=.function
 glob:X.env.globals=mainGlobals
 blt:X.env.builtins=builtinsNs
 above:X.s₀.heap.objs.size<=X.env.locals
 inj:∀ x y c,X.env.cells.lookup x=some c->X.env.cells.lookup y=some c->x=y
 has:∀ x,(X.env.kindOf x=some .cell\/X.env.kindOf x=some .free)->∃ c,X.env.cells.lookup x=some c
 cab:∀ x c,X.fn x=true->X.env.cells.lookup x=some c->X.s₀.heap.objs.size<=c
 hd:X.calm=true->X.A.handled=none
 frames:X.A.frames=some X.stack
 stk:X.stack=X.outer\/(X.stack=X.env :: X.outer/\X.env.frame=some X.env.locals)
 exf:∀ b∈X.ex,b≠X.env.locals/\∀ x c,X.env.cells.lookup x=some c->c≠b
 bs:∀ b o,X.base.get? b=some o->X.s₀.heap.get? b=some o/\X.H₀ b=none
 bsz:X.base.objs.size<=X.s₀.heap.objs.size
 noex:∀ b o,X.base.get? b=some o->b∉X.ex
 exfs:∀ b∈X.ex,b∉X.fs
 funs:X.s₀.heap.FunFrames X.base X.outer
 frf:∀ b∈X.fs,X.H₀ b=none
structure Inv (X:Cx) (pins:List (Addr × Obj)) (σ:List (Option V)) (H:Hp) (s:Shared):Prop where
 ok:X.Ok
 os:s.os=X.s₀.os
 bare:AllBare s.gens
 base:Un X.fs X.ex X.H₀ H X.s₀.heap s.heap
 loc:∃ m,s.heap.Ns X.env.locals m/\∀ (i:Nat) (x:Str) (v:V),X.N[i]? = some x->σ[i]? = some (some v)->Vis X.env.scope x->∃ u,RelV v u/\Look X.env s.heap m x u
 cell:∀ x c,X.env.cells.lookup x=some c->∃ v,s.heap.IsCell c v
 free:H X.env.locals=none
 freeC:∀ x c,X.env.cells.lookup x=some c->H c=none
 pin:∀ p∈X.pn++pins,s.heap.get? p.1=some p.2/\H p.1=none/\p.1≠X.env.locals/\p.1∉X.fs/\∀ v,p.2.data≠.cell v
 hok:HOk X.prog X.w H s.heap
 len:σ.length=X.N.length
section
variable {X:Cx} {pins:List (Addr × Obj)} {σ:List (Option V)} {H H':Hp} {s:Shared} {h':Heap}
theorem Cx.Ok.nofr (ok:X.Ok) (e:X.base.get? b=some o):b∉X.fs:=fun hb=>by
 have:=(ok.funs.mem hb).1
 rw [e] at this; cases this
theorem Inv.bs (I:Inv X pins σ H s):∀ b o,X.base.get? b=some o->s.heap.get? b=some o/\H b=none:=fun b o e =>
 ⟨I.base.keep b o (I.ok.bs b o e).1 (I.ok.bs b o e).2 (I.ok.nofr e) (I.ok.noex b o e),I.base.free b o (I.ok.bs b o e).1 (I.ok.bs b o e).2 (I.ok.noex b o e)⟩
theorem Inv.bk (I:Inv X pins σ H s):∀ b o,X.base.get? b=some o->s.heap.get? b=some o:=fun b o e=>(I.bs b o e).1
theorem Inv.mod (I:Inv X pins σ H s):Mod X.K X.mg X.base:=I.ok.mod
theorem Inv.kIn (I:Inv X pins σ H s):X.K.In s.heap:=I.ok.mod.kin.keeps I.bk
theorem Inv.nolimit (I:Inv X pins σ H s):s.heap.NoLimit:=I.ok.mod.nolimit.keeps I.bk
theorem Inv.fr (I:Inv X pins σ H s):∃ m,Fr X.base X.env.locals s.heap m :=
 let ⟨m,hn,_⟩:=I.loc
 ⟨m,hn,I.bk,xaz I.ok.bsz I.ok.above⟩
theorem Inv.lt (I:Inv X pins σ H s):X.env.locals<s.heap.objs.size:=let ⟨_,hn,_⟩:=I.loc; hn.lt
theorem Inv.sz (I:Inv X pins σ H s):X.s₀.heap.objs.size<=s.heap.objs.size:=xaz I.ok.above (xaT I.lt)
theorem Inv.nofs (I:Inv X pins σ H s) (h:s.heap.objs.size<=a):a∉X.fs:=fun hb=>by
 obtain ⟨_,o,ho,_⟩:=I.ok.funs.mem hb
 exact absurd (xal (xao ho) (xaz I.sz h)) (xaO _)
theorem Inv.cne (I:Inv X pins σ H s):∀ x c,X.env.cells.lookup x=some c->c≠X.env.locals:=fun x c e z=>by
 obtain ⟨v,o,ho,hd⟩:=I.cell x c e
 obtain ⟨m,⟨o',es,ep,ho',hd',_⟩,_⟩:=I.loc
 rw [z,ho'] at ho; cases ho; rw [hd'] at hd; cases hd
theorem Inv.funs (I:Inv X pins σ H s):s.heap.FunFrames X.base X.outer:=by
 have all:∀ (l:List Env),(∀ b∈frs l,b∈X.fs)->X.s₀.heap.FunFrames X.base l->s.heap.FunFrames X.base l:=by
  intro l
  induction l with
  | nil=>intro _ _; trivial
  | cons env r ih =>
   intro hs hl
   obtain ⟨hk,⟨L,o,hf,hn,ho,hd⟩,hr⟩:=hl
   have hL:L∈X.fs:=hs L (by unfold frs; rw [xaP,hf]; exact xac)
   obtain ⟨sl,e⟩:=I.base.slot L o ho (I.ok.frf L hL) hL fun z=>I.ok.exfs L z hL
   exact ⟨hk,⟨L,_,hf,hn,e,hd⟩,ih (fun b hb=>hs b (by unfold frs; rw [xaP,hf]; exact xab _ hb)) hr⟩
 exact all X.outer (fun _ hb=>hb) I.ok.funs
theorem Inv.stack (I:Inv X pins σ H s):s.heap.FunFrames X.base X.stack:=by
 rcases I.ok.stk with e | ⟨e,hf⟩
 ·rw [e]; exact I.funs
 ·rw [e]
  obtain ⟨m,hn,_⟩:=I.loc
  refine .cons (by rw [I.ok.kind]; decide) hf hn ?_ I.funs
  exact Heap.get?_none_of_le (xaz I.ok.bsz I.ok.above)
theorem Inv.stkSub (I:Inv X pins σ H s):∀ b∈frs X.stack,b∈X.env.locals :: X.fs:=fun b hb=>by
 rcases I.ok.stk with e | ⟨e,hf⟩
 ·rw [e] at hb; exact xab _ hb
 ·rw [e] at hb
  unfold frs at hb
  rw [xaP,hf] at hb
  exact hb
theorem Inv.stkFree (I:Inv X pins σ H s):∀ b∈frs X.stack,H b=none:=fun b hb=>by
 rcases xak.mp (I.stkSub b hb) with e | hb
 ·rw [e]; exact I.free
 ·obtain ⟨_,o,ho,_⟩:=I.ok.funs.mem hb
  exact I.base.free b o ho (I.ok.frf b hb) fun z=>I.ok.exfs b z hb
theorem Inv.step {g':Array GenState} {t':Nat} {d':Drawn} {ch:List Addr} (I:Inv X pins σ H s)
  (hch:∀ b∈ch,(b∈X.ex\/X.s₀.heap.objs.size<=b)/\b≠X.env.locals/\(∀ x c,X.env.cells.lookup x=some c->c≠b)/\∀ p∈X.pn++pins,p.1≠b)
  (keep:∀ b o,b≠X.env.locals->b∉X.fs->b∉ch->s.heap.get? b=some o->H b=none->h'.get? b=some o)
  (slot:∀ b o,b≠X.env.locals->b∈X.fs->b∉ch->s.heap.get? b=some o->H b=none->∃ sl,h'.get? b=some { o with slots:=sl }) (free:∀ b o,b∉ch->s.heap.get? b=some o->H b=none->H' b=none)
  (there:∀ b o,b∉ch->s.heap.get? b=some o->∃ o',h'.get? b=some o')
  (tups:∀ b xs,H b=some (.tup xs)->H' b=some (.tup xs)) (frzs:∀ b o u,H b=some (.frz o u)->H' b=some (.frz o u)) (tbls:∀ b ps,H b=some (.tbl ps)->∃ more,H' b=some (.tbl (ps++more)))
  (ns:∀ m,s.heap.Ns X.env.locals m->h'.Ns X.env.locals m) (hok:HOk X.prog X.w H' h') (hg:AllBare g') :
  Inv X pins σ H' { s with heap:=h',gens:=g',drawn:=d',toks:=t' }:=by
 have neL:∀ b o,X.s₀.heap.get? b=some o->b≠X.env.locals:=fun b o e=>xaA (xal (xao e) I.ok.above)
 have neC:∀ b o,X.s₀.heap.get? b=some o->b∉X.ex->b∉ch:=fun b o e hx hb=>by
  rcases (hch b hb).1 with z | z
  ·exact hx z
  ·exact absurd (xal (xao e) z) (xaO _)
 have cellK:∀ x c,X.env.cells.lookup x=some c->∀ v,s.heap.IsCell c v->h'.IsCell c v:=fun x c e v hx9=>by
  obtain ⟨o,ho,hd⟩:=hx9
  have nch:c∉ch:=fun z=>(hch c z).2.2.1 x c e rfl
  by_cases hc:c∈X.fs
  ·obtain ⟨sl,q⟩:=slot c o (I.cne x c e) hc nch ho (I.freeC x c e)
   exact ⟨_,q,hd⟩
  ·exact ⟨o,keep c o (I.cne x c e) hc nch ho (I.freeC x c e),hd⟩
 refine ⟨I.ok,I.os,hg,⟨fun b o e n hb hx=>?_,fun b o e n hb hx=>?_,fun b o e n hx=>?_,fun b o e hx=>?_,fun b xs e=>tups b xs (I.base.tups b xs e),fun b o xs e=>frzs b o xs (I.base.frzs b o xs e),fun b ps e=>?_⟩,?_,fun x c e=>?_,?_,fun x c e=>?_,fun p hp=>?_,hok,I.len⟩
 ·exact keep b o (neL b o e) hb (neC b o e hx) (I.base.keep b o e n hb hx) (I.base.free b o e n hx)
 ·obtain ⟨sl,e1⟩:=I.base.slot b o e n hb hx
  obtain ⟨sl',e2⟩:=slot b _ (neL b o e) hb (neC b o e hx) e1 (I.base.free b o e n hx)
  exact ⟨sl',e2⟩
 ·obtain ⟨o',e1⟩:=I.base.there b o e hx
  exact free b o' (neC b o e hx) e1 (I.base.free b o e n hx)
 ·obtain ⟨o',e1⟩:=I.base.there b o e hx
  exact there b o' (neC b o e hx) e1
 ·obtain ⟨m1,e1⟩:=I.base.tbls b ps e
  obtain ⟨m2,e2⟩:=tbls b _ e1
  exact ⟨m1++m2,by rw [e2,xbi]⟩
 ·obtain ⟨m,hn,hl⟩:=I.loc
  refine ⟨m,ns m hn,fun i x v e1 e2 e3=>?_⟩
  obtain ⟨u,r,l⟩:=hl i x v e1 e2 e3
  refine ⟨u,r,?_⟩
  rcases l with l | ⟨k,c,e,z⟩
  ·exact .inl l
  ·exact .inr ⟨k,c,e,cellK x c e _ z⟩
 ·obtain ⟨v,z⟩:=I.cell x c e
  exact ⟨v,cellK x c e v z⟩
 ·obtain ⟨m,⟨o,_,_,ho,_⟩,_⟩:=I.loc
  exact free _ o (fun z=>(hch _ z).2.1 rfl) ho I.free
 ·obtain ⟨v,o,ho,hd⟩:=I.cell x c e
  exact free c o (fun z=>(hch c z).2.2.1 x c e rfl) ho (I.freeC x c e)
 ·obtain ⟨e,n,ne,nf,d⟩:=I.pin p hp
  have nch:p.1∉ch:=fun z=>(hch p.1 z).2.2.2 p hp rfl
  exact ⟨keep p.1 p.2 ne nf nch e n,free p.1 p.2 nch e n,ne,nf,d⟩
theorem Inv.un {t':Nat} (I:Inv X pins σ H s) (u:Un X.fs [] H H' s.heap h') (hok:HOk X.prog X.w H' h'):Inv X pins σ H' { s with heap:=h',toks:=t' }:=by
 obtain ⟨m,⟨o,es,ep,ho,r⟩,_⟩:=id I.loc
 obtain ⟨sl,hL⟩:=u.any ho I.free (by simp)
 exact I.step (g':=s.gens) (d':=s.drawn) (ch:=[]) (fun _ z=>nomatch z) (fun b o _ hb _ e n=>u.keep b o e n hb (by simp)) (fun b o _ hb _ e n=>u.slot b o e n hb (by simp)) (fun b o _ e n=>u.free b o e n (by simp)) (fun b o _ e=>u.there b o e (by simp)) u.tups u.frzs u.tbls (fun m' hm=>by
  obtain ⟨o',es',ep',ho',r'⟩:=hm
  rw [ho] at ho'; cases ho'
  exact ⟨_,es',ep',hL,r'⟩) hok I.bare
theorem Inv.call {g':Array GenState} {t':Nat} {d':Drawn} {ch:List Addr} (I:Inv X pins σ H s) (u:Un (frs X.stack) ch H H' s.heap h') (hok:HOk X.prog X.w H' h') (hg:AllBare g')
  (hch:∀ b∈ch,(b∈X.ex\/X.s₀.heap.objs.size<=b)/\b≠X.env.locals/\(∀ x c,X.env.cells.lookup x=some c->c≠b)/\∀ p∈X.pn++pins,p.1≠b) :
  Inv X pins σ H' { s with heap:=h',gens:=g',drawn:=d',toks:=t' }:=by
 obtain ⟨m,⟨o,es,ep,ho,r⟩,_⟩:=id I.loc
 obtain ⟨sl,hL⟩:=u.any ho I.free fun z=>(hch _ z).2.1 rfl
 exact I.step (ch:=ch) hch (fun b o hL hb hc e n=>u.keep b o e n (fun z=>(xak.mp (I.stkSub b z)).elim hL hb) hc) (fun b o _ _ hc e n=>u.any e n hc) (fun b o hc e n=>u.free b o e n hc) (fun b o hc e=>u.there b o e hc) u.tups u.frzs u.tbls (fun m' hm=>by
  obtain ⟨o',es',ep',ho',r'⟩:=hm
  rw [ho] at ho'; cases ho'
  exact ⟨_,es',ep',hL,r'⟩) hok hg
theorem Inv.turned {t':Nat} {it:Addr} (I:Inv X pins σ H s) (k:∀ b o,b≠it->s.heap.get? b=some o->h'.get? b=some o) (hn:H it=none) (hL:it≠X.env.locals)
  (h1:it∈X.ex\/X.s₀.heap.objs.size<=it) (h2:∀ x c,X.env.cells.lookup x=some c->c≠it) (h3:∀ p∈X.pn++pins,p.1≠it):Inv X pins σ H { s with heap:=h',toks:=t' }:=by
 have nit:∀ b u,H b=some u->b≠it:=fun b u e z=>by rw [z,hn] at e; cases e
 refine I.step (g':=s.gens) (d':=s.drawn) (ch:=[it]) (fun b hb=>?_) (fun b o _ _ hc e _=>k b o (fun z=>hc (by simp [z])) e) (fun b o _ _ hc e _=>⟨o.slots,k b o (fun z=>hc (by simp [z])) e⟩) (fun _ _ _ _ n=>n)
  (fun b o hc e=>⟨o,k b o (fun z=>hc (by simp [z])) e⟩) (fun _ _ e=>e) (fun _ _ _ e=>e) (fun b ps e=>⟨#[],by rw [e]; simp⟩) (fun m hm=>?_) (fun b u e=>?_) I.bare
 ·have e:b=it:=by simpa using hb
  subst e
  exact ⟨h1,hL,h2,h3⟩
 ·obtain ⟨o,es,ep,ho,r⟩:=hm
  exact ⟨o,es,ep,k _ o (Ne.symm hL) ho,r⟩
 ·refine (I.hok b u e).stay (fun c v hc q=>k c v ?_ q) (fun _ q=>q) fun _ _ q=>q
  rcases hc with z | z
  ·rw [z]; exact nit b u e
  ·exact nit c _ z
theorem Inv.tok (I:Inv X pins σ H s) (t:Nat):Inv X pins σ H { s with toks:=t }:=I.un (h':=s.heap) (t':=t) Un.refl I.hok
theorem Inv.kept (I:Inv X pins σ H s) (k:∀ b u,s.heap.get? b=some u->h'.get? b=some u):Inv X pins σ H { s with heap:=h',toks:=t' }:=I.un (Un.kept k) (I.hok.kept k)
theorem Inv.laid (I:Inv X pins σ H s) (k:∀ b u,s.heap.get? b=some u->h'.get? b=some u) (hp:s.heap.objs.size<=a) (new:ObjOk X.prog X.w (upd H a o) h' a o) :
  Inv X pins σ (upd H a o) { s with heap:=h',toks:=t' }:=I.un (Un.laid k hp (I.hok.fresh hp)) (I.hok.laid k hp new)
theorem Inv.write (I:Inv X pins σ H s) (mu:Mut (H x)) (he:e=x\/H e=some (.own x)) (k:∀ b u,b≠e->s.heap.get? b=some u->h'.get? b=some u) (heo:∃ u,h'.get? e=some u)
  (new:ObjOk X.prog X.w (upd H x o) h' x o):Inv X pins σ (upd H x o) { s with heap:=h',toks:=t' }:=I.un (Un.write mu he k heo) (I.hok.write mu he k heo new)
theorem Inv.pins_of (I:Inv X pins σ H s) (h:∀ p∈pins',s.heap.get? p.1=some p.2/\H p.1=none/\p.1≠X.env.locals/\p.1∉X.fs/\∀ v,p.2.data≠.cell v):Inv X pins' σ H s :=
 ⟨I.ok,I.os,I.bare,I.base,I.loc,I.cell,I.free,I.freeC,fun p hp=>(xaf.mp hp).elim (fun z=>I.pin p (xap _ z)) (h p),I.hok,I.len⟩
theorem nodup_ix {N:List Str} (hN:N.Nodup) {i j:Nat} {x:Str} (a:N[i]? = some x) (b:N[j]? = some x):i=j:=by
 obtain ⟨h1,e1⟩:=xaw.mp a
 obtain ⟨h2,e2⟩:=xaw.mp b
 exact (List.getElem_inj hN).mp (e1.trans e2.symm)
theorem store_ok2 {M:Model} {A:Around} {E:Value->Shared->Prop} {i:Nat} {x:Str} {v:V} {u:Value} {Q:Unit->Shared->Prop} (I:Inv X pins σ H s) (hN:X.N.Nodup) (hi:X.N[i]? = some x) (hx:Loc X.env.scope x) (r:RelV v u)
  (h:∀ s',Inv X pins (σ.set i (some v)) H s'->(∃ a,Heap.SameBut a s.heap s'.heap/\(a=X.env.locals\/X.env.cells.lookup x=some a))->Q () s') (hf:X.fn x=true\/X.env.scope.names.lookup x=some .local:=by first | exact .inl rfl | exact .inr rfl | assumption):wpAny M A (storeName X.env x u) Q E s:=by
 obtain ⟨m,hn,hl⟩:=id I.loc
 have hcls:(X.env.scope.kind == .class || (X.env.scope.kind == .module && X.env.locals != X.env.globals))=false:=by rw [I.ok.kind]; rfl
 have hiσ:i<σ.length:=by rw [I.len]; exact (xaw.mp hi).1
 have cne:=I.cne
 have tracked:∀ {a:Addr} {h':Heap},(∃ o,s.heap.get? a=some o/\H a=none)->Heap.SameBut a s.heap h'->HOk X.prog X.w H h':=fun {a h'} ha hs b ob e=>by
  obtain ⟨_,_,hfree⟩:=ha
  refine (I.hok b ob e).stay (fun c w' hc q=>(hs.2 c ?_).trans q) (fun _ q=>q) fun _ _ q=>q
  rintro rfl
  rcases hc with rfl | hc
  ·rw [hfree] at e; cases e
  ·rw [hfree] at hc; cases hc
 rcases hx with hk | hk
 ·refine wpAny_storeName_local hk hn (fun h' hn' hs=>?_) hcls
  obtain ⟨oL,_,_,hoL,_⟩:=id hn
  refine h _ ⟨I.ok,I.os,I.bare,⟨fun b o e n hb hx=>?_,fun b o e n hb hx=>?_,I.base.free,fun b o e hx=>?_,I.base.tups,I.base.frzs,I.base.tbls⟩,⟨_,hn',fun j y v' e1 e2 e3=>?_⟩,fun y c e=>?_,I.free,I.freeC,fun p hp=>?_,tracked ⟨oL,hoL,I.free⟩ hs,by simpa using I.len⟩ ⟨_,hs,.inl rfl⟩
  ·exact (hs.2 b (xaA (xal (xao e) I.ok.above))).trans (I.base.keep b o e n hb hx)
  ·obtain ⟨sl,e1⟩:=I.base.slot b o e n hb hx
   exact ⟨sl,(hs.2 b (xaA (xal (xao e) I.ok.above))).trans e1⟩
  ·obtain ⟨o',e1⟩:=I.base.there b o e hx
   exact ⟨o',(hs.2 b (xaA (xal (xao e) I.ok.above))).trans e1⟩
  ·by_cases hj:j=i
   ·subst hj
    rw [hi] at e1; cases e1
    rw [List.getElem?_set_self hiσ] at e2
    cases e2
    exact ⟨u,r,.inl ⟨hk,by simp⟩⟩
   ·rw [xbD (Ne.symm hj)] at e2
    obtain ⟨u',r',q⟩:=hl j y v' e1 e2 e3
    refine ⟨u',r',?_⟩
    rcases q with ⟨k,e⟩ | ⟨k,c,e,z⟩
    ·refine .inl ⟨k,?_⟩
     have:y≠x:=fun e=>hj (nodup_ix hN e1 (e ▸ hi))
     simp [this,e]
    ·exact .inr ⟨k,c,e,z.sameBut hs (cne y c e)⟩
  ·obtain ⟨w',z⟩:=I.cell y c e
   exact ⟨w',z.sameBut hs (cne y c e)⟩
  ·obtain ⟨e,n,ne,nf,d⟩:=I.pin p hp
   exact ⟨(hs.2 p.1 ne).trans e,n,ne,nf,d⟩
 ·have hfn:X.fn x=true:=by
   rcases hf with z | z
   ·exact z
   ·rw [z] at hk; cases hk
  obtain ⟨c,hc⟩:=I.ok.has x (.inl hk)
  obtain ⟨w',z⟩:=I.cell x c hc
  refine wpAny_storeName_cell I.ok.kind hk hc z (fun h' hc' hs=>?_)
  obtain ⟨oc,hoc,hocd⟩:=id z
  refine h { s with heap:=h' } ⟨I.ok,I.os,I.bare,⟨fun b o e n hb hx=>?_,fun b o e n hb hx=>?_,I.base.free,fun b o e hx=>?_,I.base.tups,I.base.frzs,I.base.tbls⟩,⟨m,hn.sameBut hs (Ne.symm (cne x c hc)),fun j y v' e1 e2 e3=>?_⟩,fun y c' e=>?_,I.free,I.freeC,fun p hp=>?_,tracked ⟨oc,hoc,I.freeC x c hc⟩ hs,by simpa using I.len⟩ ⟨c,hs,.inr hc⟩
  ·exact (hs.2 b (xaA (xal (xao e) (I.ok.cab x c hfn hc)))).trans (I.base.keep b o e n hb hx)
  ·obtain ⟨sl,e1⟩:=I.base.slot b o e n hb hx
   exact ⟨sl,(hs.2 b (xaA (xal (xao e) (I.ok.cab x c hfn hc)))).trans e1⟩
  ·obtain ⟨o',e1⟩:=I.base.there b o e hx
   exact ⟨o',(hs.2 b (xaA (xal (xao e) (I.ok.cab x c hfn hc)))).trans e1⟩
  ·by_cases hj:j=i
   ·subst hj
    rw [hi] at e1; cases e1
    rw [List.getElem?_set_self hiσ] at e2
    cases e2
    exact ⟨u,r,.inr ⟨.inl hk,c,hc,hc'⟩⟩
   ·rw [xbD (Ne.symm hj)] at e2
    obtain ⟨u',r',q⟩:=hl j y v' e1 e2 e3
    refine ⟨u',r',?_⟩
    rcases q with q | ⟨k,c',e,z'⟩
    ·exact .inl q
    ·refine .inr ⟨k,c',e,z'.sameBut hs ?_⟩
     rintro rfl
     exact hj (nodup_ix hN e1 (I.ok.inj _ _ _ e hc ▸ hi))
  ·by_cases hcc:c'=c
   ·subst hcc; exact ⟨_,hc'⟩
   ·obtain ⟨w2,z2⟩:=I.cell y c' e
    exact ⟨w2,z2.sameBut hs hcc⟩
  ·obtain ⟨e,n,ne,nf,d⟩:=I.pin p hp
   refine ⟨(hs.2 p.1 ?_).trans e,n,ne,nf,d⟩
   intro q
   rw [q,hoc] at e
   have q':oc=p.2:=Option.some.inj e
   exact d w' (by rw [<- q']; exact hocd)
theorem store_ok (I:Inv X pins σ H s) (hN:X.N.Nodup) (hi:X.N[i]? = some x) (hx:Loc X.env.scope x) (r:RelV v u)
  (h:∀ s',Inv X pins (σ.set i (some v)) H s'->Q () s') (hf:X.fn x=true\/X.env.scope.names.lookup x=some .local:=by first | exact .inl rfl | exact .inr rfl | assumption):wpAny M A (storeName X.env x u) Q E s :=
 store_ok2 I hN hi hx r (fun s' I' _=>h s' I') hf
theorem Inv.call' (I:Inv X pins σ H s) (ho:s'.os=s.os) (u:Un (frs X.stack) ch H H' s.heap s'.heap) (hok:HOk X.prog X.w H' s'.heap) (hg:AllBare s'.gens)
  (hch:∀ b∈ch,(b∈X.ex\/X.s₀.heap.objs.size<=b)/\b≠X.env.locals/\(∀ x c,X.env.cells.lookup x=some c->c≠b)/\∀ p∈X.pn++pins,p.1≠b):Inv X pins σ H' s':=by
 obtain ⟨h',g',d',t',o'⟩:=s'
 have e:o'=s.os:=ho
 subst e
 exact I.call (g':=g') (t':=t') (d':=d') u hok hg hch
end
abbrev XK:=Value->Option Addr->Hp->Prop
abbrev St:=List (Option V)
abbrev VK:=V->Hp->Prop
abbrev TE:=St->Hp->VK->Prop
abbrev TT:=St->Hp->(Bool->Hp->Prop)->Prop
abbrev TA:=St->Hp->(List V->Hp->Prop)->Prop
structure Ends where
 nx:St->Hp->Prop
 rt:VK
 bk:St->Hp->Prop:=fun _ _=>False
 ct:St->Hp->Prop:=fun _ _=>False
abbrev TS:=Ends->St->Hp->Prop
def EP (X:Cx) (pins:List (Addr × Obj)) (σ:St) (Q:VK) (u:Value) (s':Shared):Prop:=∃ v H',Inv X pins σ H' s'/\RelV v u/\Q v H'
def TP (X:Cx) (pins:List (Addr × Obj)) (σ:St) (Q:Bool->Hp->Prop) (b:Bool) (s':Shared):Prop:=∃ H',Inv X pins σ H' s'/\Q b H'
def AP (X:Cx) (pins:List (Addr × Obj)) (σ:St) (Q:List V->Hp->Prop) (us:List Value) (s':Shared):Prop:=∃ vs H',Inv X pins σ H' s'/\Vals vs us/\Q vs H'
def SP (X:Cx) (pins:List (Addr × Obj)) (D:Ends) (f:Flow) (s':Shared):Prop :=
 match f with
 | .next=>∃ σ' H',Inv X pins σ' H' s'/\D.nx σ' H'
 | .brk=>∃ σ' H',Inv X pins σ' H' s'/\D.bk σ' H'
 | .cont=>∃ σ' H',Inv X pins σ' H' s'/\D.ct σ' H'
 | .ret u=>∃ v σ' H',Inv X pins σ' H' s'/\RelV v u/\D.rt v H'
def PE (X:Cx) (e:Expr) (t:TE):Prop :=
 ∀ (pins:List (Addr × Obj)) (s:Shared) (σ:St) (H:Hp) (Q:VK),Inv X pins σ H s->t σ H Q->wpAny (model X.prog X.w) X.A (eval e X.env) (EP X pins σ Q) X.xe s
def PT (X:Cx) (e:Expr) (t:TT):Prop :=
 ∀ (pins:List (Addr × Obj)) (s:Shared) (σ:St) (H:Hp) (Q:Bool->Hp->Prop),Inv X pins σ H s->t σ H Q->wpAny (model X.prog X.w) X.A (isTrue e X.env (eval e X.env)) (TP X pins σ Q) X.xe s
def PW (X:Cx) (e:Expr) (t:TT):Prop :=
 ∀ (whole:Sem Value) (pins:List (Addr × Obj)) (s:Shared) (σ:St) (H:Hp) (Q:Bool->Hp->Prop),Inv X pins σ H s->t σ H Q->wpAny (model X.prog X.w) X.A (isTrue e X.env whole) (TP X pins σ Q) X.xe s
def PA (X:Cx) (es:List Expr) (t:TA):Prop :=
 ∀ (pos:Pos) (pins:List (Addr × Obj)) (s:Shared) (σ:St) (H:Hp) (Q:List V->Hp->Prop),Inv X pins σ H s->t σ H Q->wpAny (model X.prog X.w) X.A (spliced (backTo pos (starEach es X.env))) (AP X pins σ Q) X.xe s
def PS (X:Cx) (st:Stmt) (t:TS):Prop :=
 ∀ (pins:List (Addr × Obj)) (s:Shared) (σ:St) (H:Hp) (D:Ends),Inv X pins σ H s->t D σ H->wpAny (model X.prog X.w) X.A (exec st X.env) (SP X pins D) X.xe s
def PSs (X:Cx) (st:List Stmt) (t:TS):Prop :=
 ∀ (pins:List (Addr × Obj)) (s:Shared) (σ:St) (H:Hp) (D:Ends),Inv X pins σ H s->t D σ H->wpAny (model X.prog X.w) X.A (execs st X.env) (SP X pins D) X.xe s
theorem thn {α:Type} {t:Sem α} {Q Q':α->Shared->Prop} {M:Model} {A:Around} {E:Value->Shared->Prop} {s:Shared} (h:wpAny M A t Q E s) (hQ:∀ a s,Q a s->Q' a s):wpAny M A t Q' E s:=xaM h hQ fun _ _ x=>x
section
variable {X:Cx}
def tVar (i:Nat):TE:=fun σ H Q=>∃ v,σ[i]? = some (some v)/\Q v H
def tC (v:V):TE:=fun _ H Q=>Q v H
theorem pe_var (hN:X.N[i]? = some x) (hv:Vis X.env.scope x) (hd:(x == ("__debug__" : Str))=false:=by decide) (hcd:(x == ("__classdict__" : Str))=false:=by decide):PE X (.Name x pos) (tVar i):=by
 intro pins s σ H Q I h
 obtain ⟨v,e,h⟩:=h
 obtain ⟨m,hn,hl⟩:=I.loc
 obtain ⟨u,r,l⟩:=hl i x v hN e hv
 have fin:EP X pins σ Q u s:=⟨v,H,I,r,h⟩
 rcases l with ⟨hk,hm⟩ | ⟨hk,c,hc,hcell⟩
 ·exact wpAny_Name (wpAny_loadName_local I.ok.kind hk hn hm fin) hd
 ·rcases hk with hk | hk
  ·exact wpAny_Name (wpAny_loadName_cell I.ok.kind hk hc hcell fin) hd
  ·exact wpAny_Name (wpAny_loadName_free I.ok.kind hk hc hcell fin hcd) hd
theorem pe_int {i j pos}:PE X (.Constant (.int i) j pos) (tC (.int i)):=fun _ _ _ H _ I h=>wpAny_Constant_int ⟨.int i,H,I.tok _,⟨_,rfl⟩,h⟩
theorem pe_bl {b j pos}:PE X (.Constant (.bool b) j pos) (tC (.bl b)):=fun _ _ _ H _ I h=>Constant_bool ⟨.bl b,H,I,rfl,h⟩
theorem pe_non {j pos}:PE X (.Constant .none j pos) (tC .non):=fun _ _ _ H _ I h=>Constant_none ⟨.non,H,I,rfl,h⟩
theorem pe_str {x j pos}:PE X (.Constant (.str x) j pos) (tC (.str x)):=fun _ _ _ H _ I h=>Calls.Constant_str ⟨.str x,H,I.tok _,⟨_,rfl⟩,h⟩
def Gl (X:Cx) (x:Str):Prop:=X.env.kindOf x=some .globalImplicit
theorem ld_glob (I:Inv X pins σ H s) (hg:Gl X x) (hm:X.mg x=some u) (h:Q u s)
  (hd:(x == ("__debug__" : Str))=false:=by decide):wpAny (model X.prog X.w) X.A (eval (.Name x pos) X.env) Q E s :=
 Calls.Name_function_global I.ok.kind hg (Calls.loadGlobal_global (by rw [I.ok.glob]; exact I.mod.glob.keeps I.bk) hm h) hd
theorem ld_blt (I:Inv X pins σ H s) (hg:Gl X x) (hm:X.mg x=none) (hv:bootBuiltins x=some u) (h:Q u s)
  (hn:x ≠ "__name__" := by decide) (hd:(x == ("__debug__" : Str))=false:=by decide):wpAny (model X.prog X.w) X.A (eval (.Name x pos) X.env) Q E s:=by
 obtain ⟨mb,h1,h2⟩:=I.mod.blt
 exact Calls.Name_function_global I.ok.kind hg (Calls.loadGlobal_builtin (by rw [I.ok.glob]; exact I.mod.glob.keeps I.bk) hm (by rw [I.ok.blt]; exact h1.keeps I.bk) ((h2 x hn).trans hv) h) hd
theorem pe_glob (hg:Gl X x) (hm:X.mg x=some u) (r:RelV v u) (hd:(x == ("__debug__" : Str))=false:=by decide):PE X (.Name x pos) (tC v) :=
 fun _ _ _ H _ I h=>ld_glob I hg hm ⟨v,H,I,r,h⟩ hd
theorem pe_bltn (hg:Gl X x) (hm:X.mg x=none) (hv:bootBuiltins x=some u) (r:RelV v u) (hn:x ≠ "__name__" := by decide) (hd:(x == ("__debug__" : Str))=false:=by decide):PE X (.Name x pos) (tC v) :=
 fun _ _ _ H _ I h=>ld_blt I hg hm hv ⟨v,H,I,r,h⟩ hn hd
variable {a b:Expr} {ta tb:TE} {pos:Pos}
def tB (t:TE):TT:=fun σ H Q=>t σ H fun x H1=>∃ c,x=.bl c/\Q c H1
theorem pt_val (h:PE X e t) (he:∀ whole,isTrue e X.env whole=(do let v <- whole; standAt e.pos; holding [v] (truthy v)):=by intro _; rfl):PT X e (tB t):=by
 intro pins s σ H Q I hw
 refine isTrue_plain (thn (h pins s σ H _ I hw) fun v s1 hx5=>L2.ex2 hx5 fun x H1 I1 r1 q1=>?_) (he _)
 obtain ⟨d,rfl,q⟩:=q1
 cases r1
 exact wpAny_truthy_bool ⟨H1,I1,q⟩
variable {tA tB':TT} {rest:List Expr}
def tAnd (t u:TT):TT:=fun σ H Q=>t σ H fun c H1=>if c=true then u σ H1 Q else Q false H1
def tOr (t u:TT):TT:=fun σ H Q=>t σ H fun c H1=>if c=true then Q true H1 else u σ H1 Q
def tNot (t:TT):TT:=fun σ H Q=>t σ H fun c H1=>Q (!c) H1
theorem pw_and1 (ha:PT X a tA):PW X (.BoolOp .And [a] pos) tA:=by
 intro wh pins s σ H Q I h
 refine isTrue_and (thn (ha pins s σ H Q I h) fun c s1 e=>?_)
 cases c with
 | true=>exact isTrue_and_nil e
 | false=>exact e
theorem pw_or1 (ha:PT X a tA):PW X (.BoolOp .Or [a] pos) tA:=by
 intro wh pins s σ H Q I h
 refine isTrue_or (thn (ha pins s σ H Q I h) fun c s1 e=>?_)
 cases c with
 | false=>exact isTrue_or_nil e
 | true=>exact e
theorem pw_and (ha:PT X a tA) (hb:PW X (.BoolOp .And (b :: rest) pos) tB'):PW X (.BoolOp .And (a :: b :: rest) pos) (tAnd tA tB'):=by
 intro wh pins s σ H Q I h
 refine isTrue_and (thn (ha pins s σ H _ I h) fun c s1 hx9=>?_)
 obtain ⟨H1,I1,q1⟩:=hx9
 cases c with
 | true=>exact hb wh pins s1 σ H1 Q I1 q1
 | false=>exact ⟨H1,I1,q1⟩
theorem pw_or (ha:PT X a tA) (hb:PW X (.BoolOp .Or (b :: rest) pos) tB'):PW X (.BoolOp .Or (a :: b :: rest) pos) (tOr tA tB'):=by
 intro wh pins s σ H Q I h
 refine isTrue_or (thn (ha pins s σ H _ I h) fun c s1 hx9=>?_)
 obtain ⟨H1,I1,q1⟩:=hx9
 cases c with
 | true=>exact ⟨H1,I1,q1⟩
 | false=>exact hb wh pins s1 σ H1 Q I1 q1
theorem pt_not (ha:PT X a tA):PT X (.UnaryOp .Not a pos) (tNot tA):=by
 intro pins s σ H Q I h
 exact isTrue_not (ha pins s σ H (fun c H1=>Q (!c) H1) I h)
def tIf (t:TT) (ta tb:TE):TE:=fun σ H Q=>t σ H fun c H1=>if c=true then ta σ H1 Q else tb σ H1 Q
theorem pe_ifExp (hc:PT X c tA) (ha:PE X a ta) (hb:PE X b tb):PE X (.IfExp c a b pos) (tIf tA ta tb):=by
 intro pins s σ H Q I h
 refine wpAny_IfExp (thn (hc pins s σ H _ I h) fun d s1 hx9=>?_)
 obtain ⟨H1,I1,q1⟩:=hx9
 cases d with
 | true=>exact ha pins s1 σ H1 Q I1 q1
 | false=>exact hb pins s1 σ H1 Q I1 q1
end
def SqL (K:PySem.W.Frag) (H:Hp) (a:Addr) (xs:List V):Prop :=
 Rd H a (.lst xs) \/
  ∃ (o:Obj) (its:Array Value) (n:Nat),K.lookup a=some o/\o.cls=.type "list"/\o.dict=none/\o.data=.seq its n/\its.size<=sizeLine/\Vals xs its.toList
def SqT (K:PySem.W.Frag) (H:Hp) (a:Addr) (xs:List V):Prop :=
 Rd H a (.tup xs) \/
  ∃ (o:Obj) (its:Array Value) (n:Nat),K.lookup a=some o/\o.cls=.type "tuple"/\o.data=.seq its n/\its.size<=sizeLine/\Vals xs its.toList
def absV:Value->Option V
 | .none=>some .non
 | .bool b=>some (.bl b)
 | .int i _=>some (.int i)
 | .str x _=>some (.str x)
 | .bytes b _=>some (.byt b)
 | .float b _=>some (.flt b)
 | .ref a=>some (.ref a)
 | .type n=>some (.ty n)
 | _=>none
theorem RelV.abs (r:RelV x u):absV u=some x:=by
 cases x with
 | non=>cases r; rfl
 | bl _=>cases r; rfl
 | int _=>obtain ⟨t,rfl⟩:=r; rfl
 | str _=>obtain ⟨t,rfl⟩:=r; rfl
 | byt _=>obtain ⟨t,rfl⟩:=r; rfl
 | flt _=>obtain ⟨t,rfl⟩:=r; rfl
 | ref _=>cases r; rfl
 | ty _=>cases r; rfl
theorem RelV.inj (r:RelV x u) (q:RelV y u):x=y:=Option.some.inj (r.abs.symm.trans q.abs)
theorem Vals.inj:∀ {xs ys:List V} {us:List Value},Vals xs us->Vals ys us->xs=ys
 | _,_,_,.nil,.nil=>rfl
 | _,_,_,.cons r t,.cons r' t'=>by rw [r.inj r',Vals.inj t t']
section
variable {X:Cx} {pins:List (Addr × Obj)} {σ:St} {H:Hp} {s:Shared} {a:Addr} {xs ys:List V}
theorem SqL.of {K:PySem.W.Frag} (h:H a=some (.lst xs)):SqL K H a xs:=.inl (.inl h)
theorem SqT.of {K:PySem.W.Frag} (h:H a=some (.tup xs)):SqT K H a xs:=.inl (.inl h)
theorem Inv.list (I:Inv X pins σ H s) (h:SqL X.K H a xs):∃ its:List Value,Vals xs its/\PlainL s.heap a its.toArray/\xs.length<=sizeLine:=by
 rcases h with h | ⟨o,its,n,hk,hc,hd,hs,hz,r⟩
 ·obtain ⟨z,its,n,r,e⟩:=h.ok I.hok
  exact ⟨its,r,⟨_,n,e,rfl,rfl,rfl⟩,z⟩
 ·refine ⟨its.toList,r,⟨o,n,I.kIn a o hk,hc,hd,by simpa using hs⟩,?_⟩
  have e:=r.length
  simp only [xaY] at e
  lia
theorem Inv.tuple (I:Inv X pins σ H s) (h:SqT X.K H a xs):∃ its:List Value,Vals xs its/\IsTup s.heap a its.toArray/\xs.length<=sizeLine:=by
 rcases h with h | ⟨o,its,n,hk,hc,hs,hz,r⟩
 ·obtain ⟨z,its,r,p⟩:=h.ok I.hok
  exact ⟨its,r,p,z⟩
 ·refine ⟨its.toList,r,⟨o,I.kIn a o hk,hc,n,by simpa using hs⟩,?_⟩
  have e:=r.length
  simp only [xaY] at e
  lia
theorem Inv.list_inj (I:Inv X pins σ H s) (h:SqL X.K H a xs) (h':SqL X.K H a ys):xs=ys:=by
 obtain ⟨its,r,⟨o,n,e,_,_,d⟩,_⟩:=I.list h
 obtain ⟨its',r',⟨o',n',e',_,_,d'⟩,_⟩:=I.list h'
 rw [e] at e'; cases e'
 rw [d] at d'
 injection d' with d1 _
 have:its=its':=by simpa using congrArg Array.toList d1
 subst this
 exact r.inj r'
theorem Inv.tuple_inj (I:Inv X pins σ H s) (h:SqT X.K H a xs) (h':SqT X.K H a ys):xs=ys:=by
 obtain ⟨its,r,⟨o,e,_,n,d⟩,_⟩:=I.tuple h
 obtain ⟨its',r',⟨o',e',_,n',d'⟩,_⟩:=I.tuple h'
 rw [e] at e'; cases e'
 rw [d] at d'
 injection d' with d1 _
 have:its=its':=by simpa using congrArg Array.toList d1
 subst this
 exact r.inj r'
end
abbrev Cx.wish (X:Cx) (E:Value->Shared->Prop):Cx:={ X with xe:=E }
abbrev Cx.nox (X:Cx):Cx:=X.wish fun _ _=>False
theorem Cx.Ok.wish {X:Cx} (ok:X.Ok) (E:Value->Shared->Prop):(X.wish E).Ok :=
 ⟨ok.mod,ok.kind,ok.glob,ok.blt,ok.above,ok.inj,ok.has,ok.cab,ok.hd,ok.frames,ok.stk,ok.exf,ok.bs,ok.bsz,ok.noex,ok.exfs,ok.funs,ok.frf⟩
theorem Cx.Ok.unwish {X:Cx} (ok:(X.wish E).Ok):X.Ok :=
 ⟨ok.mod,ok.kind,ok.glob,ok.blt,ok.above,ok.inj,ok.has,ok.cab,ok.hd,ok.frames,ok.stk,ok.exf,ok.bs,ok.bsz,ok.noex,ok.exfs,ok.funs,ok.frf⟩
section
variable {X:Cx} {pins:List (Addr × Obj)} {σ:St} {H:Hp} {s:Shared} {E:Value->Shared->Prop}
theorem Inv.wish (I:Inv X pins σ H s) (E:Value->Shared->Prop):Inv (X.wish E) pins σ H s:=⟨I.ok.wish E,I.os,I.bare,I.base,I.loc,I.cell,I.free,I.freeC,I.pin,I.hok,I.len⟩
theorem Inv.unwish (I:Inv (X.wish E) pins σ H s):Inv X pins σ H s:=⟨I.ok.unwish,I.os,I.bare,I.base,I.loc,I.cell,I.free,I.freeC,I.pin,I.hok,I.len⟩
theorem SP.unwish {D:Ends} (h:SP (X.wish E) pins D f s'):SP X pins D f s':=by
 cases f with
 | next=>obtain ⟨σ',H',I,q⟩:=h; exact ⟨σ',H',I.unwish,q⟩
 | brk=>obtain ⟨σ',H',I,q⟩:=h; exact ⟨σ',H',I.unwish,q⟩
 | cont=>obtain ⟨σ',H',I,q⟩:=h; exact ⟨σ',H',I.unwish,q⟩
 | ret u=>obtain ⟨v,σ',H',I,r,q⟩:=h; exact ⟨v,σ',H',I.unwish,r,q⟩
theorem PE.nox (h:PE X.nox e t):PE X e t:=fun pins s σ H Q I hw =>
 xaM (h pins s σ H Q (I.wish _) hw) (fun _ _ hx5=>L2.ex2 hx5 fun v H' I' r q=>⟨v,H',I'.unwish,r,q⟩) fun _ _ z=>False.elim z
theorem PT.nox (h:PT X.nox e t):PT X e t:=fun pins s σ H Q I hw =>
 xaM (h pins s σ H Q (I.wish _) hw) (fun _ _ ⟨H',I',q⟩=>⟨H',I'.unwish,q⟩) fun _ _ z=>False.elim z
theorem PSs.nox {st:List Stmt} (h:PSs X.nox st t):PSs X st t:=fun pins s σ H D I hw =>
 xaM (h pins s σ H D (I.wish _) hw) (fun _ _ q=>q.unwish) fun _ _ z=>False.elim z
end
section
variable {X:Cx} {st:Stmt} {rest:List Stmt} {t u:TS} {e:Expr} {te:TE} {pos:Pos}
def tNext:TS:=fun D σ H=>D.nx σ H
def tSeq (t u:TS):TS:=fun D σ H=>t { D with nx:=u D } σ H
theorem pss_nil:PSs X [] tNext:=fun _ _ σ H _ I h=>wpAny_execs_nil ⟨σ,H,I,h⟩
theorem pss_cons (h1:PS X st t) (h2:PSs X rest u):PSs X (st :: rest) (tSeq t u):=by
 intro pins s σ H D I h
 refine wpAny_execs_cons (thn (h1 pins s σ H { D with nx:=u D } I h) fun f s1 q=>?_)
 cases f with
 | next =>
  obtain ⟨σ',H',I',q⟩:=q
  exact h2 pins s1 σ' H' D I' q
 | ret v=>exact q
 | brk=>exact q
 | cont=>exact q
theorem pss_one (h1:PS X st t):PSs X [st] t:=by
 intro pins s σ H D I h
 refine wpAny_execs_cons (thn (h1 pins s σ H D I h) fun f s1 q=>?_)
 cases f with
 | next=>exact wpAny_execs_nil q
 | ret v=>exact q
 | brk=>exact q
 | cont=>exact q
theorem Inv.quiet (I:Inv X pins σ H s):interactive X.env=false:=by simp [interactive,I.ok.kind]
def tDrop (te:TE):TS:=fun D σ H=>te σ H fun _ H1=>D.nx σ H1
theorem ps_expr (he:PE X e te) (hs:swapsWith e none pos.line X.env=pure false:=by rfl):PS X (.Expr e pos) (tDrop te):=by
 intro pins s σ H D I h
 exact wpAny_Expr_any (thn (he pins s σ H _ I h) fun v s1 hx5=>L2.ex2 hx5 fun x H1 I1 r1 q1=>⟨σ,H1,I1,q1⟩) I.quiet hs
def tRet (te:TE):TS:=fun D σ H=>te σ H D.rt
theorem ps_ret (he:PE X e te):PS X (.Return (some e) pos) (tRet te):=by
 intro pins s σ H D I h
 exact wpAny_Return_some (thn (he pins s σ H _ I h) fun v s1 hx5=>L2.ex2 hx5 fun x H1 I1 r1 q1=>⟨x,σ,H1,I1,r1,q1⟩)
def tIfS (c:TT) (t u:TS):TS:=fun D σ H=>c σ H fun b H1=>if b=true then t D σ H1 else u D σ H1
theorem ps_if (hc:PT X c tc) (ha:PSs X a t) (hb:PSs X b u):PS X (.If c a b pos) (tIfS tc t u):=by
 intro pins s σ H D I h
 refine wpAny_If (thn (hc pins s σ H _ I h) fun d s1 hx9=>?_)
 obtain ⟨H1,I1,q1⟩:=hx9
 cases d with
 | true=>exact ha pins s1 σ H1 D I1 q1
 | false=>exact hb pins s1 σ H1 D I1 q1
def tNever:TS:=fun _ _ _=>False
theorem pss_never:PSs X sts tNever:=fun _ _ _ _ _ _ h=>h.elim
end
abbrev TG:=V->St->Hp->(St->Hp->Prop)->Prop
abbrev TGs:=List V->St->Hp->(St->Hp->Prop)->Prop
def PG (X:Cx) (target:Expr) (t:TG):Prop :=
 ∀ (pins:List (Addr × Obj)) (s:Shared) (σ:St) (H:Hp) (v:V) (u:Value) (Q:St->Hp->Prop),Inv X pins σ H s->RelV v u->t v σ H Q ->
  wpAny (model X.prog X.w) X.A (assign target X.env u) (fun _ s'=>∃ σ' H',Inv X pins σ' H' s'/\Q σ' H') X.xe s
def PGs (X:Cx) (ts:List Expr) (t:TGs):Prop :=
 ∀ (pins:List (Addr × Obj)) (s:Shared) (σ:St) (H:Hp) (vs:List V) (us:List Value) (Q:St->Hp->Prop),Inv X pins σ H s->Vals vs us->t vs σ H Q ->
  wpAny (model X.prog X.w) X.A (assignInOrder ((assignEach ts X.env).map (·.2)) us) (fun _ s'=>∃ σ' H',Inv X pins σ' H' s'/\Q σ' H') X.xe s
section
variable {X:Cx} {pos:Pos}
def gName (i:Nat):TG:=fun v σ H Q=>Q (σ.set i (some v)) H
theorem pg_name (hN:X.N.Nodup) (hi:X.N[i]? = some x) (hx:Loc X.env.scope x) (hf:X.fn x=true\/X.env.scope.names.lookup x=some .local:=by first | exact .inl rfl | exact .inr rfl | assumption):PG X (.Name x pos) (gName i):=by
 intro pins s σ H v u Q I r h
 exact wpAny_assign_Name (store_ok I hN hi hx r (fun s' I'=>⟨_,H,I',h⟩) hf)
def gNil:TGs:=fun vs σ H Q=>vs=[]/\Q σ H
def gCons (t:TG) (u:TGs):TGs:=fun vs σ H Q=>∃ v r,vs=v :: r/\t v σ H fun σ' H'=>u r σ' H' Q
theorem pgs_nil:PGs X [] gNil:=by
 intro pins s σ H vs us Q I r h
 obtain ⟨e,h⟩:=h
 subst e
 cases r
 exact assignInOrder_nil ⟨σ,H,I,h⟩
theorem pgs_cons (h1:PG X e t) (h2:PGs X es u)
  (hs:(assignEach (e :: es) X.env).map (·.2)=assign e X.env :: (assignEach es X.env).map (·.2):=by rfl):PGs X (e :: es) (gCons t u):=by
 intro pins s σ H vs us Q I r h
 obtain ⟨v,vr,e1,h⟩:=h
 subst e1
 cases r with
 | cons r rr =>
  rw [hs]
  refine assignInOrder_cons (thn (h1 pins s σ H _ _ _ I r h) fun _ s1 hx9=>?_)
  obtain ⟨σ1,H1,I1,q1⟩:=hx9
  exact h2 pins s1 σ1 H1 _ _ Q I1 rr q1
def gTup (K:PySem.W.Frag) (n:Nat) (t:TGs):TG:=fun v σ H Q=>∃ a xs,v=.ref a/\SqT K H a xs/\xs.length=n/\t xs σ H Q
theorem pg_tup (hc:X.calm=true) (h:PGs X es t)
  (hn:(assignEach es X.env).length=n:=by rfl) (hst:(assignEach es X.env).findIdx? (·.1)=none:=by rfl):PG X (.Tuple es k pos) (gTup X.K n t):=by
 intro pins s σ H v u Q I r hw
 obtain ⟨a,xs,e1,hq,hl,hw⟩:=hw
 subst e1
 cases r
 obtain ⟨its,rv,ht,hz⟩:=I.tuple hq
 refine assign_Tuple_tuple (I.ok.hd hc) ht (by simp [hn,<- hl,rv.length]) hst fun h' hx=>?_
 have I1:Inv X pins σ H { s with heap:=h' }:=I.kept (t':=s.toks) fun b o e=>hx b o (xaA (xao e)) e
 exact h pins _ σ H xs _ Q I1 (by simpa using rv) hw
def tAsg (te:TE) (g:TG):TS:=fun D σ H=>te σ H fun x H1=>g x σ H1 D.nx
theorem ps_set (hN:X.N.Nodup) (hi:X.N[i]? = some x) (hx:Loc X.env.scope x) (he:PE X e te) (hs:swapsWith e (some (.Name x pos')) pos.line X.env=pure false:=by rfl) (hf:X.fn x=true\/X.env.scope.names.lookup x=some .local:=by first | exact .inl rfl | exact .inr rfl | assumption) :
  PS X (.Assign [.Name x pos'] e pos) (tAsg te (gName i)):=by
 intro pins s σ H D I h
 refine wpAny_Assign_Name (thn (he pins s σ H _ I h) fun v s1 hx5=>L2.ex2 hx5 fun y H1 I1 r1 q1=>?_) hs
 exact store_ok I1 hN hi hx r1 (fun s2 I2=>⟨_,H1,I2,q1⟩) hf
end
section
variable {X:Cx} {pos:Pos}
def tWhile (c:TT) (tb:TS):TS:=fun D σ H=>∃ W:Nat->St->Hp->Prop,(∃ m,W m σ H)/\∀ m σ H,W m σ H ->
 c σ H fun b H1=>if b=true then ∃ N:St->Hp->Prop,(∀ σ' H',N σ' H'->∃ m',m'<m/\W m' σ' H')/\tb { D with nx:=N,ct:=N,bk:=D.nx } σ H1 else D.nx σ H1
theorem ps_while (hp:PassesOwn (model X.prog X.w) X.A X.env X.xe) (hc:PT X c tc) (hb:PSs X body tb):PS X (.While c body [] pos) (tWhile tc tb):=by
 intro pins s σ H D I h
 obtain ⟨W,⟨m0,w0⟩,turn⟩:=h
 refine wpAny_While (codeAny_whileLoop (fun n s'=>∃ σ' H',Inv X pins σ' H' s'/\W n σ' H') ?_ m0 ⟨σ,H,I,w0⟩)
 rintro n s1 ⟨σ1,H1,I1,w1⟩
 refine wpAny_passesOwn hp (thn (hc pins s1 σ1 H1 _ I1 (turn n σ1 H1 w1)) fun b s2 hx9=>?_)
 obtain ⟨H2,I2,q2⟩:=hx9
 cases b with
 | true =>
  obtain ⟨N,hN,q2⟩:=q2
  rw [if_pos rfl]
  refine wpAny_passesOwn hp (thn (hb pins s2 σ1 H2 _ I2 q2) fun f s3 q3=>?_)
  cases f with
  | next =>
   obtain ⟨σ3,H3,I3,n3⟩:=q3
   obtain ⟨m',hm,w3⟩:=hN σ3 H3 n3
   exact ⟨m',hm,σ3,H3,I3,w3⟩
  | cont =>
   obtain ⟨σ3,H3,I3,n3⟩:=q3
   obtain ⟨m',hm,w3⟩:=hN σ3 H3 n3
   exact ⟨m',hm,σ3,H3,I3,w3⟩
  | brk=>exact q3
  | ret v=>exact q3
 | false =>
  rw [if_neg xas]
  exact wpAny_execs_nil ⟨σ1,H2,I2,q2⟩
end
structure It where
 go:Nat->Hp->Prop
 yld:Nat->Hp->V->Hp->Prop
 stop:Nat->Hp->Prop
def FpOk (X:Cx) (pins:List (Addr × Obj)) (H:Hp) (b:Addr):Prop :=
 H b=none/\b≠X.env.locals/\b∉X.fs/\(b∈X.ex\/X.s₀.heap.objs.size<=b)/\(∀ x c,X.env.cells.lookup x=some c->c≠b)/\∀ p∈X.pn++pins,p.1≠b
theorem Inv.fpOk {X:Cx} (I:Inv X pins σ H s) (hb:s.heap.objs.size<=b) (hn:H' b=none):FpOk X pins H' b:=by
 refine ⟨hn,Nat.ne_of_gt (xal I.lt hb),I.nofs hb,.inr (xaz I.sz hb),fun x c e z=>?_,fun p hp z=>?_⟩
 ·obtain ⟨v,q⟩:=I.cell x c e
  exact absurd (xal q.lt (by rw [z]; exact hb)) (xaO _)
 ·exact absurd (xal (xao (I.pin p hp).1) (by rw [z]; exact hb)) (xaO _)
structure Turn (P:Program) (w:World) (K:PySem.W.Frag) (tg:Expr) (J:It) (fp:List Addr) (it:Addr) (tn:Nat->Heap->Prop):Prop where
 mem:it∈fp
 obj:∀ i h,tn i h->∀ b∈fp,∃ o,h.get? b=some o/\∀ v,o.data≠.cell v
 keep:∀ i h h',tn i h->(∀ b∈fp,∀ o,h.get? b=some o->h'.get? b=some o)->tn i h'
 item:∀ (X:Cx),X.prog=P->X.w=w->X.K=K->X.calm=true->∀ (i:Nat) (pins:List (Addr × Obj)) (s:Shared) (σ:St) (H:Hp) (E:Value->Shared->Prop),Inv X pins σ H s->(∀ b∈fp,FpOk X pins H b)->tn i s.heap->J.go i H ->
  wpAny (model P w) X.A (pyNext (.ref it)) (fun r s1=>∃ u,r=some u /\
   wpAny (model P w) X.A (letOwnedTupleGo tg (.ref it) u) (fun _ s2=>∃ x H',Inv X pins σ H' s2/\RelV x u/\J.yld i H x H'/\tn (i+1) s2.heap/\∀ b∈fp,H' b=none) E s1) E s
 done:∀ (X:Cx),X.prog=P->X.w=w->X.K=K->X.calm=true->∀ (i:Nat) (pins:List (Addr × Obj)) (s:Shared) (σ:St) (H:Hp) (E:Value->Shared->Prop),Inv X pins σ H s->(∀ b∈fp,FpOk X pins H b)->tn i s.heap->J.stop i H ->
  wpAny (model P w) X.A (pyNext (.ref it)) (fun r s1=>r=none/\Inv X pins σ H s1) E s
 self:∀ (A:Around) (i:Nat) (s:Shared) (Q:Value->Shared->Prop) (E:Value->Shared->Prop),tn i s.heap->Q (.ref it) s->wpAny (model P w) A (pyIter (.ref it)) Q E s
abbrev TI:=St->Hp->(It->Hp->Prop)->Prop
def PIE (X:Cx) (pins:List (Addr × Obj)) (σ:St) (tg:Expr) (R:It->Hp->Prop) (itv:Value) (s2:Shared):Prop :=
 ∃ (it:Addr) (fp:List Addr) (tn:Nat->Heap->Prop) (J:It) (H':Hp),itv=.ref it/\Inv X pins σ H' s2/\Turn X.prog X.w X.K tg J fp it tn/\tn 0 s2.heap/\(∀ b∈fp,FpOk X pins H' b)/\R J H'
def PI (X:Cx) (tg iter:Expr) (wi:TI):Prop :=
 ∀ (pins:List (Addr × Obj)) (s:Shared) (σ:St) (H:Hp) (R:It->Hp->Prop),Inv X pins σ H s->wi σ H R ->
  wpAny (model X.prog X.w) X.A (eval iter X.env) (fun v s1=>wpAny (model X.prog X.w) X.A (pyIter v) (PIE X pins σ tg R) X.xe s1) X.xe s
theorem go_of (ho:s.heap.get? it=some o) (hc:o.cls=.type n) (hd:o.data=.fields vs)
  (hn:["enumerate", "zip", "dict_itemiterator", "dict_reverseitemiterator", "odict_iterator", "itertools.zip_longest", "itertools.pairwise"].contains n=false) (hQ:Q () s):wpAny M A (letOwnedTupleGo tg (.ref it) u) Q E s:=by
 unfold letOwnedTupleGo
 cases tg <;> first
  | exact xae hQ
  | (cases u <;> first
     | exact xae hQ
     | (refine xaa (wpAny_load ho ?_)
        rw [hc,hd]
        show wpAny M A (if (["enumerate", "zip", "dict_itemiterator", "dict_reverseitemiterator", "odict_iterator", "itertools.zip_longest", "itertools.pairwise"].contains n && vs[0]? == some (rawInt _))=true then _ else _) Q E s
        rw [if_neg (by intro h; rw [hn,Bool.false_and] at h; cases h)]
        exact xae hQ))
def Itl (K:PySem.W.Frag) (a:Addr):It :=
 ⟨fun i H=>∃ xs x,SqL K H a xs/\xs[i]? = some x,fun i H x H'=>H'=H/\∀ xs,SqL K H a xs->xs[i]? = some x,fun i H=>∃ xs,SqL K H a xs/\xs.length<=i⟩
def Itt (K:PySem.W.Frag) (a:Addr):It :=
 ⟨fun i H=>∃ xs x,SqT K H a xs/\xs[i]? = some x,fun i H x H'=>H'=H/\∀ xs,SqT K H a xs->xs[i]? = some x,fun i H=>∃ xs,SqT K H a xs/\xs.length<=i⟩
def Itr (lo:Int) (n:Nat):It:=⟨fun i _=>i<n,fun i H x H'=>H'=H/\x=.int (lo+i),fun i _=>n<=i⟩
theorem turn_list {P:Program} {K:PySem.W.Frag} (a it:Addr):Turn P w K tg (Itl K a) [it] it (fun i h=>h.IsListIter it a i) where
 mem:=by simp
 obj:=fun i h st b hb=>by
  have e:b=it:=by simpa using hb
  subst e
  obtain ⟨o,e,c,d⟩:=st
  exact ⟨o,e,fun v z=>by rw [d] at z; cases z⟩
 keep:=fun i h h' st k=>st.at fun o e=>k it (by simp) o e
 item:=by
  intro X hP hw hK hc i pins s σ H E I hf st hg
  subst hP hw hK
  obtain ⟨xs,x,hq,hx⟩:=hg
  obtain ⟨its,rv,p,hz⟩:=I.list hq
  obtain ⟨u,hu,ru⟩:=rv.get hx
  obtain ⟨f0,f1,f2,f3,f4,f5⟩:=hf it (by simp)
  refine wpAny_pyNext_list_item st p.isList (x:=u) (by simpa using hu) fun h' st' sb=>?_
  have I1:Inv X pins σ H { s with heap:=h' }:=I.turned (t':=s.toks) (fun b o hb e=>(sb.2 b hb).trans e) f0 f1 f3 f4 f5
  obtain ⟨o,e,c,d⟩:=id st'
  exact ⟨u,rfl,go_of (s:={ s with heap:=h' }) e c d (by decide) ⟨x,H,I1,ru,⟨rfl,fun ys hy=>by rw [I.list_inj hy hq]; exact hx⟩,st',fun b hb=>(hf b hb).1⟩⟩
 done:=by
  intro X hP hw hK hc i pins s σ H E I hf st hg
  subst hP hw hK
  obtain ⟨xs,hq,hx⟩:=hg
  obtain ⟨its,rv,p,hz⟩:=I.list hq
  obtain ⟨f0,f1,f2,f3,f4,f5⟩:=hf it (by simp)
  have hl:=rv.length
  exact wpAny_pyNext_list_end (I.ok.hd hc) st p.isList (by simp; lia) fun h' eb=>⟨rfl,I.turned (t':=s.toks) (fun b o hb e=>eb b o hb e) f0 f1 f3 f4 f5⟩
 self:=fun _ _ _ _ _ st h=>wpAny_pyIter_listiter st h
theorem turn_tuple {P:Program} {K:PySem.W.Frag} (a it:Addr):Turn P w K tg (Itt K a) [it] it (fun i h=>h.IsTupleIter it a i) where
 mem:=by simp
 obj:=fun i h st b hb=>by
  have e:b=it:=by simpa using hb
  subst e
  obtain ⟨o,e,c,d⟩:=st
  exact ⟨o,e,fun v z=>by rw [d] at z; cases z⟩
 keep:=fun i h h' st k=>st.at fun o e=>k it (by simp) o e
 item:=by
  intro X hP hw hK hc i pins s σ H E I hf st hg
  subst hP hw hK
  obtain ⟨xs,x,hq,hx⟩:=hg
  obtain ⟨its,rv,p,hz⟩:=I.tuple hq
  obtain ⟨u,hu,ru⟩:=rv.get hx
  obtain ⟨f0,f1,f2,f3,f4,f5⟩:=hf it (by simp)
  refine wpAny_pyNext_tuple_item st (show s.heap.IsTuple a its.toArray from p) (x:=u) (by simpa using hu) fun h' st' sb=>?_
  have I1:Inv X pins σ H { s with heap:=h' }:=I.turned (t':=s.toks) (fun b o hb e=>(sb.2 b hb).trans e) f0 f1 f3 f4 f5
  obtain ⟨o,e,c,d⟩:=id st'
  exact ⟨u,rfl,go_of (s:={ s with heap:=h' }) e c d (by decide) ⟨x,H,I1,ru,⟨rfl,fun ys hy=>by rw [I.tuple_inj hy hq]; exact hx⟩,st',fun b hb=>(hf b hb).1⟩⟩
 done:=by
  intro X hP hw hK hc i pins s σ H E I hf st hg
  subst hP hw hK
  obtain ⟨xs,hq,hx⟩:=hg
  obtain ⟨its,rv,p,hz⟩:=I.tuple hq
  obtain ⟨f0,f1,f2,f3,f4,f5⟩:=hf it (by simp)
  have hl:=rv.length
  exact wpAny_pyNext_tuple_end (I.ok.hd hc) st (show s.heap.IsTuple a its.toArray from p) (by simp; lia) fun h' eb=>⟨rfl,I.turned (t':=s.toks) (fun b o hb e=>eb b o hb e) f0 f1 f3 f4 f5⟩
 self:=fun _ _ _ _ _ st h=>wpAny_pyIter_tupleiter st h
theorem turn_range {P:Program} {K:PySem.W.Frag} (it:Addr) (lo:Int) (n:Nat):Turn P w K tg (Itr lo n) [it] it (fun i h=>IsRangeIter h it (lo+(i:Nat) * 1) ((n:Int) - (i:Nat)) 1) where
 mem:=by simp
 obj:=fun i h st b hb=>by
  have e:b=it:=by simpa using hb
  subst e
  exact ⟨_,st,fun v z=>by
   have z':Data.fields _=Data.cell v:=z
   cases z'⟩
 keep:=fun i h h' st k=>k it (by simp) _ st
 item:=by
  intro X hP hw hK hc i pins s σ H E I hf st hg
  subst hP hw hK
  obtain ⟨f0,f1,f2,f3,f4,f5⟩:=hf it (by simp)
  have W:=Walks.range (prog:=X.prog) (w:=X.w) (I.ok.hd hc) it lo 1 n
  refine W.item i s _ _ hg st fun v h' tk hv st' kk=>?_
  obtain ⟨t,rfl⟩:=hv
  have I1:Inv X pins σ H { s with heap:=h',toks:=tk }:=I.turned (fun b o hb e=>kk b o (by simpa using hb) e) f0 f1 f3 f4 f5
  refine ⟨_,rfl,go_of (s:={ s with heap:=h',toks:=tk }) (n := "range_iterator") st' rfl rfl (by decide) ⟨.int (lo+i),H,I1,⟨t,?_⟩,⟨rfl,rfl⟩,st',fun b hb=>(hf b hb).1⟩⟩
  rw [Int.mul_one]
 done:=by
  intro X hP hw hK hc i pins s σ H E I hf st hg
  subst hP hw hK
  obtain ⟨f0,f1,f2,f3,f4,f5⟩:=hf it (by simp)
  exact wpAny_pyNext_range_end (I.ok.hd hc) st (by have:n<=i:=hg; lia) fun h' eb=>⟨rfl,I.turned (t':=s.toks) (fun b o hb e=>eb b o hb e) f0 f1 f3 f4 f5⟩
 self:=fun _ _ _ _ _ st h=>wpAny_pyIter_rangeiter st h
section
variable {X:Cx} {tg:Expr}
def iList (K:PySem.W.Frag) (tl:TE):TI:=fun σ H R=>tl σ H fun x H1=>∃ a,x=.ref a/\(∃ xs,SqL K H1 a xs)/\R (Itl K a) H1
def iTup (K:PySem.W.Frag) (tl:TE):TI:=fun σ H R=>tl σ H fun x H1=>∃ a,x=.ref a/\(∃ xs,SqT K H1 a xs)/\R (Itt K a) H1
theorem pi_list (hl:PE X l tl):PI X tg l (iList X.K tl):=by
 intro pins s σ H R I h
 refine thn (hl pins s σ H _ I h) fun v s1 hx5=>L2.ex2 hx5 fun x H1 I1 r1 q1=>?_
 obtain ⟨a,e,⟨xs,hq⟩,q⟩:=q1
 subst e
 cases r1
 obtain ⟨its,rv,p,hz⟩:=I1.list hq
 refine wpAny_pyIter_list p.isList ?_
 refine ⟨s1.heap.objs.size,[s1.heap.objs.size],_,_,H1,rfl,I1.kept (t':=s1.toks) fun b o e=>xau _ e,turn_list a _,⟨_,xaI _ rfl,rfl,rfl⟩,fun b hb=>?_,q⟩
 have e:b=s1.heap.objs.size:=by simpa using hb
 subst e
 exact I1.fpOk (xah _) (I1.hok.fresh (xah _))
theorem pi_tup (hl:PE X l tl):PI X tg l (iTup X.K tl):=by
 intro pins s σ H R I h
 refine thn (hl pins s σ H _ I h) fun v s1 hx5=>L2.ex2 hx5 fun x H1 I1 r1 q1=>?_
 obtain ⟨a,e,⟨xs,hq⟩,q⟩:=q1
 subst e
 cases r1
 obtain ⟨its,rv,p,hz⟩:=I1.tuple hq
 refine wpAny_pyIter_tuple (show s1.heap.IsTuple a its.toArray from p) ?_
 refine ⟨s1.heap.objs.size,[s1.heap.objs.size],_,_,H1,rfl,I1.kept (t':=s1.toks) fun b o e=>xau _ e,turn_tuple a _,⟨_,xaI _ rfl,rfl,rfl⟩,fun b hb=>?_,q⟩
 have e:b=s1.heap.objs.size:=by simpa using hb
 subst e
 exact I1.fpOk (xah _) (I1.hok.fresh (xah _))
theorem range_it {R:It->Hp->Prop} {lo hi:Int} (I:Inv X pins σ H s) (h1:-(2 ^ 62)<=lo) (h2:lo<2 ^ 62) (h3:-(2 ^ 62)<=hi) (h4:hi<2 ^ 62)
  (q:R (Itr lo (hi - lo).toNat) H):wpAny (model X.prog X.w) X.A (pyIter (.ref s.heap.objs.size)) (PIE X pins σ tg R) E { s with heap:=s.heap.push { cls:=.type "range",data:=.fields #[.int lo t,.int hi u,.int 1 v] },toks:=tk }:=by
 refine wpAny_pyIter_range (IsRange.new ..) (small_one h1 h2 h3 h4) ?_
 have I1:Inv X pins σ H { s with heap:=s.heap.push { cls:=.type "range",data:=.fields #[.int lo t,.int hi u,.int 1 v] },toks:=tk }:=I.kept fun b o e=>xau _ e
 refine ⟨(s.heap.push { cls:=.type "range",data:=.fields #[.int lo t,.int hi u,.int 1 v] }).objs.size,[(s.heap.push { cls:=.type "range",data:=.fields #[.int lo t,.int hi u,.int 1 v] }).objs.size],_,_,H,rfl,
  I1.kept (t':=tk) fun b o e=>xau _ e,turn_range _ lo (hi - lo).toNat,?_,fun b hb=>?_,q⟩
 ·have e1:lo+((0:Nat):Int) * 1=lo:=by simp
  have e2:(((hi - lo).toNat:Nat):Int) - ((0:Nat):Int)=Builtin.Range.rangeSize lo hi 1:=by rw [rangeSize_one]; split <;> lia
  show IsRangeIter _ _ (lo+((0:Nat):Int) * 1) ((((hi - lo).toNat:Nat):Int) - ((0:Nat):Int)) 1
  rw [e1,e2]
  exact xaI _ rfl
 ·have e:b=(s.heap.push { cls:=.type "range",data:=.fields #[.int lo t,.int hi u,.int 1 v] }).objs.size:=by simpa using hb
  subst e
  exact I1.fpOk (xah _) (I1.hok.fresh (xah _))
def iRng1 (ta:TA):TI:=fun σ H R=>ta σ H fun vs H1=>∃ j:Int,vs=[.int j]/\-(2 ^ 62)<=j/\j<2 ^ 62/\R (Itr 0 j.toNat) H1
theorem pi_range1 (hg:Gl X "range") (hm:X.mg "range" = none) (ha:PA X [a] ta) (hs:starEach [a] X.env=[(false,eval a X.env)]:=by rfl):PI X tg (.Call (.Name "range" p) [a] [] pos) (iRng1 ta):=by
 intro pins s σ H R I h
 refine Call_ (ld_blt I hg hm boot_range (PyProof.Rows.callWith_type1 (thn (ha pos pins s σ H _ I h) fun us s1 hx5=>L2.ex2 hx5 fun vs H1 I1 r1 q1=>?_) hs rfl))
 obtain ⟨j,e,q1,q2,q⟩:=q1
 subst e
 cases r1 with
 | cons r rr =>
  cases rr
  obtain ⟨t,rfl⟩:=r
  exact call_range_1 (range_it I1 (by lia) (by lia) q1 q2 (by simpa using q))
def tFor (wi:TI) (g:TG) (tb:TS):TS:=fun D σ H=>wi σ H fun J H1=>∃ W:Nat->Nat->St->Hp->Prop,(∃ m,W 0 m σ H1)/\∀ i m σ H,W i m σ H ->
 (J.stop i H/\D.nx σ H)\/(J.go i H/\∃ N:St->Hp->Prop,(∀ σ' H',N σ' H'->∃ m',m'<m/\W (i+1) m' σ' H')/\∀ x H',J.yld i H x H'->g x σ H' fun σ2 H2=>tb { D with nx:=N,ct:=N,bk:=D.nx } σ2 H2)
def pinsAt (fp:List Addr) (h:Heap):List (Addr × Obj):=fp.filterMap fun b=>(h.get? b).map fun o=>(b,o)
theorem mem_pinsAt (hb:b∈fp) (e:h.get? b=some o):(b,o)∈pinsAt fp h:=List.mem_filterMap.mpr ⟨b,hb,by rw [e]; rfl⟩
theorem of_pinsAt (hp:p∈pinsAt fp h):p.1∈fp/\h.get? p.1=some p.2:=by
 obtain ⟨b,hb,e⟩:=List.mem_filterMap.mp hp
 cases q:h.get? b with
 | none=>rw [q] at e; cases e
 | some o =>
  rw [q] at e
  have e':(b,o)=p:=Option.some.inj e
  subst e'
  exact ⟨hb,q⟩
theorem Inv.pinned (I:Inv X pins σ H s) (hf:∀ b∈fp,FpOk X pins H b) (ho:∀ b∈fp,∃ o,s.heap.get? b=some o/\∀ v,o.data≠.cell v):Inv X (pins++pinsAt fp s.heap) σ H s :=
 I.pins_of fun p hp=>(xaf.mp hp).elim (fun z=>I.pin p (xag _ z)) fun z=>by
  obtain ⟨hb,e⟩:=of_pinsAt z
  obtain ⟨f0,f1,f2,_⟩:=hf p.1 hb
  obtain ⟨o,e',d⟩:=ho p.1 hb
  rw [e] at e'; cases e'
  exact ⟨e,f0,f1,f2,d⟩
theorem Inv.unpinned (I:Inv X (pins++pl) σ H s):Inv X pins σ H s:=I.pins_of fun p hp=>I.pin p (xag _ (xap _ hp))
theorem ps_for (hp:PassesOwn (model X.prog X.w) X.A X.env X.xe) (hc:X.calm=true) (hi:PI X tg iter wi) (hg:PG X tg g) (hb:PSs X body tb)
  (hs:∀ x,foldedSetIterable iter X.env x=pure x:=by intro _; rfl):PS X (.For tg iter body [] pos) (tFor wi g tb):=by
 intro pins s σ H D I h
 refine wpAny_For (thn (hi pins s σ H _ I h) fun v s1 h1=>thn h1 fun itv s2 h2=>?_) hs
 obtain ⟨it,fp,tn,J,H2,e,I2,T,st2,f2,W,⟨m0,w0⟩,turn⟩:=h2
 subst e
 -- what stays true of the iterator's objects through the loop
 have stat:∀ {H':Hp},(∀ b∈fp,H' b=none)->∀ b∈fp,FpOk X pins H' b:=fun hn b hb=>⟨hn b hb,(f2 b hb).2⟩
 refine codeAny_forLoop_any (fun n s'=>∃ i σ' H',Inv X pins σ' H' s'/\tn i s'.heap/\(∀ b∈fp,H' b=none)/\W i n σ' H') ?_ m0 ⟨0,σ,H2,I2,st2,fun b hb=>(f2 b hb).1,w0⟩
 rintro n s3 ⟨i,σ3,H3,I3,st3,fr3,w3⟩
 rcases turn i n σ3 H3 w3 with ⟨stop,qn⟩ | ⟨go,N,hN,step⟩
 ·refine wpAny_passesOwn hp (thn (T.done X rfl rfl rfl hc i pins s3 σ3 H3 X.xe I3 (stat fr3) st3 stop) fun r s4 hx9=>?_)
  obtain ⟨hr,I4⟩:=hx9
  subst hr
  exact wpAny_execs_nil ⟨σ3,H3,I4,qn⟩
 ·refine wpAny_passesOwn hp (thn (T.item X rfl rfl rfl hc i pins s3 σ3 H3 X.xe I3 (stat fr3) st3 go) fun r s4 hx9=>?_)
  obtain ⟨u,hr,h4⟩:=hx9
  subst hr
  refine wpAny_passesOwn hp (thn h4 fun _ s5 hx9=>?_)
  obtain ⟨x,H5,I5,r5,y5,st5,fr5⟩:=hx9
  have I5':=I5.pinned (stat fr5) (T.obj _ _ st5)
  refine wpAny_passesOwn hp (thn (hg _ s5 σ3 H5 x u _ I5' r5 (step x H5 y5)) fun _ s6 hx9=>?_)
  obtain ⟨σ6,H6,I6,q6⟩:=hx9
  refine wpAny_passesOwn hp (thn (hb _ s6 σ6 H6 _ I6 q6) fun f s7 q7=>?_)
  have again:∀ {σ7:St} {H7:Hp},Inv X (pins++pinsAt fp s5.heap) σ7 H7 s7->N σ7 H7->∃ m,m<n/\∃ i σ' H',Inv X pins σ' H' s7/\tn i s7.heap/\(∀ b∈fp,H' b=none)/\W i m σ' H':=fun {σ7 H7} I7 n7=>by
   obtain ⟨m',hm,w7⟩:=hN σ7 H7 n7
   refine ⟨m',hm,i+1,σ7,H7,I7.unpinned,T.keep _ _ _ st5 fun b hb o e=>(I7.pin (b,o) (xag _ (xag _ (mem_pinsAt hb e)))).1,fun b hb=>?_,w7⟩
   obtain ⟨o,e,d⟩:=T.obj _ _ st5 b hb
   exact (I7.pin (b,o) (xag _ (xag _ (mem_pinsAt hb e)))).2.1
  cases f with
  | next=>obtain ⟨σ7,H7,I7,n7⟩:=q7; exact again I7 n7
  | cont=>obtain ⟨σ7,H7,I7,n7⟩:=q7; exact again I7 n7
  | brk=>obtain ⟨σ7,H7,I7,q7⟩:=q7; exact ⟨σ7,H7,I7.unpinned,q7⟩
  | ret v=>obtain ⟨x7,σ7,H7,I7,r7,q7⟩:=q7; exact ⟨x7,σ7,H7,I7.unpinned,r7,q7⟩
end
abbrev R2:=V->V->Hp->VK->Prop
def OpR (X:Cx) (f:Value->Value->Sem Value) (r:R2):Prop :=
 ∀ (pins:List (Addr × Obj)) (s:Shared) (σ:St) (H:Hp) (x y:V) (v u:Value) (Q:VK),Inv X pins σ H s->RelV x v->RelV y u->r x y H Q ->
  wpAny (model X.prog X.w) X.A (f v u) (EP X pins σ Q) X.xe s
def UnR (X:Cx) (f:Value->Sem Value) (r:V->Hp->VK->Prop):Prop :=
 ∀ (pins:List (Addr × Obj)) (s:Shared) (σ:St) (H:Hp) (x:V) (v:Value) (Q:VK),Inv X pins σ H s->RelV x v->r x H Q ->
  wpAny (model X.prog X.w) X.A (f v) (EP X pins σ Q) X.xe s
def CallR (X:Cx) (f:Value) (r:List V->Hp->VK->Prop):Prop :=
 ∀ (pins:List (Addr × Obj)) (s:Shared) (σ:St) (H:Hp) (xs:List V) (us:List Value) (Q:VK),Inv X pins σ H s->Vals xs us->r xs H Q ->
  wpAny (model X.prog X.w) X.A (call f us) (EP X pins σ Q) X.xe s
def TruR (X:Cx) (r:V->Hp->(Bool->Hp->Prop)->Prop):Prop :=
 ∀ (pins:List (Addr × Obj)) (s:Shared) (σ:St) (H:Hp) (x:V) (v:Value) (Q:Bool->Hp->Prop),Inv X pins σ H s->RelV x v->r x H Q ->
  wpAny (model X.prog X.w) X.A (truthy v) (TP X pins σ Q) X.xe s
def tOp (r:R2) (ta tb:TE):TE:=fun σ H Q=>ta σ H fun x H1=>tb σ H1 fun y H2=>r x y H2 Q
def tUn (r:V->Hp->VK->Prop) (ta:TE):TE:=fun σ H Q=>ta σ H fun x H1=>r x H1 Q
def rI (C:Int->Int->Prop) (g:Int->Int->V):R2:=fun x y H Q=>∃ i j,x=.int i/\y=.int j/\C i j/\Q (g i j) H
def rI0 (g:Int->Int->V):R2:=fun x y H Q=>∃ i j,x=.int i/\y=.int j/\Q (g i j) H
def rU (g:Int->V):V->Hp->VK->Prop:=fun x H Q=>∃ i,x=.int i/\Q (g i) H
section
variable {X:Cx} {a b:Expr} {ta tb:TE} {pos:Pos}
theorem binT (ha:PE X a ta) (hb:PE X b tb) {pins:List (Addr × Obj)} {s:Shared} {σ:St} {H:Hp} {R:V->V->Hp->Prop} (I:Inv X pins σ H s)
  (h:ta σ H fun x H1=>tb σ H1 fun y H2=>R x y H2) {Q:Value->Shared->Prop} {f:Value->Value->Sem Value}
  (hf:∀ v u s2 x y H2,Inv X pins σ H2 s2->RelV x v->RelV y u->R x y H2->wpAny (model X.prog X.w) X.A (f v u) Q X.xe s2) :
  wpAny (model X.prog X.w) X.A (eval a X.env) (fun v s₁=>wpAny (model X.prog X.w) X.A (eval b X.env) (fun u s₂=>wpAny (model X.prog X.w) X.A (f v u) Q X.xe s₂) X.xe s₁) X.xe s:=by
 refine thn (ha pins s σ H _ I h) fun v s1 hx5=>L2.ex2 hx5 fun x H1 I1 r1 q1=>?_
 refine thn (hb pins s1 σ H1 _ I1 q1) fun u s2 hx5=>L2.ex2 hx5 fun y H2 I2 r2 q2=>?_
 exact hf v u s2 x y H2 I2 r1 r2 q2
theorem pe_op {op:Operator} {r:R2} (ho:OpR X (binaryOp op) r) (ha:PE X a ta) (hb:PE X b tb):PE X (.BinOp a op b pos) (tOp r ta tb):=by
 intro pins s σ H Q I h
 exact wpAny_BinOp (binT ha hb I h fun v u s2 x y H2 I2 rx ry q=>ho pins s2 σ H2 x y v u Q I2 rx ry q)
theorem pe_un (ho:UnR X (unaryOp op) r) (ha:PE X a ta):PE X (.UnaryOp op a pos) (tUn r ta):=by
 intro pins s σ H Q I h
 exact UnaryOp_ (thn (ha pins s σ H _ I h) fun v s1 hx5=>L2.ex2 hx5 fun x H1 I1 r1 q1=>ho pins s1 σ H1 x v Q I1 r1 q1)
theorem opI {f:Value->Value->Sem Value} {C:Int->Int->Prop} {g:Int->Int->Int}
  (rule:∀ (i j:Int) (t u:Tok) (s:Shared) (Q:Value->Shared->Prop) (E:Value->Shared->Prop),C i j->Q (.int (g i j) s.toks) { s with toks:=s.toks+1 }->wpAny (model X.prog X.w) X.A (f (.int i t) (.int j u)) Q E s) :
  OpR X f (rI C fun i j=>.int (g i j)):=by
 intro pins s σ H x y v u Q I rx ry h
 obtain ⟨i,j,rfl,rfl,hc,q⟩:=h
 obtain ⟨t,rfl⟩:=rx
 obtain ⟨t',rfl⟩:=ry
 exact rule i j t t' s _ _ hc ⟨.int (g i j),H,I.tok _,⟨_,rfl⟩,q⟩
theorem opI0 {f:Value->Value->Sem Value} {g:Int->Int->Int}
  (rule:∀ (i j:Int) (t u:Tok) (s:Shared) (Q:Value->Shared->Prop) (E:Value->Shared->Prop),Q (.int (g i j) s.toks) { s with toks:=s.toks+1 }->wpAny (model X.prog X.w) X.A (f (.int i t) (.int j u)) Q E s) :
  OpR X f (rI0 fun i j=>.int (g i j)):=by
 intro pins s σ H x y v u Q I rx ry h
 obtain ⟨i,j,rfl,rfl,q⟩:=h
 obtain ⟨t,rfl⟩:=rx
 obtain ⟨t',rfl⟩:=ry
 exact rule i j t t' s _ _ ⟨.int (g i j),H,I.tok _,⟨_,rfl⟩,q⟩
theorem opB0 {f:Value->Value->Sem Value} {g:Int->Int->Bool}
  (rule:∀ (i j:Int) (t u:Tok) (s:Shared) (Q:Value->Shared->Prop) (E:Value->Shared->Prop),Q (.bool (g i j)) s->wpAny (model X.prog X.w) X.A (f (.int i t) (.int j u)) Q E s) :
  OpR X f (rI0 fun i j=>.bl (g i j)):=by
 intro pins s σ H x y v u Q I rx ry h
 obtain ⟨i,j,rfl,rfl,q⟩:=h
 obtain ⟨t,rfl⟩:=rx
 obtain ⟨t',rfl⟩:=ry
 exact rule i j t t' s _ _ ⟨.bl (g i j),H,I,rfl,q⟩
def CDiv (i j:Int):Prop:=0<j/\j<1073741824
def CPow (i j:Int):Prop:=0<=j/\j<=1000000/\i.natAbs<2 ^ 64
def CMul (i j:Int):Prop:=(-(2 ^ 64)<i/\i<2 ^ 64)\/(-(2 ^ 64)<j/\j<2 ^ 64)
theorem CMul.ok (h:CMul i j):IntMulOk i j:=by
 rcases h with ⟨h1,h2⟩ | ⟨h1,h2⟩
 ·exact .of_left (intBits_le_64 h1 h2)
 ·exact .of_right (intBits_le_64 h1 h2)
theorem op_add:OpR X (binaryOp .Add) (rI0 fun i j=>.int (i+j)):=opI0 fun _ _ _ _ _ _ _ q=>add_int q
theorem op_sub:OpR X (binaryOp .Sub) (rI0 fun i j=>.int (i - j)):=opI0 fun _ _ _ _ _ _ _ q=>sub_int q
theorem op_mul:OpR X (binaryOp .Mult) (rI CMul fun i j=>.int (i * j)):=opI fun _ _ _ _ _ _ _ hc q=>mul_int q hc.ok
theorem op_fdiv:OpR X (binaryOp .FloorDiv) (rI CDiv fun i j=>.int (i / j)):=opI fun i j _ _ _ _ _ hc q=>by
 have h1:(0:Int)<j:=hc.1
 have h2:j<1073741824:=hc.2
 exact floordiv_int (by lia) (by rw [Int.fdiv_eq_ediv_of_nonneg i (by exact xbd ‹_›)]; exact q) (.inl (PyProof.noPylong_small (by lia)))
theorem op_mod:OpR X (binaryOp .Mod) (rI (fun _ j=>0<j) fun i j=>.int (i % j)):=opI fun i j _ _ _ _ _ hc q=>by
 have h1:(0:Int)<j:=hc
 exact mod_int' (by lia) (by rw [Int.fmod_eq_emod_of_nonneg i (by exact xbd ‹_›)]; exact q)
theorem op_pow:OpR X (binaryOp .Pow) (rI CPow fun i j=>.int (i ^ j.toNat)):=opI fun _ _ _ _ _ _ _ hc q=>pow_int_small hc.1 hc.2.1 hc.2.2 q
theorem unI {f:Value->Sem Value} {g:Int->Int}
  (rule:∀ (i:Int) (t:Tok) (s:Shared) (Q:Value->Shared->Prop) (E:Value->Shared->Prop),Q (.int (g i) s.toks) { s with toks:=s.toks+1 }->wpAny (model X.prog X.w) X.A (f (.int i t)) Q E s) :
  UnR X f (rU fun i=>.int (g i)):=by
 intro pins s σ H x v Q I rx h
 obtain ⟨i,rfl,q⟩:=h
 obtain ⟨t,rfl⟩:=rx
 exact rule i t s _ _ ⟨.int (g i),H,I.tok _,⟨_,rfl⟩,q⟩
theorem un_neg:UnR X (unaryOp .USub) (rU fun i=>.int (-i)):=unI fun _ _ _ _ _ q=>neg_int q
end
def scal:V->V->Bool
 | .non,.non=>true | .non,.int _=>true | .int _,.non=>true | .non,.bl _=>true | .bl _,.non=>true | .non,.str _=>true | .str _,.non=>true
 | .int _,.int _=>true | .bl _,.bl _=>true | .str _,.str _=>true | .byt _,.byt _=>true
 | .int _,.str _=>true | .str _,.int _=>true | .bl _,.str _=>true | .str _,.bl _=>true
 | _,_=>false
def rEq:R2:=fun x y H Q=>scal x y=true/\Q (.bl (decide (x=y))) H
def rNe:R2:=fun x y H Q=>scal x y=true/\Q (.bl (!decide (x=y))) H
theorem dec_int:decide (V.int i=V.int j)=(i == j):=by
 rw [xa3]
 simp
theorem dec_bl:decide (V.bl i=V.bl j)=(i == j):=by
 rw [xa3]
 simp
theorem dec_str:decide (V.str i=V.str j)=(i == j):=by
 rw [xa3]
 simp
theorem dec_byt:decide (V.byt i=V.byt j)=(i.toList == j.toList):=by
 rw [xa3]
 cases i
 cases j
 simp
section
variable {X:Cx} {a b c:Expr} {ta tb tc:TE} {pos:Pos}
theorem fin_bl (I:Inv X pins σ H s) (q:Q (.bl k) H) (e:k=k'):EP X pins σ Q (.bool k') s:=by
 subst e
 exact ⟨.bl k,H,I,rfl,q⟩
theorem op_eq:OpR X (compareOp .Eq) rEq:=by
 intro pins s σ H x y v u Q I rx ry h
 obtain ⟨hs,q⟩:=h
 cases x with
 | non =>
  cases rx
  cases y with
  | non=>cases ry; exact PySem.EqNone.eq_none_none (fin_bl I q (by simp))
  | bl j=>cases ry; exact PySem.EqNone.eq_none_bool (fin_bl I q (by simp))
  | int j=>obtain ⟨t',rfl⟩:=ry; exact PySem.EqNone.eq_none_int (fin_bl I q (by simp))
  | str j=>obtain ⟨t',rfl⟩:=ry; exact PySem.EqNone.eq_none_str (fin_bl I q (by simp))
  | _=>exact absurd (show false=true from hs) xas
 | bl i =>
  cases rx
  cases y with
  | non=>cases ry; exact PySem.EqNone.eq_bool_none (fin_bl I q (by simp))
  | bl j=>cases ry; exact eq_bool (fin_bl I q dec_bl)
  | str j=>obtain ⟨t',rfl⟩:=ry; exact PySem.EqMixed.eq_bool_str (fin_bl I q (by simp))
  | _=>exact absurd (show false=true from hs) xas
 | int i =>
  obtain ⟨t,rfl⟩:=rx
  cases y with
  | non=>cases ry; exact PySem.EqNone.eq_int_none (fin_bl I q (by simp))
  | int j=>obtain ⟨t',rfl⟩:=ry; exact eq_int (fin_bl I q dec_int)
  | str j=>obtain ⟨t',rfl⟩:=ry; exact PySem.EqMixed.eq_int_str (fin_bl I q (by simp))
  | _=>exact absurd (show false=true from hs) xas
 | str i =>
  obtain ⟨t,rfl⟩:=rx
  cases y with
  | non=>cases ry; exact PySem.EqNone.eq_str_none (fin_bl I q (by simp))
  | bl j=>cases ry; exact PySem.EqMixed.eq_str_bool (fin_bl I q (by simp))
  | int j=>obtain ⟨t',rfl⟩:=ry; exact PySem.EqMixed.eq_str_int (fin_bl I q (by simp))
  | str j=>obtain ⟨t',rfl⟩:=ry; exact eq_str (fin_bl I q dec_str)
  | _=>exact absurd (show false=true from hs) xas
 | byt i =>
  obtain ⟨t,rfl⟩:=rx
  cases y with
  | byt j=>obtain ⟨t',rfl⟩:=ry; exact PySem.W.eq_bytes (fin_bl I q dec_byt)
  | _=>exact absurd (show false=true from hs) xas
 | _=>cases y <;> exact absurd (show false=true from hs) xas
theorem op_ne:OpR X (compareOp .NotEq) rNe:=by
 intro pins s σ H x y v u Q I rx ry h
 obtain ⟨hs,q⟩:=h
 cases x with
 | non =>
  cases rx
  cases y with
  | non=>cases ry; exact PySem.EqNone.ne_none_none (fin_bl I q (by simp))
  | bl j=>cases ry; exact PySem.EqNone.ne_none_bool (fin_bl I q (by simp))
  | int j=>obtain ⟨t',rfl⟩:=ry; exact PySem.EqNone.ne_none_int (fin_bl I q (by simp))
  | str j=>obtain ⟨t',rfl⟩:=ry; exact PySem.EqNone.ne_none_str (fin_bl I q (by simp))
  | _=>exact absurd (show false=true from hs) xas
 | bl i =>
  cases rx
  cases y with
  | non=>cases ry; exact PySem.EqNone.ne_bool_none (fin_bl I q (by simp))
  | bl j=>cases ry; exact ne_bool (fin_bl I q (congrArg not dec_bl))
  | str j=>obtain ⟨t',rfl⟩:=ry; exact PySem.EqMixed.ne_bool_str (fin_bl I q (by simp))
  | _=>exact absurd (show false=true from hs) xas
 | int i =>
  obtain ⟨t,rfl⟩:=rx
  cases y with
  | non=>cases ry; exact PySem.EqNone.ne_int_none (fin_bl I q (by simp))
  | int j=>obtain ⟨t',rfl⟩:=ry; exact ne_int (fin_bl I q (congrArg not dec_int))
  | str j=>obtain ⟨t',rfl⟩:=ry; exact PySem.EqMixed.ne_int_str (fin_bl I q (by simp))
  | _=>exact absurd (show false=true from hs) xas
 | str i =>
  obtain ⟨t,rfl⟩:=rx
  cases y with
  | non=>cases ry; exact PySem.EqNone.ne_str_none (fin_bl I q (by simp))
  | bl j=>cases ry; exact PySem.EqMixed.ne_str_bool (fin_bl I q (by simp))
  | int j=>obtain ⟨t',rfl⟩:=ry; exact PySem.EqMixed.ne_str_int (fin_bl I q (by simp))
  | str j=>obtain ⟨t',rfl⟩:=ry; exact ne_str (fin_bl I q (congrArg not dec_str))
  | _=>exact absurd (show false=true from hs) xas
 | byt i =>
  obtain ⟨t,rfl⟩:=rx
  cases y with
  | byt j=>obtain ⟨t',rfl⟩:=ry; exact PySem.W.ne_bytes (fin_bl I q (congrArg not dec_byt))
  | _=>exact absurd (show false=true from hs) xas
 | _=>cases y <;> exact absurd (show false=true from hs) xas
theorem op_lt:OpR X (compareOp .Lt) (rI0 fun i j=>.bl (decide (i<j))):=opB0 fun _ _ _ _ _ _ _ q=>lt_int q
theorem op_le:OpR X (compareOp .LtE) (rI0 fun i j=>.bl (decide (i<=j))):=opB0 fun _ _ _ _ _ _ _ q=>le_int q
theorem op_ge:OpR X (compareOp .GtE) (rI0 fun i j=>.bl (decide (j<=i))):=opB0 fun _ _ _ _ _ _ _ q=>ge_int q
theorem op_lt_str:OpR X (compareOp .Lt) (fun x y H Q=>∃ i j,x=.str i/\y=.str j/\Q (.bl (decide (i.cps.toList<j.cps.toList))) H):=by
 intro pins s σ H x y v u Q I rx ry h
 obtain ⟨i,j,rfl,rfl,q⟩:=h
 obtain ⟨t,rfl⟩:=rx
 obtain ⟨t',rfl⟩:=ry
 exact lt_str (fin_bl I q rfl)
theorem op_in_str:OpR X (compareOp .In) (fun x y H Q=>∃ i j,x=.str i/\y=.str j/\Q (.bl (!(Builtin.Str.occurrences j i 0 j.length 1).isEmpty)) H):=by
 intro pins s σ H x y v u Q I rx ry h
 obtain ⟨i,j,rfl,rfl,q⟩:=h
 obtain ⟨t,rfl⟩:=rx
 obtain ⟨t',rfl⟩:=ry
 exact in_str (fin_bl I q rfl)
theorem op_isN:OpR X (compareOp .Is) (fun x y H Q=>y=.non/\Q (.bl (decide (x=.non))) H):=by
 intro pins s σ H x y v u Q I rx ry h
 obtain ⟨rfl,q⟩:=h
 cases ry
 refine is_none_gen (fin_bl I q ?_)
 cases x <;> first
  | (cases rx; rfl)
  | (obtain ⟨t,rfl⟩:=rx; rfl)
theorem op_notN:OpR X (compareOp .IsNot) (fun x y H Q=>y=.non/\Q (.bl (!decide (x=.non))) H):=by
 intro pins s σ H x y v u Q I rx ry h
 obtain ⟨rfl,q⟩:=h
 cases ry
 refine isnot_none_gen (fin_bl I q ?_)
 cases x <;> first
  | (cases rx; rfl)
  | (obtain ⟨t,rfl⟩:=rx; rfl)
theorem op_notin_str:OpR X (compareOp .NotIn) (fun x y H Q=>∃ i j,x=.str i/\y=.str j/\Q (.bl (!(!(Builtin.Str.occurrences j i 0 j.length 1).isEmpty))) H):=by
 intro pins s σ H x y v u Q I rx ry h
 obtain ⟨i,j,rfl,rfl,q⟩:=h
 obtain ⟨t,rfl⟩:=rx
 obtain ⟨t',rfl⟩:=ry
 exact notIn_str (fin_bl I q rfl)
theorem OpR.or (h:OpR X f r) (h':OpR X f r'):OpR X f (fun x y H Q=>r x y H Q\/r' x y H Q):=by
 intro pins s σ H x y v u Q I rx ry q
 rcases q with q | q
 ·exact h pins s σ H x y v u Q I rx ry q
 ·exact h' pins s σ H x y v u Q I rx ry q
theorem nomark (b:Expr) (h:op≠.In:=by decide) (h2:op≠.NotIn:=by decide):behindInMarks op b=false:=by
 have e1:(op == CmpOp.In)=false:=by cases op <;> first | rfl | exact absurd rfl h
 have e2:(op == CmpOp.NotIn)=false:=by cases op <;> first | rfl | exact absurd rfl h2
 cases b <;> simp [behindInMarks,e1,e2]
theorem pe_cmpR {op:CmpOp} {r:R2} (ho:OpR X (compareOp op) r) (ha:PE X a ta) (hb:PE X b tb) (hm:behindInMarks op b=false):PE X (.Compare a [op] [b] pos) (tOp r ta tb):=by
 intro pins s σ H Q I h
 exact wpAny_Compare1 (binT ha hb I h fun v u s2 x y H2 I2 rx ry q=>ho pins s2 σ H2 x y v u Q I2 rx ry q) hm
def tTest (t:TE):TT:=fun σ H Q=>t σ H fun x H'=>∃ k,x=.bl k/\Q k H'
theorem pt_cmpR (ho:OpR X (compareOp op) r) (ha:PE X a ta) (hb:PE X b tb) (hm:behindInMarks op b=false):PT X (.Compare a [op] [b] pos) (tTest (tOp r ta tb)):=by
 intro pins s σ H Q I h
 refine wpAny_isTrue_Compare1 (thn (ha pins s σ H _ I h) fun v s1 hx5=>L2.ex2 hx5 fun x H1 I1 r1 q1=>thn (hb pins s1 σ H1 _ I1 q1) fun u s2 hx5=>L2.ex2 hx5 fun y H2 I2 r2 q2 =>
  thn (ho pins s2 σ H2 x y v u _ I2 r1 r2 q2) fun c s3 ⟨z,H3,I3,r3,k,e,q3⟩=>?_) hm
 subst e
 cases r3
 exact wpAny_truthy_bool ⟨H3,I3,q3⟩
def tChain (r r':R2) (ta tb tc:TE):TE:=fun σ H Q=>ta σ H fun x H1=>tb σ H1 fun y H2=>r x y H2 fun z H3=>∃ k,z=.bl k /\
 (if k=true then tc σ H3 fun w' H4=>r' y w' H4 Q else Q (.bl false) H3)
theorem pt_chain (ho:OpR X (compareOp op) r) (ho':OpR X (compareOp op') r') (ha:PE X a ta) (hb:PE X b tb) (hc:PE X c tc)
  (hm:lastMarks [op,op'] [b,c]=false:=by with_unfolding_all rfl):PT X (.Compare a [op,op'] [b,c] pos) (tTest (tChain r r' ta tb tc)):=by
 intro pins s σ H Q I h
 refine isTrue_chain (thn (ha pins s σ H _ I h) fun v s1 hx5=>L2.ex2 hx5 fun x H1 I1 r1 q1=>test_link (thn (hb pins s1 σ H1 _ I1 q1) fun u s2 hx5=>L2.ex2 hx5 fun y H2 I2 r2 q2 =>
  thn (ho pins s2 σ H2 x y v u _ I2 r1 r2 q2) fun d s3 ⟨z,H3,I3,r3,k,e,q3⟩=>?_)) hm
 subst e
 cases r3
 refine wpAny_truthy_bool ?_
 cases k with
 | false =>
  obtain ⟨k',e',q'⟩:=q3
  cases e'
  exact ite_ff ⟨H3,I3,q'⟩
 | true =>
  refine ite_tt (test_last (thn (hc pins s3 σ H3 _ I3 q3) fun w' s4 ⟨z',H4,I4,r4,q4⟩=>thn (ho' pins s4 σ H4 y z' u w' _ I4 r2 r4 q4) fun d' s5 hx9=>?_))
  obtain ⟨z2,H5,I5,r5,k2,e2,q5⟩:=hx9
  subst e2
  cases r5
  exact wpAny_truthy_bool ⟨H5,I5,q5⟩
theorem line63:(sizeLine:Nat)<2 ^ 63:=by rw [sizeLine_eq]; decide
theorem op_add_str:OpR X (binaryOp .Add) (fun x y H Q=>∃ i j,x=.str i/\y=.str j/\i.length+j.length<=sizeLine/\Q (.str (i++j)) H):=by
 intro pins s σ H x y v u Q I rx ry h
 obtain ⟨i,j,rfl,rfl,hz,q⟩:=h
 obtain ⟨t,rfl⟩:=rx
 obtain ⟨t',rfl⟩:=ry
 exact add_str (fun t' tk=>⟨.str (i++j),H,I.tok _,⟨_,rfl⟩,q⟩) hz
theorem vals1 (r:Vals [x] us):∃ u,us=[u]/\RelV x u:=by
 cases r with
 | cons r1 r2=>cases r2; exact ⟨_,rfl,r1⟩
theorem vals2 (r:Vals [x,y] us):∃ u w',us=[u,w']/\RelV x u/\RelV y w':=by
 cases r with
 | cons r1 r2 =>
  cases r2 with
  | cons r3 r4=>cases r4; exact ⟨_,_,rfl,r1,r3⟩
theorem call_min2 (hc:X.calm=true):CallR X (.builtin "min") (fun xs H Q=>∃ i j,xs=[.int i,.int j]/\Q (.int (if j<i then j else i)) H):=by
 intro pins s σ H xs us Q I r h
 obtain ⟨i,j,rfl,q⟩:=h
 obtain ⟨u,w',rfl,⟨t,rfl⟩,⟨t',rfl⟩⟩:=vals2 r
 refine min_two_ints (I.ok.hd hc) fun h' tk k=>⟨_,H,I.kept k,?_,q⟩
 by_cases hj:j<i
 ·rw [if_pos hj,if_pos hj]; exact ⟨_,rfl⟩
 ·rw [if_neg hj,if_neg hj]; exact ⟨_,rfl⟩
theorem call_int1:CallR X (.type "int") (fun xs H Q=>(∃ i,xs=[.int i]/\Q (.int i) H)\/∃ k,xs=[.bl k]/\Q (.int (if k then 1 else 0)) H):=by
 intro pins s σ H xs us Q I r h
 rcases h with ⟨i,rfl,q⟩ | ⟨k,rfl,q⟩
 ·obtain ⟨u,rfl,t,rfl⟩:=vals1 r
  exact call_int_int ⟨.int i,H,I,⟨_,rfl⟩,q⟩
 ·obtain ⟨u,rfl,r1⟩:=vals1 r
  cases r1
  exact call_int_bool ⟨.int (if k then 1 else 0),H,I.tok _,⟨_,rfl⟩,q⟩
def LenV (K:PySem.W.Frag) (x:V) (H:Hp) (n:Nat):Prop :=
 match x with
 | .str y=>y.length<=sizeLine/\n=y.length
 | .byt y=>y.size<=sizeLine/\n=y.size
 | .ref p=>(∃ xs,SqL K H p xs/\n=xs.length)\/∃ xs,SqT K H p xs/\n=xs.length
 | _=>False
theorem call_len:CallR X (.builtin "len") (fun xs H Q=>∃ x n,xs=[x]/\LenV X.K x H n/\Q (.int n) H):=by
 intro pins s σ H xs us Q I r h
 obtain ⟨x,n,rfl,e,q⟩:=h
 obtain ⟨u,rfl,rx⟩:=vals1 r
 have hl:=line63
 have hs:sizeLine=16777216:=sizeLine_eq
 cases x with
 | str y =>
  obtain ⟨t,rfl⟩:=rx
  obtain ⟨hy,e'⟩:y.length<=sizeLine/\n=y.length:=e
  subst e'
  exact len_str (by lia) ⟨.int _,H,I.tok _,⟨_,rfl⟩,q⟩
 | byt y =>
  obtain ⟨t,rfl⟩:=rx
  obtain ⟨hy,e'⟩:y.size<=sizeLine/\n=y.size:=e
  subst e'
  exact PySem.W.len_bytes (by walk_at "s4") ⟨.int _,H,I.tok _,⟨_,rfl⟩,q⟩
 | ref p =>
  cases rx
  have e':(∃ xs,SqL X.K H p xs/\n=xs.length)\/∃ xs,SqT X.K H p xs/\n=xs.length:=e
  rcases e' with ⟨xs,hx,e'⟩ | ⟨xs,hx,e'⟩
  ·subst e'
   obtain ⟨its,r',pl,hz⟩:=I.list hx
   have hlen:=r'.length
   exact Calls.call_len_list pl.isList (by simp only [xav]; lia) ⟨.int xs.length,H,I.tok _,⟨_,by simp only [xav]; rw [hlen]⟩,q⟩
  ·subst e'
   obtain ⟨its,r',pl,hz⟩:=I.tuple hx
   have hlen:=r'.length
   exact len_tuple pl (by simp only [xav]; lia) ⟨.int xs.length,H,I.tok _,⟨_,by simp only [xav]; rw [hlen]⟩,q⟩
 | _=>exact (show False from e).elim
end
structure ObjM (h:Heap) (x dx C:Addr) (mA:Str->Option Value):Prop where
 obj:h.get? x=some (PySem.W.instObj C dx)
 ns:h.Ns1 dx mA
 ne:dx≠x
theorem lookIn_ns {h:Heap} {dx:Addr} {mA:Str->Option Value} (n:h.Ns1 dx mA):∃ od,h.get? dx=some od/\∀ name,PySem.W.lookIn name od=some (mA name):=by
 obtain ⟨o,es,ep,ho,hd,hk,_,hm⟩:=n
 refine ⟨o,ho,fun name=>?_⟩
 have e:=hm name
 unfold nsFind findBy at e
 rw [<- Array.find?_toList] at e
 unfold PySem.W.lookIn
 rw [hd]
 dsimp only
 split
 ·rename_i y q
  rw [q] at e
  exact congrArg some e
 ·rename_i q
  rw [q] at e
  have a:es.toList.any (·.refKey)=false:=by
   rw [List.any_eq_false]
   intro y hy
   obtain ⟨z,t,hkey⟩:=hk y (Array.mem_toList_iff.mp hy)
   simp [DictEntry.refKey,hkey]
  have a':¬ es.toList.any (·.refKey)=true:=by rw [a]; exact xas
  rw [if_neg a']
  exact congrArg some e
theorem ObjM.look (I:ObjM h x dx C mA):∃ od,PySem.W.InstAt h x (PySem.W.instObj C dx) C (some od)/\∀ name,PySem.W.lookIn name od=some (mA name) :=
 let ⟨od,ho,hl⟩:=lookIn_ns I.ns
 ⟨od,⟨I.obj,rfl,rfl,ho⟩,hl⟩
theorem RelO.some_of (r:RelO (some v) o):∃ u,o=some u/\RelV v u:=by
 cases o with
 | none=>exact (show False from r).elim
 | some u=>exact ⟨u,rfl,r⟩
section
variable {P:Program} {w:World} {H:Hp} {h:Heap} {a C dx:Addr} {fs:List (Str × V)}
theorem ins_get (hok:HOk P w H h) (e:H a=some (.ins C dx fs)):∃ mA,ObjM h a dx C mA/\(∀ f,RelO (fs.lookup f) (mA f))/\PySem.Within mA (fs.map (·.1))/\fs.length<=1000/\H dx=some (.own a):=by
 obtain ⟨d,z,ne,ob,mA,n,r,q⟩:=(show ObjOk P w H h a (.ins C dx fs) from hok a _ e)
 exact ⟨mA,⟨ob,n,ne⟩,r,q,z,d⟩
end
structure Cls (K:PySem.W.Frag) (C:Addr):Prop where
 pg:PySem.W.plainGet K C Str.empty=true
 hd:PySem.W.hasDictIn K C=true
 po:PySem.W.plainOver K C=true
 sa:PySem.W.findIn K (.ref C) "__setattr__" = some (some (.builtin "object.__setattr__"))
theorem Cls.get {K:PySem.W.Frag} (c:Cls K C) (f:Str):PySem.W.plainGet K C f=true:=c.pg
structure Con (K:PySem.W.Frag) (C:Addr) (f:Str) (v:V) (u:Value):Prop where
 at_:PySem.W.findIn K (.ref C) f=some (some u)
 rel:RelV v u
 get:PySem.W.specialIn K u "__get__" = some none
 cp:PySem.W.copiedNames.contains f=false
structure Meth (K:PySem.W.Frag) (C:Addr) (m:Str) (f:Addr):Prop where
 at_:PySem.W.findIn K (.ref C) m=some (some (.ref f))
 fn:PySem.W.isFn K (.ref f)=true
 kp:PySem.W.keepIn K (.ref f)=true
section
variable {X:Cx} {pins:List (Addr × Obj)} {σ:St} {H:Hp} {s:Shared} {A:Around} {E:Value->Shared->Prop} {Q:Value->Shared->Prop} {c:Value} {b:Bool}
inductive TyOf (K:PySem.W.Frag) (H:Hp):V->Value->Prop where
 | non:TyOf K H .non (.type "NoneType")
 | bl (x:Bool):TyOf K H (.bl x) (.type "bool")
 | int (i:Int):TyOf K H (.int i) (.type "int")
 | str (x:Str):TyOf K H (.str x) (.type "str")
 | flt (x:UInt64):TyOf K H (.flt x) (.type "float")
 | lst {a:Addr} {xs:List V} (e:H a=some (.lst xs)):TyOf K H (.ref a) (.type "list")
 | frz {a:Addr} {o:Obj} {xs:List V} (e:H a=some (.frz o (.lst xs))):TyOf K H (.ref a) (.type "list")
 | tup {a:Addr} {xs:List V} (e:H a=some (.tup xs)):TyOf K H (.ref a) (.type "tuple")
 | dK {a:Addr} {kvs:List (Key × V)} (e:H a=some (.dK kvs)):TyOf K H (.ref a) (.type "dict")
 | dT {a:Addr} {kvs:List (List Key × V)} (e:H a=some (.dT kvs)):TyOf K H (.ref a) (.type "dict")
 | ins {a C dx:Addr} {fs:List (Str × V)} (e:H a=some (.ins C dx fs)) (cl:Cls K C) (ha:PySem.W.findIn K (.ref C) "__class__" = some (some (.builtin "object.__class__")))
   (hn:PySem.W.specialIn K (.builtin "object.__class__") "__get__" = some (some (.builtin "getset_descriptor.__get__"))) (htk:PySem.W.takesIn K (.builtin "object.__class__")=some true)
   (hm:PySem.W.mroIn K C (.type "object")=some true):TyOf K H (.ref a) (.ref C)
theorem isinst_ok (I:Inv X pins σ H s) (rx:RelV x u) (ty:TyOf X.K H x t) (e:PySem.W.kitOne X.K t c=some b) (h:∀ tk,Q (.bool b) { s with toks:=tk }) :
  wpAny (model X.prog X.w) A (call (.builtin "isinstance") [u,c]) Q E s:=by
 cases ty with
 | non=>cases (show u=Value.none from rx); exact PySem.W.kia_one PySem.W.kitx_none I.kIn True.intro e (fun z=>nomatch z) h
 | bl y=>cases (show u=Value.bool y from rx); exact PySem.W.kia_one PySem.W.kitx_bool I.kIn True.intro e (fun z=>nomatch z) h
 | int i=>obtain ⟨t,q⟩:=(show ∃ t,u=Value.int i t from rx); cases q; exact PySem.W.kia_one PySem.W.kitx_int I.kIn True.intro e (fun z=>nomatch z) h
 | str y=>obtain ⟨t,q⟩:=(show ∃ t,u=Value.str y t from rx); cases q; exact PySem.W.kia_one PySem.W.kitx_str I.kIn True.intro e (fun z=>nomatch z) h
 | flt y=>obtain ⟨t,q⟩:=(show ∃ t,u=Value.float y t from rx); cases q; exact PySem.W.kia_one PySem.W.kitx_float I.kIn True.intro e (fun z=>nomatch z) h
 | @lst a xs ea =>
  cases (show u=Value.ref a from rx)
  obtain ⟨_,_,n,_,h1⟩:=(show ObjOk X.prog X.w H s.heap a (.lst xs) from I.hok a _ ea)
  exact PySem.W.kia_one PySem.W.kitx_list I.kIn ⟨_,h1,rfl⟩ e (fun z=>nomatch z) h
 | @frz a ob xs ea =>
  cases (show u=Value.ref a from rx)
  obtain ⟨_,_,_,n,_,h1⟩:=(show ObjOk X.prog X.w H s.heap a (.frz ob (.lst xs)) from I.hok a _ ea)
  exact PySem.W.kia_one PySem.W.kitx_list I.kIn ⟨_,h1,rfl⟩ e (fun z=>nomatch z) h
 | @tup a xs ea =>
  cases (show u=Value.ref a from rx)
  obtain ⟨_,_,_,p⟩:=(show ObjOk X.prog X.w H s.heap a (.tup xs) from I.hok a _ ea)
  obtain ⟨o,h1,h2,_⟩:=p
  exact PySem.W.kia_one PySem.W.kitx_tuple I.kIn ⟨o,h1,h2⟩ e (fun z=>nomatch z) h
 | @dK a kvs ea =>
  cases (show u=Value.ref a from rx)
  obtain ⟨_,_,vs,_,p⟩:=(show ObjOk X.prog X.w H s.heap a (.dK kvs) from I.hok a _ ea)
  obtain ⟨o,es,ep,h1,h2,_⟩:=p
  exact PySem.W.kia_one PySem.W.kitx_dict I.kIn ⟨o,h1,h2.1⟩ e (fun z=>nomatch z) h
 | @dT a kvs ea =>
  cases (show u=Value.ref a from rx)
  obtain ⟨_,_,xs,_,o,es,ep,h1,h2,_⟩:=(show ObjOk X.prog X.w H s.heap a (.dT kvs) from I.hok a _ ea)
  exact PySem.W.kia_one PySem.W.kitx_dict I.kIn ⟨o,h1,h2.1⟩ e (fun z=>nomatch z) h
 | @ins a C dx fs ea cl ha hn htk hm =>
  cases (show u=Value.ref a from rx)
  obtain ⟨mA,O,_⟩:=ins_get I.hok ea
  obtain ⟨od,J,_⟩:=O.look
  exact PySem.W.kia_one (PySem.W.kitx_own (cl.get _) cl.hd ha hn htk hm) I.kIn J e (fun z=>nomatch z) h
end
structure Room (k:Nat) (A:Around):Prop where
 hd:A.handled=none
 dp:A.depth+3 * k+5<recursionLimit
 un:A.units+16 * k+200<cLine
theorem Room.mono (r:Room k A) (h:j<=k):Room j A:=⟨r.hd,by have:=r.dp; lia,by have:=r.un; lia⟩
theorem Room.deeper (r:Room (k+1) A) (env:Env):Room k (A.deeper env) :=
 ⟨r.hd,by have:=r.dp; show A.depth+1+3 * k+5<_; lia,by have:=r.un; show A.units+3+16 * k+200<_; lia⟩
theorem Room.in1 (r:Room (k+1) A):Room k A.in1 :=
 ⟨r.hd,by have:=r.dp; show A.depth+3 * k+5<_; lia,by have:=r.un; show A.units+1+16 * k+200<_; lia⟩
theorem Room.depth (r:Room k A):A.depth<recursionLimit:=by have:=r.dp; lia
theorem Room.units (r:Room k A):A.units+64<cLine:=by have:=r.un; lia
def tNil:TA:=fun _ H Q=>Q [] H
def tCons (ta:TE) (tr:TA):TA:=fun σ H Q=>ta σ H fun x H1=>tr σ H1 fun xs H2=>Q (x :: xs) H2
section
variable {X:Cx} {e:Expr} {es:List Expr} {te:TE} {t:TA} {pos:Pos}
theorem pa_nil:PA X [] tNil:=fun _ _ _ _ H Q I h=>Calls.spliced_nil ⟨[],H,I,.nil,h⟩
theorem pa_cons (ha:PE X e te) (hr:PA X es t) (hs:starEach (e :: es) X.env=(false,eval e X.env) :: starEach es X.env:=by rfl):PA X (e :: es) (tCons te t):=by
 intro pos pins s σ H Q I h
 rw [hs]
 show wpAny _ _ (spliced ((false,eval e X.env) :: backTo pos (starEach es X.env))) _ _ s
 refine Calls.spliced_cons (thn (ha pins s σ H _ I h) fun u s1 hx5=>L2.ex2 hx5 fun x H1 I1 r1 q1=>?_)
 exact thn (hr pos pins s1 σ H1 _ I1 q1) fun us s2 hx5=>L2.ex2 hx5 fun xs H2 I2 r2 q2=>⟨x :: xs,H2,I2,.cons r1 r2,q2⟩
def tTup (t:TA):TE:=fun σ H Q=>t σ H fun xs H1=>xs.length<=sizeLine/\∀ p,H1 p=none->Q (.ref p) (upd H1 p (.tup xs))
def tLst (t:TA):TE:=fun σ H Q=>t σ H fun xs H1=>xs.length<=sizeLine/\∀ p,H1 p=none->Q (.ref p) (upd H1 p (.lst xs))
theorem pe_tup {x1} (h:PA X es t):PE X (.Tuple es x1 pos) (tTup t):=by
 intro pins s σ H Q I hq
 refine wpAny_Tuple_spliced (thn (h pos pins s σ H _ I hq) fun us s1 ⟨xs,H1,I1,r,z,q⟩=>⟨by rw [<- r.length]; exact z,?_⟩)
 have hf:H1 s1.heap.objs.size=none:=I1.hok.fresh (xah _)
 refine ⟨.ref s1.heap.objs.size,upd H1 s1.heap.objs.size (.tup xs),I1.laid (t':=s1.toks) (fun b u e=>xau _ e) (xah _) ?_,rfl,q _ hf⟩
 exact ⟨z,us,r,⟨_,xaI _ rfl,rfl,_,rfl⟩⟩
theorem pe_lst (h:PA X es t):PE X (.List es pos) (tLst t):=by
 intro pins s σ H Q I hq
 refine wpAny_List_spliced (thn (h pos pins s σ H _ I hq) fun us s1 ⟨xs,H1,I1,r,z,q⟩=>⟨by rw [<- r.length]; exact z,?_⟩)
 have hf:H1 s1.heap.objs.size=none:=I1.hok.fresh (xah _)
 refine ⟨.ref s1.heap.objs.size,upd H1 s1.heap.objs.size (.lst xs),I1.laid (t':=s1.toks) (fun b u e=>xau _ e) (xah _) ?_,rfl,q _ hf⟩
 exact ⟨z,us,0,r,xaI _ rfl⟩
end
abbrev Sp:=List V->Hp->VK->XK->Prop
abbrev CXT:=List Env->Hp->Shared->XK->Value->Shared->Prop
structure Env0 (P:Program) (w:World) (K:PySem.W.Frag) (mg:Str->Option Value) (base:Heap) (A:Around) (outer:List Env) (s:Shared) (H:Hp):Prop where
 frames:A.frames=some outer
 mod:Mod K mg base
 bs:∀ b o,base.get? b=some o->s.heap.get? b=some o/\H b=none
 bsz:base.objs.size<=s.heap.objs.size
 funs:s.heap.FunFrames base outer
 frf:∀ b∈frs outer,H b=none
 hok:HOk P w H s.heap
 bare:AllBare s.gens
def CE (outer:List Env) (P:Program) (w:World) (H:Hp) (s:Shared) (Q:VK) (u:Value) (s':Shared):Prop :=
 ∃ v H',s'.os=s.os/\AllBare s'.gens/\Un (frs outer) [] H H' s.heap s'.heap/\HOk P w H' s'.heap/\RelV v u/\Q v H'
def CR (CX:CXT) (outer:List Env) (P:Program) (w:World) (H:Hp) (s:Shared) (Q:VK) (E:XK) (r:Result) (s':Shared):Prop :=
 match r with
 | .ok (.ret u)=>CE outer P w H s Q u s'
 | .ok _=>False
 | .error e=>CX outer H s E e s'
structure FnOk (P:Program) (w:World) (K:PySem.W.Frag) (mg:Str->Option Value) (base:Heap) (CX:CXT) (k:Nat) (f:Addr) (fd:FuncData) (ps:List Str) (sp:Sp):Prop where
 len:∀ vs H Q E,sp vs H Q E->vs.length=ps.length
 run:∀ (A:Around) (outer:List Env) (s:Shared) (H:Hp) (args:Args) (us:List Value) (vs:List V) (Q:VK) (E:XK),Room k A->Env0 P w K mg base A outer s H->BindsTo s fd args (ps.zip us)->Vals vs us->sp vs H Q E ->
  codeAny (model P w) A (.call (.ref f) args) (CR CX outer P w H s Q E) s
theorem FnOk.mono {P:Program} {K:PySem.W.Frag} {ps:List Str} (F:FnOk P w K mg base CX j f fd ps sp) (h:j<=k) :
  FnOk P w K mg base CX k f fd ps sp:=⟨F.len,fun A outer s H args us vs Q E hr=>F.run A outer s H args us vs Q E (hr.mono h)⟩
theorem FnOk.imp {P:Program} {K:PySem.W.Frag} {ps:List Str} (F:FnOk P w K mg base CX k f fd ps sp)
  (h:∀ vs H Q E,sp' vs H Q E->sp vs H Q E):FnOk P w K mg base CX k f fd ps sp' :=
 ⟨fun vs H Q E q=>F.len vs H Q E (h _ _ _ _ q),fun A outer s H args us vs Q E hr he hb hv hs=>F.run A outer s H args us vs Q E hr he hb hv (h _ _ _ _ hs)⟩
theorem Env0.in1 {P:Program} {K:PySem.W.Frag} (e:Env0 P w K mg base A outer s H) :
  Env0 P w K mg base A.in1 outer s H:=⟨e.frames,e.mod,e.bs,e.bsz,e.funs,e.frf,e.hok,e.bare⟩
section
variable {X:Cx} {pins:List (Addr × Obj)} {σ:St} {H:Hp} {s s':Shared}
theorem Inv.env0 (I:Inv X pins σ H s):Env0 X.prog X.w X.K X.mg X.base X.A X.stack s H :=
 ⟨I.ok.frames,I.ok.mod,I.bs,xaz I.ok.bsz I.sz,I.stack,I.stkFree,I.hok,I.bare⟩
theorem Inv.after (I:Inv X pins σ H s) (h:CE X.stack X.prog X.w H s Q u s'):EP X pins σ Q u s':=by
 obtain ⟨v,H',os,bare,un,hok,r,q⟩:=h
 obtain ⟨hh,g,d,t,os'⟩:=s'
 obtain rfl:os'=s.os:=os
 exact ⟨v,H',I.call (h':=hh) (g':=g) (d':=d) (t':=t) (ch:=[]) un hok bare (fun b z=>absurd z (by simp)),r,q⟩
end
def tCall (sp:Sp) (dvs:List V) (E:XK) (t:TA):TE:=fun σ H Q=>t σ H fun vs H1=>sp (vs++dvs) H1 Q E
def Binds (K:PySem.W.Frag) (fd:FuncData) (ps:List Str) (ds:List Value):Prop :=
 ∀ (s:Shared) (us:List Value),K.In s.heap->(us++ds).length=ps.length->BindsTo s fd ⟨us,[]⟩ (ps.zip (us++ds))
theorem Binds.all {K:PySem.W.Frag} {ps:List Str} (h:∀ us:List Value,us.length=ps.length->bindArgs fd ⟨us,[]⟩=pure (ps.zip us)):Binds K fd ps []:=fun s us _ hl=>by
 rw [xaE] at hl ⊢
 exact .of_eq (h us hl)
def Passes (CX:CXT) (X:Cx) (E:XK):Prop:=∀ (pins:List (Addr × Obj)) (σ:St) (H:Hp) (s:Shared) (e:Value) (s':Shared),Inv X pins σ H s->CX X.stack H s E e s'->X.xe e s'
section
variable {X:Cx} {CX:CXT} {k:Nat} {f C:Addr} {fd:FuncData} {ps:List Str} {sp:Sp} {dvs:List V} {ds:List Value} {E:XK} {x:Str} {p pos:Pos} {e:Expr} {es:List Expr} {t:TA}
theorem run_fn (F:FnOk X.prog X.w X.K X.mg X.base CX k f fd ps sp) (hr:Room k X.A) (hb:Binds X.K fd ps ds) (hd:Vals dvs ds) (hx:Passes CX X E)
  (I:Inv X pins σ H s) (r:Vals vs us) (h:sp (vs++dvs) H Q E):wpAny (model X.prog X.w) X.A (call (.ref f) us) (EP X pins σ Q) X.xe s:=by
 have r2:Vals (vs++dvs) (us++ds):=r.append hd
 have hl:(us++ds).length=ps.length:=by rw [<- r2.length]; exact F.len _ _ _ _ h
 refine wpAny_call (codeAny_mono (F.run X.A X.stack s H ⟨us,[]⟩ (us++ds) (vs++dvs) Q E hr I.env0 (hb s us I.kIn hl) r2 h) fun r s' hq=>?_)
 cases r with
 | error e=>exact hx pins σ H s e s' I hq
 | ok fl =>
  cases fl with
  | ret u=>exact I.after hq
  | next=>exact False.elim hq
  | brk=>exact False.elim hq
  | cont=>exact False.elim hq
theorem pe_call (F:FnOk X.prog X.w X.K X.mg X.base CX k f fd ps sp) (hr:Room k X.A) (hg:Gl X x) (hm:X.mg x=some (.ref f)) (hk:PySem.W.keepIn X.K (.ref f)=true) (hb:Binds X.K fd ps ds) (hd:Vals dvs ds) (hx:Passes CX X E)
  (ha:PA X (e :: es) t) (hdb:(x == ("__debug__" : Str))=false:=by decide) (he:starEach (e :: es) X.env=(false,eval e X.env) :: starEach es X.env:=by rfl) (hpl:(backTo pos (starEach es X.env)).any (·.1)=false:=by rfl) :
  PE X (.Call (.Name x p) (e :: es) [] pos) (tCall sp dvs E t):=by
 intro pins s σ H Q I h
 refine wpAny_Call_Name_kw (ld_glob I hg hm ?_ hdb)
 refine PySem.W.callWith_K (h₀:=X.base) I.ok.mod.kin hk (thn (ha pos pins s σ H _ I h) fun us s1 hx5=>L2.ex2 hx5 fun vs H1 I1 r q=>⟨I1.kIn,?_⟩) he hpl
 exact run_fn F hr hb hd hx I1 r q
structure Mk (K:PySem.W.Frag) (C f:Addr):Prop where
 makes:PySem.W.makesIn K C=true
 init:PySem.W.findIn K (.ref C) "__init__" = some (some (.ref f))
 fn:PySem.W.isFn K (.ref f)=true
 kp:PySem.W.keepIn K (.ref C)=true
end
section
variable {fd:FuncData} {ps ks:List Str}
structure KBinds (K:PySem.W.Frag) (fd:FuncData) (ps ks:List Str) (g:List Value->List Value->List Value) (gV:List V->List V->List V):Prop where
 to:∀ (s:Shared) (us ws:List Value),K.In s.heap->(g us ws).length=ps.length->BindsTo s fd ⟨us,ks.zip ws⟩ (ps.zip (g us ws))
 rel:∀ {vs:List V} {us:List Value} {zs:List V} {ws:List Value},Vals vs us->Vals zs ws->Vals (gV vs zs) (g us ws)
end
structure FnScope (N P:List Str) (sc:Scope):Prop where
 kind:sc.kind=.function
 co:sc.isCoroutine=false
 gen:sc.isGenerator=false
 nd:N.Nodup
 pre:N.take P.length=P
 par:∀ x∈P,sc.names.lookup x=some .local\/sc.names.lookup x=some .cell
 nofree:∀ y∈sc.names,y.2≠.free
theorem bindL_out {kindOf:Str->Option NameKind}:∀ {binds:List (Str × Value)} {m:Str->Option Value},(∀ v,(x,v)∉binds)->bindL kindOf binds m x=m x
 | [],_,_=>rfl
 | (n,v) :: r,m,h=>by
  unfold bindL
  rw [bindL_out fun w hw=>h w (xab _ hw)]
  split
  ·have:x≠n:=by rintro rfl; exact h v xac
   simp [this]
  ·rfl
theorem bindC_out {kindOf:Str->Option NameKind}:∀ {binds:List (Str × Value)} {m:Str->Option Value},(∀ v,(x,v)∉binds)->bindC kindOf binds m x=m x
 | [],_,_=>rfl
 | (n,v) :: r,m,h=>by
  unfold bindC
  rw [bindC_out fun w hw=>h w (xab _ hw)]
  split
  ·rfl
  ·have:x≠n:=by rintro rfl; exact h v xac
   simp [this]
theorem bindL_get {kindOf:Str->Option NameKind}:∀ {P:List Str} {vs:List Value} {i:Nat} {m:Str->Option Value},P.Nodup->P[i]? = some x->vs[i]? = some v->kindOf x=some .local ->
  bindL kindOf (P.zip vs) m x=some v
 | [],_,_,_,_,h,_,_=>by simp at h
 | _ :: _,[],_,_,_,_,h,_=>by simp at h
 | p :: P,w :: vs,0,m,nd,h1,h2,hk=>by
  simp at h1 h2; subst h1; subst h2
  show bindL kindOf ((p,w) :: P.zip vs) m p=_
  unfold bindL
  rw [bindL_out fun v hv=>(xax.mp nd).1 (List.of_mem_zip hv).1,if_pos hk]
  simp
 | p :: P,w :: vs,i+1,m,nd,h1,h2,hk=>by
  show bindL kindOf ((p,w) :: P.zip vs) m x=_
  unfold bindL
  exact bindL_get (i:=i) (xax.mp nd).2 (by simpa using h1) (by simpa using h2) hk
theorem bindC_get {kindOf:Str->Option NameKind}:∀ {P:List Str} {vs:List Value} {i:Nat} {m:Str->Option Value},P.Nodup->P[i]? = some x->vs[i]? = some v->kindOf x≠some .local ->
  bindC kindOf (P.zip vs) m x=some v
 | [],_,_,_,_,h,_,_=>by simp at h
 | _ :: _,[],_,_,_,_,h,_=>by simp at h
 | p :: P,w :: vs,0,m,nd,h1,h2,hk=>by
  simp at h1 h2; subst h1; subst h2
  show bindC kindOf ((p,w) :: P.zip vs) m p=_
  unfold bindC
  rw [bindC_out fun v hv=>(xax.mp nd).1 (List.of_mem_zip hv).1,if_neg hk]
  simp
 | p :: P,w :: vs,i+1,m,nd,h1,h2,hk=>by
  show bindC kindOf ((p,w) :: P.zip vs) m x=_
  unfold bindC
  exact bindC_get (i:=i) (xax.mp nd).2 (by simpa using h1) (by simpa using h2) hk
def start (N:List Str) (vs:List V):St:=vs.map some++List.replicate (N.length - vs.length) none
def cxOf (CX:CXT) (P:Program) (w:World) (K:PySem.W.Frag) (mg:Str->Option Value) (base:Heap) (N:List Str) (qual:Str) (scope:Scope) (f:Addr) (cd:Value) (A:Around) (outer:List Env) (s:Shared) (H:Hp) (E:XK):Cx where
 prog:=P
 w:=w
 K:=K
 mg:=mg
 base:=base
 A:=A.deeper (envOfC qual scope s.heap.objs.size f cd)
 N:=N
 s₀:=s
 H₀:=H
 env:=envOfC qual scope s.heap.objs.size f cd
 outer:=outer
 stack:=envOfC qual scope s.heap.objs.size f cd :: outer
 ex:=[]
 calm:=true
 fn:=fun _=>true
 pn:=[]
 xe:=fun e s'=>wpAny (model P w) (A.deeper (envOfC qual scope s.heap.objs.size f cd)) (leaving (envOfC qual scope s.heap.objs.size f cd) e) (fun _ s''=>CX outer H s E e s'') (fun e' s''=>CX outer H s E e' s'') s'
theorem cell_has {sc:Scope} {n:Nat} {x:Str} (h:sc.names.lookup x=some .cell):∃ c,(cellsFrom n sc.names []).lookup x=some c:=by
 have q:=PySem.W.cellsFrom_some sc.names n [] (.inl h)
 exact xbN.mp q
theorem inv_start {CX:CXT} {P:Program} {w:World} {K:PySem.W.Frag} {mg:Str->Option Value} {base:Heap} {N ps:List Str} {qual:Str} {scope:Scope} {f:Addr} {cd:Value} {A:Around} {outer:List Env} {s s1:Shared} {H:Hp} {E:XK} {us:List Value} {vs:List V}
  (S:FnScope N ps scope) (hd:A.handled=none) (e0:Env0 P w K mg base A outer s H) (hl:vs.length=ps.length) (r:Vals vs us)
  (x:InCallC s s.heap.objs.size (bindL (envOfC qual scope s.heap.objs.size f cd).kindOf (ps.zip us) fun _=>none) (cellsFrom (s.heap.objs.size+1) scope.names []) (bindC (envOfC qual scope s.heap.objs.size f cd).kindOf (ps.zip us) fun _=>none) s1) :
  Inv (cxOf CX P w K mg base N qual scope f cd A outer s H E) [] (start N vs) H s1:=by
 have hpl:ps.length<=N.length:=by have:=congrArg List.length S.pre; rw [xaC] at this; lia
 obtain ⟨h1,tk,rfl,hk⟩:=x.done
 have noA:∀ b:Addr,b∉(cxOf CX P w K mg base N qual scope f cd A outer s H E).ex:=fun b z=>absurd (show b∈([]:List Addr) from z) (by simp)
 refine ⟨⟨e0.mod,S.kind,rfl,rfl,xah _,fun y z c h1 h2=>?_,fun y hy=>?_,fun y c _ h=>?_,fun _=>hd,Around.frames_deeper e0.frames,.inr ⟨rfl,rfl⟩,fun b z=>absurd z (noA b),e0.bs,e0.bsz,fun b _ _=>noA b,fun b z=>absurd z (noA b),e0.funs,e0.frf⟩,
  rfl,e0.bare,Un.kept hk,⟨_,x.toInCall.ns,fun i y v h1 h2 h3=>?_⟩,fun y c h=>⟨_,x.cell y c h⟩,e0.hok.fresh (xah _),fun y c h=>?_,fun p hp=>absurd (show p∈([]:List (Addr × Obj)) from hp) (by simp),e0.hok.kept hk,?_⟩
 ·exact name_of_addr x.apart (PySem.mem_of_lookup h1) (PySem.mem_of_lookup h2)
 ·have hy:scope.names.lookup y=some .cell\/scope.names.lookup y=some .free:=hy
  rcases hy with hy | hy
  ·exact cell_has hy
  ·exact absurd rfl (S.nofree _ (PySem.mem_of_lookup hy))
 ·exact xaT (x.above y c (PySem.mem_of_lookup h))
 ·have hi:i<vs.length:=by
   unfold start at h2
   by_cases hi:i<vs.length
   ·exact hi
   ·rw [xaU (by simpa using hi)] at h2
    rw [xbP] at h2
    split at h2 <;> cases h2
  have ha:vs[i]? = some v:=by
   unfold start at h2
   rw [xbo (by simpa using hi),xaN] at h2
   cases e:vs[i]? with
   | none=>rw [e] at h2; cases h2
   | some a=>rw [e] at h2; cases h2; rfl
  obtain ⟨u,hu,rv⟩:=r.get ha
  have hp:ps[i]? = some y:=by
   rw [<- S.pre,List.getElem?_take_of_lt (by lia)]; exact h1
  have ndP:ps.Nodup:=by rw [<- S.pre]; exact S.nd.sublist (List.take_sublist _ _)
  refine ⟨u,rv,?_⟩
  rcases S.par y (xaL hp) with k | k
  ·exact .inl ⟨k,bindL_get ndP hp hu k⟩
  ·obtain ⟨c,e⟩:=cell_has (n:=s.heap.objs.size+1) k
   refine .inr ⟨.inl k,c,e,?_⟩
   have q:=x.cell y c e
   rw [bindC_get ndP hp hu (by show scope.names.lookup y≠_; rw [k]; decide)] at q
   exact q
 ·exact e0.hok.fresh (xaT (x.above y c (PySem.mem_of_lookup h)))
 ·unfold start
  show _=N.length
  rw [xam,xad,xbV]
  lia
theorem fn_of {P:Program} {K:PySem.W.Frag} {dV kV doc pm cdv ct oc:Value}
  {N ps:List Str} (lk:K.lookup f=some ⟨oc,od,.func (PySem.W.fnOf name qual params body scope dV kV doc pm an cdv ct),osl⟩) (hcd:PySem.W.codeIn K cdv qual=true) (S:FnScope N ps scope)
  (len:∀ vs H Q E,sp vs H Q E->vs.length=ps.length)
  (hbody:∀ (A:Around) (outer:List Env) (s:Shared) (H:Hp) (vs:List V) (Q:VK) (E:XK),Room k (A.deeper (envOfC qual scope s.heap.objs.size f cdv))->sp vs H Q E ->
   ∃ t,PSs (cxOf CX P w K mg base N qual scope f cdv A outer s H E) body t/\t { nx:=fun _ H'=>Q .non H',rt:=Q } (start N vs) H) :
  FnOk P w K mg base CX (k+1) f (PySem.W.fnOf name qual params body scope dV kV doc pm an cdv ct) ps sp:=by
 refine ⟨len,fun A outer s H args us vs Q E hr e0 hb r hsp=>?_⟩
 have hl:=len _ _ _ _ hsp
 have KX:K.In s.heap:=e0.mod.kin.keeps fun b o e=>(e0.bs b o e).1
 have lim:s.heap.NoLimit:=e0.mod.nolimit.keeps fun b o e=>(e0.bs b o e).1
 have hkind:∀ y∈ps.zip us,scope.names.lookup y.1=some .local\/(scope.names.lookup y.1=some .cell/\((cellsFrom (s.heap.objs.size+1) scope.names []).lookup y.1).isSome=true):=fun ⟨n,v⟩ hy=>by
  rcases S.par n (List.of_mem_zip hy).1 with q | q
  ·exact .inl q
  ·exact .inr ⟨q,PySem.W.cellsFrom_some _ _ _ (.inl q)⟩
 refine codeAny_call_function hr.depth (KX _ _ lk) rfl S.co S.gen rfl (PySem.W.codeRec_of KX hcd) (hb _ _ _ _ ?_)
 refine wpAny_newFunctionEnv_cells S.kind hkind fun env he s1 x=>?_
 subst he
 refine ⟨lim.keeps x.toInCall.keep,codeAny_func ?_⟩
 obtain ⟨t,ht,hq⟩:=hbody A outer s H vs Q E (hr.deeper _) hsp
 have I:Inv (cxOf CX P w K mg base N qual scope f cdv A outer s H E) [] (start N vs) H s1:=inv_start S hr.hd e0 hl r x
 refine xaM (ht [] s1 (start N vs) H _ I hq) (fun fl s' hs=>?_) fun e s' hs=>hs
 have fin:∀ {σ':St} {H':Hp} {v:V} {u:Value},Inv (cxOf CX P w K mg base N qual scope f cdv A outer s H E) [] σ' H' s'->RelV v u->Q v H'->CE outer P w H s Q u s' :=
  fun {σ' H' v u} J rv q=>⟨v,H',J.os,J.bare,J.base,J.hok,rv,q⟩
 cases fl with
 | ret u =>
  obtain ⟨v,σ',H',J,rv,q⟩:=hs
  exact fin J rv q
 | next =>
  obtain ⟨σ',H',J,q⟩:=hs
  exact fin (v:=V.non) (u:=Value.none) J rfl q
 | brk =>
  obtain ⟨_,_,_,q⟩:=hs
  exact False.elim q
 | cont =>
  obtain ⟨_,_,_,q⟩:=hs
  exact False.elim q
section
variable {X:Cx} {x:Str} {p pos:Pos} {e:Expr} {es:List Expr} {t:TA} {id T:String} {r:List V->Hp->VK->Prop}
def tCB (r:List V->Hp->VK->Prop) (t:TA):TE:=fun σ H Q=>t σ H fun vs H1=>r vs H1 Q
theorem pe_callB (hc:CallR X (.builtin id) r) (hg:Gl X x) (hm:X.mg x=none) (hv:bootBuiltins x=some (.builtin id)) (ha:PA X (e :: es) t) (hn:x ≠ "__name__" := by decide) (hdb:(x == ("__debug__" : Str))=false:=by decide)
  (he:starEach (e :: es) X.env=(false,eval e X.env) :: starEach es X.env:=by rfl) (hpl:(backTo pos (starEach es X.env)).any (·.1)=false:=by rfl):PE X (.Call (.Name x p) (e :: es) [] pos) (tCB r t):=by
 intro pins s σ H Q I h
 refine wpAny_Call_Name_kw (ld_blt I hg hm hv ?_ hn hdb)
 exact PyProof.Rows.callWith_builtin1 (thn (ha pos pins s σ H _ I h) fun us s1 hx5=>L2.ex2 hx5 fun vs H1 I1 r1 q1=>hc pins s1 σ H1 vs us Q I1 r1 q1) he hpl
theorem pe_callTy (hc:CallR X (.type T) r) (hg:Gl X x) (hm:X.mg x=none) (hv:bootBuiltins x=some (.type T)) (ha:PA X (e :: es) t) (hn:x ≠ "__name__" := by decide) (hdb:(x == ("__debug__" : Str))=false:=by decide)
  (he:starEach (e :: es) X.env=(false,eval e X.env) :: starEach es X.env:=by rfl) (hpl:(backTo pos (starEach es X.env)).any (·.1)=false:=by rfl):PE X (.Call (.Name x p) (e :: es) [] pos) (tCB r t):=by
 intro pins s σ H Q I h
 refine wpAny_Call_Name_kw (ld_blt I hg hm hv ?_ hn hdb)
 exact PyProof.Rows.callWith_type1 (thn (ha pos pins s σ H _ I h) fun us s1 hx5=>L2.ex2 hx5 fun vs H1 I1 r1 q1=>hc pins s1 σ H1 vs us Q I1 r1 q1) he hpl
end
end L2
namespace HT
open PySem PyProof.Rows
section
open PySem.SeqAt
open PySem.AutoSeq1 (wpAny_loadPart')
open PySem.MeetsSeq PySem.MeetsSeq2 PySem.MeetsSeq3
end
section
variable {prog:Program} {w:World} {A:Around} {E:Value->Shared->Prop} {s:Shared}
theorem cat_tup (ht:IsTup s.heap t vs.toArray) (hb:IsTup s.heap b ws.toArray) (hv:vs≠[])
  (h1:ws=[]->Q (.ref t) s) (h2:ws≠[]->Q (.ref s.heap.objs.size) { s with heap:=s.heap.push { cls:=.type "tuple",data:=.seq (vs++ws).toArray } })
  (hsz:vs.length+ws.length<=sizeLine):wpAny (model prog w) A (binaryOp .Add (.ref t) (.ref b)) Q E s:=by
 obtain ⟨⟨cls,dd,data,sl⟩,ho,hc,n,hd⟩:=id ht
 obtain ⟨⟨cls2,dd2,data2,sl2⟩,ho2,hc2,n2,hd2⟩:=id hb
 simp only at hc hd hc2 hd2
 subst hc hd hc2 hd2
 have e:vs.toArray++ws.toArray=(vs++ws).toArray:=by simp
 by_cases hw:ws=[]
 ·exact concat_meets ⟨_,ho,rfl⟩ ⟨_,ho2,rfl⟩ noFill_tuple_add seq_tuple_add PySem.F.slot_tuple_add PySem.F.entry_tuple_add (PySem.F.args_tuple_add_2 _ _)
   (tuple_addW1 t b vs.toArray ws.toArray n n2 dd dd2 sl sl2 (by simpa using hv) (by simp [hw])) ⟨ho,ho2,h1 hw⟩
 ·refine concat_meets ⟨_,ho,rfl⟩ ⟨_,ho2,rfl⟩ noFill_tuple_add seq_tuple_add PySem.F.slot_tuple_add PySem.F.entry_tuple_add (PySem.F.args_tuple_add_2 _ _)
   (tuple_addW2 t b vs.toArray ws.toArray n n2 dd dd2 sl sl2 (by simpa using hv) (by simpa using hw) (by rw [xav,xav]; exact hsz)) ⟨ho,ho2,?_⟩
  rw [e]
  exact h2 hw
def sIx (n d:Nat):Option Int->Nat
 | none=>d
 | some v=>if v<0 then (v+(n:Int)).toNat else min v.toNat n
theorem sIx_le (n d:Nat) (hd:d<=n) (o:Option Int):sIx n d o<=n:=by
 cases o with
 | none=>exact hd
 | some v =>
  show (if v<0 then (v+(n:Int)).toNat else min v.toNat n)<=n
  by_cases hv:v<0
  ·rw [if_pos hv]; lia
  ·rw [if_neg hv]; exact Nat.min_le_right _ _
theorem clip_eq (v:Int) (n d:Nat):(if v<0 then max (v+(n:Int)) 0 else min v (n:Int))=((sIx n d (some v):Nat):Int):=by
 show (if v<0 then max (v+(n:Int)) 0 else min v (n:Int))=(((if v<0 then (v+(n:Int)).toNat else min v.toNat n):Nat):Int)
 by_cases hv:v<0
 ·simp only [if_pos hv]; lia
 ·simp only [if_neg hv]; lia
theorem adjust_gen (lo hi:Option Int) (n:Nat):Builtin.Slice.sliceAdjust lo hi 1 (n:Int)=(((sIx n 0 lo:Nat):Int),((sIx n n hi:Nat):Int)):=by
 have h1:¬ ((1:Int)<0):=by decide
 unfold Builtin.Slice.sliceAdjust
 simp only [h1,if_false]
 refine Prod.ext ?_ ?_
 ·cases lo with
  | none=>rfl
  | some v=>exact clip_eq v n 0
 ·cases hi with
  | none=>rfl
  | some v=>exact clip_eq v n n
theorem places_gen (i j:Nat):Builtin.Slice.slicePlaces (i:Int) (j:Int) 1=j - i:=by
 unfold Builtin.Slice.slicePlaces
 have h1:(1:Int)>0:=by exact xa6 _
 simp only [h1,if_true,Int.ediv_one]
 split <;> lia
theorem slicePart_ (p:IsPart v o) (h:Q o s):wpAny (model prog w) A (Builtin.Slice.slicePartIndex v) Q E s:=by
 cases p with
 | none=>exact slicePart_none h
 | int i t=>exact slicePart_int h
theorem sliceApplied_gen {sl:Addr} {vl vu:Value} {lo hi:Option Int} {n:Nat} {Q:Int × Int × Nat->Shared->Prop} (hs:s.heap.IsSliceOf sl vl vu .none) (pl:IsPart vl lo) (pu:IsPart vu hi)
  (h:Q (((sIx n 0 lo:Nat):Int),1,sIx n n hi - sIx n 0 lo) s):wpAny (model prog w) A (Builtin.Slice.sliceApplied (.ref sl) (pure (n:Int))) Q E s:=by
 obtain ⟨os,hos,hcs,hds⟩:=id hs
 unfold Builtin.Slice.sliceApplied Builtin.Slice.sliceFields
 refine xaa (xaa (wpAny_field hos hds (x:=vl) rfl (xaa (wpAny_field hos hds (x:=vu) rfl (xaa (wpAny_field hos hds (x:=.none) rfl (xae ?_)))))))
 refine xaa (slicePart_none ?_)
 show wpAny _ _ (if ((1:Int) == 0)=true then _ else _) _ _ s
 rw [if_neg (by decide)]
 refine xaa (slicePart_ pl (xaa (slicePart_ pu (xaa (xae ?_)))))
 show wpAny _ _ (match Builtin.Slice.sliceAdjust lo hi 1 (n:Int) with | (lo,hi)=>pure (lo,(1:Int),Builtin.Slice.slicePlaces lo hi 1)) _ _ s
 rw [adjust_gen lo hi n]
 show wpAny _ _ (pure (((sIx n 0 lo:Nat):Int),(1:Int),Builtin.Slice.slicePlaces ((sIx n 0 lo:Nat):Int) ((sIx n n hi:Nat):Int) 1)) _ _ s
 rw [places_gen]
 exact xae h
theorem pick_gen (xs:Array Value) (i k:Nat):((List.range k).filterMap fun (m:Nat)=>xs[((i:Int)+(m:Int) * 1).toNat]?).toArray=((xs.toList.drop i).take k).toArray:=by
 have e:(fun (m:Nat)=>xs[((i:Int)+(m:Int) * 1).toNat]?)=fun m=>xs[i+m]? := by
  funext m
  have:((i:Int)+(m:Int) * 1).toNat=i+m:=by exact (xbK ..).symm
  rw [this]
 rw [e]
 have:=pick_run xs i k
 rw [List.filterMap_map] at this
 have e2:((fun x=>xs[x]?) ∘ fun x=>i+x)=fun m=>xs[i+m]? := rfl
 rw [e2] at this
 rw [this]
theorem getItem_tuple_cut {lo hi:Option Int} (ht:IsTup s.heap t items) (hs:s.heap.IsSliceOf sl vl vu .none) (pl:IsPart vl lo) (pu:IsPart vu hi)
  (hw:¬ (sIx items.size 0 lo=0/\sIx items.size items.size hi=items.size))
  (h:Q (.ref s.heap.objs.size) { s with heap:=s.heap.push { cls:=.type "tuple",data:=.seq ((items.toList.drop (sIx items.size 0 lo)).take (sIx items.size items.size hi - sIx items.size 0 lo)).toArray } })
  (hsz:items.size<=sizeLine):wpAny (model prog w) A (getItem (.ref t) (.ref sl)) Q E s:=by
 have htake:sizeOk (.seq ((items.toList.drop (sIx items.size 0 lo)).take (sIx items.size items.size hi - sIx items.size 0 lo)).toArray):=by
  show ((items.toList.drop (sIx items.size 0 lo)).take (sIx items.size items.size hi - sIx items.size 0 lo)).toArray.size<=sizeLine
  rw [xav,xaC,xa8,xaY]
  lia
 have hj:sIx items.size items.size hi<=items.size:=sIx_le _ _ (xah _) hi
 obtain ⟨os,hos,hcs,hds⟩:=id hs
 have hTs:s.TypeIs (.ref sl) "slice" := ⟨os,hos,hcs⟩
 unfold getItem
 try with_reducible refine wpAny_holding ?_
 first | refine xaa (xae ?_) | skip
 refine xaa (wpAny_sequenceKey ht.typeIs (by decide) ?_)
 refine xaa (wpAny_callSpecial?_slot (name:=Str.ofString "__getitem__") ht.typeIs PyProof.Rows.slot_tuple_getitem
  (wpAny_call_entry PyProof.Rows.slot_tuple_getitem ht.typeIs entry_tuple_getitem ?_ (args_tuple_getitem _ _)))
 show wpAny _ _ (Builtin.Tuple.tupleItemsOf (.ref t) >>= _) _ _ s
 refine xaa (tupleItemsOf_ ht ?_)
 refine xaa (wpAny_typeOf hTs ?_)
 rw [if_pos (by decide)]
 refine xaa (sliceApplied_gen hs pl pu ?_)
 have hno:¬ ((((sIx items.size 0 lo:Nat):Int) == 0 && (1:Int) == 1 && (sIx items.size items.size hi - sIx items.size 0 lo) == items.size)=true):=by
  intro q
  rw [xay,xay] at q
  have q1:((sIx items.size 0 lo:Nat):Int)=0:=eq_of_beq q.1.1
  have q2:sIx items.size items.size hi - sIx items.size 0 lo=items.size:=eq_of_beq q.2
  exact hw ⟨by lia,by lia⟩
 show wpAny _ _ (if (((sIx items.size 0 lo:Nat):Int) == 0 && (1:Int) == 1 && (sIx items.size items.size hi - sIx items.size 0 lo) == items.size)=true then _ else _) _ _ s
 rw [if_neg hno,pick_gen]
 first
  | exact xaa (m:=Builtin.Tuple.tupleExact _) (wpAny_newObj_type (xae ⟨_,rfl,xae h⟩) htake)
  | exact xaa (m:=Builtin.Tuple.tupleExact _) (wpAny_newObj_type (xaa (xae (xae ⟨_,rfl,xae h⟩))) htake)
  | exact xaa (xaa (m:=Builtin.Tuple.tupleExact _) (wpAny_newObj_type (xae (xae ⟨_,rfl,xae h⟩)) htake))
  | exact xaa (xaa (m:=Builtin.Tuple.tupleExact _) (wpAny_newObj_type (xae ⟨_,rfl,xae h⟩) htake))
end
end HT
namespace L2
open PySem PySem.Spec PyProof.Rows
abbrev TO:=St->Hp->(Option Int->Hp->Prop)->Prop
def PO (X:Cx) (e:Option Expr) (t:TO):Prop :=
 ∀ (pins:List (Addr × Obj)) (s:Shared) (σ:St) (H:Hp) (Q:Option Int->Hp->Prop),Inv X pins σ H s->t σ H Q ->
  wpAny (model X.prog X.w) X.A (evalPart e X.env) (fun u s'=>∃ o H',Inv X pins σ H' s'/\IsPart u o/\Q o H') X.xe s
def tNoPart:TO:=fun _ H Q=>Q none H
def tPart (t:TE):TO:=fun σ H Q=>t σ H fun x H1=>∃ i,x=.int i/\Q (some i) H1
section
variable {X:Cx} {e:Expr} {te:TE} {lo hi:Option Expr} {tl th:TO} {pos p2:Pos}
theorem po_none:PO X none tNoPart:=by
 intro pins s σ H Q I h
 rw [evalPart_none]
 exact xae ⟨none,H,I,.none,h⟩
theorem po_some (h:PE X e te):PO X (some e) (tPart te):=by
 intro pins s σ H Q I hw
 rw [evalPart_some]
 refine thn (h pins s σ H _ I hw) fun u s1 hx5=>L2.ex2 hx5 fun x H1 I1 r1 q1=>?_
 obtain ⟨i,rfl,q⟩:=q1
 obtain ⟨t,rfl⟩:=r1
 exact ⟨some i,H1,I1,.int i t,q⟩
def SlR (X:Cx) (r:V->Option Int->Option Int->Hp->VK->Prop):Prop :=
 ∀ (pins:List (Addr × Obj)) (s:Shared) (σ:St) (H:Hp) (x:V) (v vl vu:Value) (lo hi:Option Int) (sl:Addr) (Q:VK),Inv X pins σ H s->RelV x v->s.heap.IsSliceOf sl vl vu .none->IsPart vl lo->IsPart vu hi->r x lo hi H Q ->
  ∃ T id,typeLookup (.type T) "__getitem__" = pure (some (.builtin id))/\s.TypeIs v T/\wpAny (model X.prog X.w) X.A (getItem v (.ref sl)) (EP X pins σ Q) X.xe s
theorem SlR.or (h:SlR X r) (h':SlR X r'):SlR X (fun x lo hi H Q=>r x lo hi H Q\/r' x lo hi H Q):=by
 intro pins s σ H x v vl vu lo hi sl Q I rx hs pl pu q
 rcases q with q | q
 ·exact h pins s σ H x v vl vu lo hi sl Q I rx hs pl pu q
 ·exact h' pins s σ H x v vl vu lo hi sl Q I rx hs pl pu q
def tSl (r:V->Option Int->Option Int->Hp->VK->Prop) (te:TE) (tl th:TO):TE:=fun σ H Q=>te σ H fun x H1=>tl σ H1 fun l H2=>th σ H2 fun u H3=>r x l u H3 Q
theorem pe_slice (hr:SlR X r) (he:PE X e te) (hl:PO X lo tl) (hu:PO X hi th):PE X (.Subscript e (.Slice lo hi none p2) pos) (tSl r te tl th):=by
 intro pins s σ H Q I h
 refine Subscript_ (thn (he pins s σ H _ I h) fun v s1 hx5=>L2.ex2 hx5 fun x H1 I1 r1 q1=>?_)
 refine wpAny_Slice (thn (hl pins s1 σ H1 _ I1 q1) fun vl s2 hx5=>L2.ex2 hx5 fun l H2 I2 pl q2=>thn (hu pins s2 σ H2 _ I2 q2) fun vu s3 hx5=>L2.ex2 hx5 fun u H3 I3 pu q3=>?_)
 rw [evalPart_none]
 refine xae ?_
 have I4:Inv X pins σ H3 { s3 with heap:=s3.heap.push { cls:=.type "slice",data:=.fields #[vl,vu,.none] } }:=I3.kept (t':=s3.toks) fun b ob q=>xau _ q
 obtain ⟨T,id,hT,ht,hg⟩:=hr pins { s3 with heap:=s3.heap.push { cls:=.type "slice",data:=.fields #[vl,vu,.none] } } σ H3 x v vl vu l u s3.heap.objs.size Q I4 r1 (Heap.IsSliceOf.new ..) pl pu q3
 show wpAny (model X.prog X.w) X.A (subscriptTail e (.Slice lo hi none p2) v (.ref s3.heap.objs.size)) (EP X pins σ Q) X.xe { s3 with heap:=s3.heap.push { cls:=.type "slice",data:=.fields #[vl,vu,.none] } }
 exact tail_any (ops:=[.ref s3.heap.objs.size,v]) ht hT hg (by with_unfolding_all rfl)
def cutV (xs:List V) (lo hi:Option Int):List V:=(xs.drop (HT.sIx xs.length 0 lo)).take (HT.sIx xs.length xs.length hi - HT.sIx xs.length 0 lo)
theorem cutV_length (xs:List V) (lo hi:Option Int):(cutV xs lo hi).length<=xs.length:=by
 unfold cutV
 rw [xaC,xa8]
 lia
def rSlT (K:PySem.W.Frag):V->Option Int->Option Int->Hp->VK->Prop:=fun x lo hi H Q=>∃ a xs,x=.ref a/\SqT K H a xs /\
 ¬ (HT.sIx xs.length 0 lo=0/\HT.sIx xs.length xs.length hi=xs.length)/\∀ p,H p=none->Q (.ref p) (upd H p (.tup (cutV xs lo hi)))
theorem sl_tup:SlR X (rSlT X.K):=by
 intro pins s σ H x v vl vu lo hi sl Q I rx hs pl pu h
 obtain ⟨a,xs,rfl,hx,hw,q⟩:=h
 cases rx
 obtain ⟨its,r,ht,hz⟩:=I.tuple hx
 have hlen:its.toArray.size=xs.length:=by rw [xav]; exact r.length.symm
 refine ⟨"tuple",_,PyProof.Rows.slot_tuple_getitem.lookup,ht.typeIs,?_⟩
 refine HT.getItem_tuple_cut ht hs pl pu (by rw [hlen]; exact hw) ?_ (by rw [hlen]; exact hz)
 rw [hlen]
 refine ⟨.ref s.heap.objs.size,_,I.laid (t':=s.toks) (o:=.tup (cutV xs lo hi)) (fun b ob q=>xau _ q) (xah _) ?_,rfl,q _ (I.hok.fresh (xah _))⟩
 exact ⟨xaz (cutV_length xs lo hi) hz,_,(r.drop (HT.sIx xs.length 0 lo)).take (HT.sIx xs.length xs.length hi - HT.sIx xs.length 0 lo),IsTup.new _ _⟩
def rCatT (K:PySem.W.Frag):R2:=fun x y H Q=>∃ a b xs ys,x=.ref a/\y=.ref b/\SqT K H a xs/\SqT K H b ys/\xs≠[]/\xs.length+ys.length<=sizeLine /\
 (ys=[]->Q (.ref a) H)/\(ys≠[]->∀ p,H p=none->Q (.ref p) (upd H p (.tup (xs++ys))))
theorem Vals.nil_iff (r:Vals xs us):us=[]↔xs=[]:=by
 cases r with
 | nil=>simp
 | cons _ _=>simp
theorem op_catT:OpR X (binaryOp .Add) (rCatT X.K):=by
 intro pins s σ H x y v u Q I rx ry h
 obtain ⟨a,b,xs,ys,rfl,rfl,ha,hb,hx,hz,q1,q2⟩:=h
 cases rx
 cases ry
 obtain ⟨its,r1,p1,_⟩:=I.tuple ha
 obtain ⟨its2,r2,p2,_⟩:=I.tuple hb
 refine HT.cat_tup p1 p2 (fun z=>hx (r1.nil_iff.mp z)) (fun z=>⟨.ref a,H,I,rfl,q1 (r2.nil_iff.mp z)⟩) (fun z=>?_) (by rw [<- r1.length,<- r2.length]; exact hz)
 refine ⟨.ref s.heap.objs.size,_,I.laid (t':=s.toks) (o:=.tup (xs++ys)) (fun b ob q=>xau _ q) (xah _) ?_,rfl,q2 (fun w=>z (r2.nil_iff.mpr w)) _ (I.hok.fresh (xah _))⟩
 exact ⟨by rw [xam]; exact hz,_,r1.append r2,IsTup.new _ _⟩
end
def ixN (n:Nat) (i:Int):Option Nat:=if 0<=i then (if i<n then some i.toNat else none) else if -(n:Int)<=i then some (i+n).toNat else none
def atI {α:Type} (xs:List α) (i:Int):Option α:=(ixN xs.length i).bind fun j=>xs[j]?
theorem ixN_seq (h:ixN n i=some j):seqIndex? i n=some j/\j<n/\-(n:Int)<=i/\i<n:=by
 unfold ixN at h
 by_cases h0:0<=i
 ·rw [if_pos h0] at h
  by_cases h1:i<n
  ·rw [if_pos h1] at h
   have e:i.toNat=j:=Option.some.inj h
   exact ⟨by rw [seqIndex_of h0 h1,e],by lia,by lia,h1⟩
  ·rw [if_neg h1] at h; cases h
 ·rw [if_neg h0] at h
  by_cases h1:-(n:Int)<=i
  ·rw [if_pos h1] at h
   have e:(i+n).toNat=j:=Option.some.inj h
   exact ⟨by rw [seqIndex_neg (by lia) h1,e],by lia,h1,by lia⟩
  ·rw [if_neg h1] at h; cases h
theorem atI_get {α:Type} {xs:List α} {i:Int} {v:α} (h:atI xs i=some v):∃ j,seqIndex? i xs.length=some j/\xs[j]? = some v/\j<xs.length/\-(xs.length:Int)<=i/\i<xs.length:=by
 unfold atI at h
 cases e:ixN xs.length i with
 | none=>rw [e] at h; cases h
 | some j =>
  rw [e] at h
  obtain ⟨h1,h2,h3,h4⟩:=ixN_seq e
  exact ⟨j,h1,h,h2,h3,h4⟩
theorem atI_nat {α:Type} {xs:List α} {j:Nat} {v:α} (h:xs[j]? = some v):atI xs (j:Int)=some v:=by
 have hj:j<xs.length:=(xaw.mp h).1
 have e:ixN xs.length (j:Int)=some j:=by
  unfold ixN
  rw [if_pos (by walk_at "s1"),if_pos (by lia)]; simp
 unfold atI; rw [e]; exact h
def PlainIx (b:Expr):Prop:=∀ o i,subscripted b false o i=operate [o,i] (getItem o i)
def IxR (X:Cx) (r:R2):Prop :=
 ∀ (value slice:Expr) (pins:List (Addr × Obj)) (s:Shared) (σ:St) (H:Hp) (x y:V) (v u:Value) (Q:VK),Inv X pins σ H s->RelV x v->RelV y u->r x y H Q ->
  subscripted slice false v u=operate [v,u] (getItem v u)->wpAny (model X.prog X.w) X.A (subscriptTail value slice v u) (EP X pins σ Q) X.xe s
def MtR (X:Cx) (id:String) (r:V->List V->Hp->VK->Prop):Prop :=
 ∀ (pins:List (Addr × Obj)) (s:Shared) (σ:St) (H:Hp) (x:V) (xs:List V) (v:Value) (us:List Value) (Q:VK),Inv X pins σ H s->RelV x v->Vals xs us->r x xs H Q ->
  wpAny (model X.prog X.w) X.A (call (.builtin id) (v :: us)) (EP X pins σ Q) X.xe s
section
variable {X:Cx} {a b:Expr} {ta tb:TE} {pos:Pos}
theorem IxR.or (h:IxR X r) (h':IxR X r'):IxR X (fun x y H Q=>r x y H Q\/r' x y H Q):=by
 intro value slice pins s σ H x y v u Q I rx ry q hs
 rcases q with q | q
 ·exact h value slice pins s σ H x y v u Q I rx ry q hs
 ·exact h' value slice pins s σ H x y v u Q I rx ry q hs
theorem MtR.or {id:String} (h:MtR X id r) (h':MtR X id r'):MtR X id (fun x xs H Q=>r x xs H Q\/r' x xs H Q):=by
 intro pins s σ H x xs v us Q I rx rs q
 rcases q with q | q
 ·exact h pins s σ H x xs v us Q I rx rs q
 ·exact h' pins s σ H x xs v us Q I rx rs q
theorem pe_ix {r:R2} (hr:IxR X r) (ha:PE X a ta) (hb:PE X b tb) (hs:PlainIx b):PE X (.Subscript a b pos) (tOp r ta tb):=by
 intro pins s σ H Q I h
 exact Subscript_ (binT ha hb I h fun v u s2 x y H2 I2 rx ry q=>hr a b pins s2 σ H2 x y v u Q I2 rx ry q (hs _ _))
def rIxL (K:PySem.W.Frag):R2:=fun x y H Q=>∃ p xs i v,x=.ref p/\y=.int i/\SqL K H p xs/\atI xs i=some v/\Q v H
def rIxT (K:PySem.W.Frag):R2:=fun x y H Q=>∃ p xs i v,x=.ref p/\y=.int i/\SqT K H p xs/\atI xs i=some v/\Q v H
def rIxS:R2:=fun x y H Q=>∃ z i c,x=.str z/\y=.int i/\z.length<=sizeLine/\atI z.cps.toList i=some c/\Q (.str ⟨#[c]⟩) H
theorem ix_list:IxR X (rIxL X.K):=by
 intro value slice pins s σ H x y v u Q I rx ry h hs
 obtain ⟨p,xs,i,z,rfl,rfl,hq,he,q⟩:=h
 cases rx
 obtain ⟨t,rfl⟩:=ry
 obtain ⟨its,r,pl,hz⟩:=I.list hq
 obtain ⟨j,h1,h2,h3,h4,h5⟩:=atI_get he
 obtain ⟨w,ew,rw'⟩:=r.get h2
 have hl:=r.length
 have hn:=line63
 have fin:EP X pins σ Q w s:=⟨z,H,I,rw',q⟩
 by_cases h0:0<=i
 ·have hj:i.toNat=j:=by
   rw [seqIndex_of h0 h5] at h1
   exact Option.some.inj h1
  exact item_listR pl.isList h0 (by lia) (by rw [hj]; simpa using ew) fin hs
 ·have hj:(i+(its.toArray.size:Int)).toNat=j:=by
   rw [seqIndex_neg (by exact Int.not_le.mp ‹_›) h4] at h1
   rw [xav,<- hl]
   exact Option.some.inj h1
  exact subscriptTail_builtinR (x:=w) pl.isList.typeIs slot_list_getitem.lookup
   (wpAny_getItem_list_neg (Q:=fun r s'=>r=w/\EP X pins σ Q r s') pl.isList (by exact Int.not_le.mp ‹_›) (by rw [xav] <;> lia) (by lia) (by rw [hj]; simpa using ew) ⟨rfl,fin⟩) hs
theorem ix_tup:IxR X (rIxT X.K):=by
 intro value slice pins s σ H x y v u Q I rx ry h hs
 obtain ⟨p,xs,i,z,rfl,rfl,hq,he,q⟩:=h
 cases rx
 obtain ⟨t,rfl⟩:=ry
 obtain ⟨its,r,pl,hz⟩:=I.tuple hq
 obtain ⟨j,h1,h2,h3,h4,h5⟩:=atI_get he
 obtain ⟨w,ew,rw'⟩:=r.get h2
 have hl:=r.length
 have hn:=line63
 have fin:EP X pins σ Q w s:=⟨z,H,I,rw',q⟩
 exact subscriptTail_builtinR (x:=w) pl.typeIs slot_tuple_getitem.lookup
  (getItem_tuple (j:=j) (Q:=fun r s'=>r=w/\EP X pins σ Q r s') pl (by lia) (by lia) (by rw [xav,<- hl]; exact h1) (by simpa using ew) ⟨rfl,fin⟩) hs
theorem ix_str:IxR X rIxS:=by
 intro value slice pins s σ H x y v u Q I rx ry h hs
 obtain ⟨z,i,c,rfl,rfl,hz,he,q⟩:=h
 obtain ⟨t,rfl⟩:=rx
 obtain ⟨t',rfl⟩:=ry
 obtain ⟨j,h1,h2,h3,h4,h5⟩:=atI_get he
 have hl:z.cps.toList.length=z.length:=by simp [Str.length]
 rw [hl] at h1 h4 h5
 have hn:=line63
 exact tail_any (typeIs_str s z t) slot_str_getitem.lookup (getItem_str (c:=c) (by
  have e1:decide (i < -(2 ^ 63:Int))=false:=decide_eq_false (by lia)
  have e2:decide (i >= 2 ^ 63)=false:=decide_eq_false (by lia)
  rw [e1,e2,Bool.or_false]) (by rw [h1]; simpa using h2) ⟨.str ⟨#[c]⟩,H,I.tok _,⟨_,rfl⟩,q⟩) hs
def rIx (K:PySem.W.Frag):R2:=fun x y H Q=>rIxL K x y H Q\/rIxT K x y H Q\/rIxS x y H Q
theorem ix_seq:IxR X (rIx X.K):=ix_list.or (ix_tup.or ix_str)
theorem Inv.lst (I:Inv X pins σ H s) (h:H p=some (.lst xs)) :
  ∃ (its:List Value) (n:Nat),Vals xs its/\s.heap.get? p=some { cls:=.type "list",data:=.seq its.toArray n }/\xs.length<=sizeLine:=by
 obtain ⟨z,its,n,r,e⟩:=I.hok p _ h
 exact ⟨its,n,r,e,z⟩
theorem slice_bounds (lo hi:Option Int) (n:Nat):(sliceBounds lo hi none n).1=((HT.sIx n 0 lo:Nat):Int)/\(sliceBounds lo hi none n).2.1=((HT.sIx n n hi:Nat):Int)/\(sliceBounds lo hi none n).2.2=1:=by
 refine ⟨?_,?_,rfl⟩
 ·cases lo with
  | none=>simp [sliceBounds,HT.sIx]
  | some i =>
   simp only [sliceBounds,HT.sIx,Option.getD_none,show (1:Int)>0 by decide,if_true]
   by_cases h:i<0
   ·simp only [h,if_true] <;> lia
   ·simp only [h,if_false] <;> lia
 ·cases hi with
  | none=>simp [sliceBounds,HT.sIx]
  | some i =>
   simp only [sliceBounds,HT.sIx,Option.getD_none,show (1:Int)>0 by decide,if_true]
   by_cases h:i<0
   ·simp only [h,if_true] <;> lia
   ·simp only [h,if_false] <;> lia
theorem slicePick_cut (its:List Value) (lo hi:Option Int):slicePick its.toArray lo hi none=((its.drop (HT.sIx its.length 0 lo)).take (HT.sIx its.length its.length hi - HT.sIx its.length 0 lo)).toArray:=by
 obtain ⟨h1,h2,h3⟩:=slice_bounds lo hi its.toArray.size
 unfold slicePick
 rw [h1,h2,h3]
 simp only [sliceRange_one,pick_run,xav] <;> rfl
def rSlL (K:PySem.W.Frag):V->Option Int->Option Int->Hp->VK->Prop:=fun x lo hi H Q=>∃ a xs,x=.ref a/\SqL K H a xs/\∀ p,H p=none->Q (.ref p) (upd H p (.lst (cutV xs lo hi)))
theorem sl_list:SlR X (rSlL X.K):=by
 intro pins s σ H x v vl vu lo hi sl Q I rx hs pl pu h
 obtain ⟨a,xs,rfl,hx,q⟩:=h
 cases rx
 obtain ⟨its,r,ht,hz⟩:=I.list hx
 have hlen:=r.length
 refine ⟨"list",_,slot_list_getitem.lookup,ht.isList.typeIs,?_⟩
 refine wpAny_getItem_list_slice ht.isList hs pl pu .none (by simp) ?_ (by rw [xav] <;> lia)
 rw [slicePick_cut,<- hlen]
 refine ⟨.ref s.heap.objs.size,_,I.laid (t':=s.toks) (o:=.lst (cutV xs lo hi)) (fun b ob q=>xau _ q) (xah _) ?_,rfl,q _ (I.hok.fresh (xah _))⟩
 exact ⟨xaz (cutV_length xs lo hi) hz,_,0,(r.drop (HT.sIx xs.length 0 lo)).take (HT.sIx xs.length xs.length hi - HT.sIx xs.length 0 lo),xaI _ rfl⟩
def flatV:V->Bool
 | .non=>true
 | .bl _=>true
 | .int _=>true
 | .str _=>true
 | _=>false
def eqV:V->V->Bool
 | .non,.non=>true
 | .bl a,.bl b=>a == b
 | .bl a,.int b=>(if a then 1 else 0) == b
 | .int a,.bl b=>a == (if b then 1 else 0)
 | .int a,.int b=>a == b
 | .str a,.str b=>a == b
 | _,_=>false
theorem eqAt_V (ry:RelV y u) (rx:RelV x v) (fy:flatV y=true) (fx:flatV x=true):SeqAt.EqAt A s u v (eqV y x):=by
 cases y with
 | non =>
  cases ry
  cases x with
  | non=>cases rx; exact SeqAt.EqAt.same _
  | bl b=>cases rx; exact SeqAt.EqAt.none_bool b
  | int b=>obtain ⟨t,rfl⟩:=rx; exact SeqAt.EqAt.none_int b t
  | str b=>obtain ⟨t,rfl⟩:=rx; exact SeqAt.EqAt.none_str b t
  | _=>exact absurd (show false=true from fx) xas
 | bl a =>
  cases ry
  cases x with
  | non=>cases rx; exact SeqAt.EqAt.bool_none a
  | bl b=>cases rx; exact SeqAt.EqAt.bool_bool a b
  | int b=>obtain ⟨t,rfl⟩:=rx; exact SeqAt.EqAt.bool_int a b t
  | str b=>obtain ⟨t,rfl⟩:=rx; exact SeqAt.EqAt.bool_str a b t
  | _=>exact absurd (show false=true from fx) xas
 | int a =>
  obtain ⟨t',rfl⟩:=ry
  cases x with
  | non=>cases rx; exact SeqAt.EqAt.int_none a t'
  | bl b=>cases rx; exact SeqAt.EqAt.int_bool a t' b
  | int b=>obtain ⟨t,rfl⟩:=rx; exact SeqAt.EqAt.int_int a t' b t
  | str b=>obtain ⟨t,rfl⟩:=rx; exact SeqAt.EqAt.int_str a t' b t
  | _=>exact absurd (show false=true from fx) xas
 | str a =>
  obtain ⟨t',rfl⟩:=ry
  cases x with
  | non=>cases rx; exact SeqAt.EqAt.str_none a t'
  | bl b=>cases rx; exact SeqAt.EqAt.str_bool a t' b
  | int b=>obtain ⟨t,rfl⟩:=rx; exact SeqAt.EqAt.str_int a t' b t
  | str b=>obtain ⟨t,rfl⟩:=rx; exact SeqAt.EqAt.str_str a t' b t
  | _=>exact absurd (show false=true from fx) xas
 | _=>exact absurd (show false=true from fy) xas
def eqU (x:V) (u:Value):Bool:=match u with
 | .none=>eqV .non x
 | .bool b=>eqV (.bl b) x
 | .int i _=>eqV (.int i) x
 | .str z _=>eqV (.str z) x
 | _=>false
theorem eqU_of (r:RelV y u) (f:flatV y=true):eqU x u=eqV y x:=by
 cases y with
 | non=>cases r; rfl
 | bl b=>cases r; rfl
 | int i=>obtain ⟨t,rfl⟩:=r; rfl
 | str z=>obtain ⟨t,rfl⟩:=r; rfl
 | _=>exact absurd (show false=true from f) xas
theorem any_eqU:∀ {xs:List V} {us:List Value},Vals xs us->xs.all flatV=true->us.any (eqU x)=xs.any fun y=>eqV y x
 | _,_,.nil,_=>rfl
 | y :: xs,u :: us,.cons r t,f=>by
  rw [xbp,xay] at f
  rw [xbq,xbq,eqU_of r f.1,any_eqU t f.2]
theorem mem_eqAt (rx:RelV x v) (fx:flatV x=true):∀ {xs:List V} {us:List Value},Vals xs us->xs.all flatV=true->∀ u∈us,SeqAt.EqAt A s u v (eqU x u)
 | _,_,.nil,_=>fun u hu=>by cases hu
 | y :: xs,u :: us,.cons r t,f=>fun u' hu=>by
  rw [xbp,xay] at f
  rcases xak.mp hu with rfl | hu
  ·rw [eqU_of r f.1]; exact eqAt_V r rx f.1 fx
  ·exact mem_eqAt rx fx t f.2 u' hu
def inV (x:V) (xs:List V):Bool:=xs.any fun y=>eqV y x
def rIn (K:PySem.W.Frag) (neg:Bool):R2:=fun x y H Q=>∃ p xs,y=.ref p/\(SqL K H p xs\/SqT K H p xs)/\flatV x=true/\xs.all flatV=true/\Q (.bl (if neg then !inV x xs else inV x xs)) H
theorem op_in_seq:OpR X (compareOp .In) (rIn X.K false):=by
 intro pins s σ H x y v u Q I rx ry h
 obtain ⟨p,xs,rfl,hq,fx,fs,q⟩:=h
 cases ry
 rcases hq with hq | hq
 ·obtain ⟨its,r,pl,hz⟩:=I.list hq
  refine SeqAt.in_listAt (eqU x) pl.isList (fun w hw=>mem_eqAt rx fx r fs w (by simpa using hw)) ⟨.bl _,H,I,rfl,?_⟩
  rw [show its.toArray.any (eqU x)=its.any (eqU x) by simp,any_eqU r fs]
  exact q
 ·obtain ⟨its,r,pl,hz⟩:=I.tuple hq
  refine SeqAt.in_tupleAt (eqU x) pl (fun w hw=>mem_eqAt rx fx r fs w (by simpa using hw)) ⟨.bl _,H,I,rfl,?_⟩
  rw [show its.toArray.any (eqU x)=its.any (eqU x) by simp,any_eqU r fs]
  exact q
theorem op_notIn_seq:OpR X (compareOp .NotIn) (rIn X.K true):=by
 intro pins s σ H x y v u Q I rx ry h
 obtain ⟨p,xs,rfl,hq,fx,fs,q⟩:=h
 cases ry
 rcases hq with hq | hq
 ·obtain ⟨its,r,pl,hz⟩:=I.list hq
  refine SeqAt.notIn_listAt (eqU x) pl.isList (fun w hw=>mem_eqAt rx fx r fs w (by simpa using hw)) ⟨.bl _,H,I,rfl,?_⟩
  rw [show its.toArray.any (eqU x)=its.any (eqU x) by simp,any_eqU r fs]
  exact q
 ·obtain ⟨its,r,pl,hz⟩:=I.tuple hq
  refine SeqAt.notIn_tupleAt (eqU x) pl (fun w hw=>mem_eqAt rx fx r fs w (by simpa using hw)) ⟨.bl _,H,I,rfl,?_⟩
  rw [show its.toArray.any (eqU x)=its.any (eqU x) by simp,any_eqU r fs]
  exact q
theorem CallR.or (h:CallR X f r) (h':CallR X f r'):CallR X f (fun xs H Q=>r xs H Q\/r' xs H Q):=by
 intro pins s σ H xs us Q I rs q
 rcases q with q | q
 ·exact h pins s σ H xs us Q I rs q
 ·exact h' pins s σ H xs us Q I rs q
theorem call_list_of:CallR X (.type "list") (fun xs H Q=>∃ p ys,xs=[.ref p]/\(SqL X.K H p ys\/SqT X.K H p ys)/\∀ l,H l=none->Q (.ref l) (upd H l (.lst ys))):=by
 intro pins s σ H xs us Q I r h
 obtain ⟨p,ys,rfl,hq,q⟩:=h
 obtain ⟨u,rfl,rx⟩:=vals1 r
 cases rx
 have fin:∀ (its:List Value),Vals ys its->ys.length<=sizeLine->∀ (h':Heap) (c':Nat),(∀ b o',s.heap.get? b=some o'->h'.get? b=some o') ->
   h'.get? s.heap.objs.size=some { cls:=.type "list",dict:=none,data:=.seq its.toArray c',slots:=#[] }->EP X pins σ Q (.ref s.heap.objs.size) { s with heap:=h' }:=fun its r' hz h' c' kp e =>
  ⟨.ref s.heap.objs.size,_,I.laid (t':=s.toks) kp (xah _) (show ObjOk X.prog X.w _ h' _ (.lst ys) from ⟨hz,its,c',r',e⟩),rfl,q _ (I.hok.fresh (xah _))⟩
 rcases hq with hq | hq
 ·obtain ⟨its,r',pl,hz⟩:=I.list hq
  have hlen:=r'.length
  obtain ⟨o,ho,hc,n,hd⟩:=pl.isList
  exact call_list_seq p (.inl rfl) ho hc hd (fun h' c' kp e=>fin its r' hz h' c' kp e) (by simp only [xav] <;> lia)
 ·obtain ⟨its,r',pl,hz⟩:=I.tuple hq
  have hlen:=r'.length
  obtain ⟨o,ho,hc,n,hd⟩:=pl
  exact call_list_seq p (.inr rfl) ho hc hd (fun h' c' kp e=>fin its r' hz h' c' kp e) (by simp only [xav] <;> lia)
def tyV (K:PySem.W.Frag) (T:String) (x:V) (H:Hp):Prop:=match x with
 | .str _=>T = "str"
 | .int _=>T = "int"
 | .ref p=>(T = "list"/\∃ xs,SqL K H p xs)\/(T = "tuple"/\∃ o,K.lookup p=some o/\o.cls=.type "tuple"/\o.dict=none) \/
   (T = "dict"/\((∃ kvs,H p=some (.dK kvs))\/∃ kvs,H p=some (.dT kvs)))\/(T = "set"/\∃ S n,H p=some (.set S n))
 | _=>False
theorem tyV_is {T:String} (I:Inv X pins σ H s) (r:RelV x v) (ty:tyV X.K T x H) :
  s.TypeIs v T/\∀ a,v=.ref a->∃ ob,s.heap.get? a=some ob/\ob.dict=none:=by
 cases x with
 | str z =>
  obtain ⟨t,rfl⟩:=r
  cases (show T = "str" from ty)
  exact ⟨typeIs_str s z t,fun _ e=>nomatch e⟩
 | int i =>
  obtain ⟨t,rfl⟩:=r
  cases (show T = "int" from ty)
  exact ⟨typeIs_int s i t,fun _ e=>nomatch e⟩
 | ref p =>
  cases r
  rcases ty with ⟨rfl,xs,hq⟩ | ⟨rfl,o,hk,hc,hd⟩ | ⟨rfl,hk⟩ | ⟨rfl,S,n,hk⟩
  ·obtain ⟨its,_,pl,_⟩:=I.list hq
   refine ⟨pl.isList.typeIs,fun a e=>?_⟩
   cases e
   obtain ⟨o,n,e,c,hd,_⟩:=pl
   exact ⟨o,e,hd⟩
  ·refine ⟨⟨o,I.kIn p o hk,hc⟩,fun a e=>?_⟩
   cases e
   exact ⟨o,I.kIn _ o hk,hd⟩
  ·have z:∃ o,s.heap.get? p=some o/\o.ExactDict:=by
    rcases hk with ⟨kvs,hk⟩ | ⟨kvs,hk⟩
    ·obtain ⟨_,_,_,_,o,_,_,e,ex,_⟩:=I.hok p _ hk
     exact ⟨o,e,ex⟩
    ·obtain ⟨_,_,_,_,o,_,_,e,ex,_⟩:=I.hok p _ hk
     exact ⟨o,e,ex⟩
   obtain ⟨o,e,ex⟩:=z
   refine ⟨⟨o,e,ex.1⟩,fun a e2=>?_⟩
   cases e2
   exact ⟨o,e,ex.2.1⟩
  ·obtain ⟨o,_,_,_,e,ex,_⟩:=I.hok p _ hk
   refine ⟨⟨o,e,ex.1⟩,fun a e2=>?_⟩
   cases e2
   exact ⟨o,e,ex.2.1⟩
 | _=>exact False.elim ty
def tBM (K:PySem.W.Frag) (T:String) (r:V->List V->Hp->VK->Prop) (to:TE) (t:TA):TE:=fun σ H Q=>to σ H fun x H1=>tyV K T x H1/\t σ H1 fun xs H2=>r x xs H2 Q
variable {o e:Expr} {es:List Expr} {to:TE} {t:TA} {name:Str} {apos cpos:Pos} {T id:String} {r:V->List V->Hp->VK->Prop}
theorem pe_bm (pa:PlainAttrs T) (slot:Slot T name id) (hty:typeOf (.builtin id)=pure (.type "method_descriptor")) (hm:MtR X id r) (ho:PE X o to) (ha:PA X (e :: es) t)
  (hbase:attributeBase o name X.env (eval o X.env)=eval o X.env:=by rfl)
  (hfew:((backTo cpos (starEach (e :: es) X.env)).all (fun x=>!x.1) && (backToKw cpos (keywordEach [] X.env)).all (fun x=>x.1.isSome)
   && decide ((e :: es).length+([]:List Keyword).length+(if ([]:List Keyword).isEmpty then 0 else 1)<30))=true:=by rfl)
  (hline:(apos.endLine == cpos.line)=true:=by rfl) (hs:starEach (e :: es) X.env=(false,eval e X.env) :: starEach es X.env:=by rfl) (hplain:(backTo cpos (starEach es X.env)).any (·.1)=false:=by rfl) :
  PE X (.Call (.Attribute o name apos) (e :: es) [] cpos) (tBM X.K T r to t):=by
 intro pins s σ H Q I h
 refine wpAny_Call_method_late hbase hfew hline rfl (thn (ho pins s σ H _ I h) fun v s1 hx9=>?_)
 obtain ⟨x,H1,I1,r1,ty,q1⟩:=hx9
 obtain ⟨h1,h2⟩:=tyV_is I1 r1 ty
 refine ⟨T,id,pa,slot,hty,h1,h2,?_⟩
 have hA:=ha cpos pins s1 σ H1 _ I1 q1
 rw [hs] at hA ⊢
 refine Calls.callWith_builtin (by show (false || (backTo cpos (starEach es X.env)).any (·.1))=false; rw [hplain] <;> rfl) (Calls.evalArgs_plain ?_)
 exact thn hA fun us s2 hx5=>L2.ex2 hx5 fun vs H2 I2 r2 q2=>hm pins s2 σ H2 x vs v us Q I2 r1 r2 q2
end
def MtM (X:Cx) (id:String) (r:V->List V->Hp->VK->Prop):Prop :=
 ∀ (pins:List (Addr × Obj)) (s:Shared) (σ:St) (H:Hp) (x:V) (xs:List V) (v:Value) (us:List Value) (Q:VK),Inv X pins σ H s->RelV x v->Vals xs us->r x xs H Q ->
  wpAny (model X.prog X.w) X.A (call (.builtin id) (v :: us)) (EP X pins σ Q) X.xe s
theorem Vals.one {x:V} {us:List Value} (h:Vals [x] us):∃ u,us=[u]/\RelV x u:=by
 cases h
 rename_i r h
 cases h
 exact ⟨_,rfl,‹_›⟩
theorem Vals.two {x y:V} {us:List Value} (h:Vals [x,y] us):∃ u v,us=[u,v]/\RelV x u/\RelV y v:=by
 cases h
 rename_i r h
 cases h
 rename_i q h
 cases h
 exact ⟨_,_,rfl,‹_›,‹_›⟩
theorem Vals.zero:∀ {us:List Value},Vals [] us->us=[]
 | _,.nil=>rfl
theorem Vals.dropLast (h:Vals xs us):Vals xs.dropLast us.dropLast:=by
 induction h with
 | nil=>exact .nil
 | cons r t ih =>
  cases t with
  | nil=>exact .nil
  | cons q t'=>exact .cons r ih
theorem Vals.eraseIdx:∀ {xs:List V} {us:List Value} (i:Nat),Vals xs us->Vals (xs.eraseIdx i) (us.eraseIdx i)
 | _,_,_,.nil=>.nil
 | _,_,0,.cons _ t=>t
 | _,_,i+1,.cons r t=>.cons r (Vals.eraseIdx i t)
theorem Vals.reverse (h:Vals xs us):Vals xs.reverse us.reverse:=by
 induction h with
 | nil=>exact .nil
 | cons r t ih=>rw [List.reverse_cons,List.reverse_cons]; exact Vals.append ih (.cons r .nil)
theorem Vals.rep (h:Vals xs us):∀ k:Nat,Vals (List.replicate k xs).flatten (List.replicate k us).flatten
 | 0=>.nil
 | k+1=>by
  rw [xbt,xbt,xbT,xbT]
  exact Vals.append h (Vals.rep h k)
section
variable {X:Cx} {pins:List (Addr × Obj)} {σ:St} {H:Hp} {s:Shared} {l:Addr} {xs ys:List V}
theorem Inv.lset {its its':List Value} {n:Nat} {f:Array Value->Array Value} {t':Nat} (I:Inv X pins σ H s) (hH:H l=some (.lst xs))
  (e:s.heap.get? l=some { cls:=.type "list",data:=.seq its.toArray n }) (hf:f its.toArray=its'.toArray) (hv:Vals ys its') (hz:ys.length<=sizeLine) :
  Inv X pins σ (upd H l (.lst ys)) { s with heap:=s.heap.update l (Obj.mapSeq f),toks:=t' }:=by
 have q:=PySem.IsL.update e f
 rw [hf] at q
 refine I.write (x:=l) (e:=l) (by rw [hH]; exact trivial) (.inl rfl) (fun b' u hb hu=>(Heap.get?_update_other s.heap (Obj.mapSeq f) (Ne.symm hb)).trans hu) ⟨_,q⟩ ?_
 exact ⟨hz,its',_,hv,q⟩
theorem Inv.lnew (I:Inv X pins σ H s) (hv:Vals ys its) (hz:ys.length<=sizeLine) :
  Inv X pins σ (upd H s.heap.objs.size (.lst ys)) { s with heap:=s.heap.push { cls:=.type "list",data:=.seq its.toArray },toks:=t' } :=
 I.laid (fun _ _ q=>xau _ q) (xah _) ⟨hz,its,0,hv,xaI _ rfl⟩
theorem Inv.fresh (I:Inv X pins σ H s):H s.heap.objs.size=none:=I.hok.fresh (xah _)
theorem Inv.lstM (I:Inv X pins σ H s) (hH:H l=some (.lst xs)):xs.length<=sizeLine/\∃ (its:List Value) (n:Nat),Vals xs its/\xs.length=its.length/\s.heap.get? l=some { cls:=.type "list",data:=.seq its.toArray n }:=by
 obtain ⟨z,its,n,r,e⟩:=I.hok l _ hH
 exact ⟨z,its,n,r,r.length,e⟩
end
section
variable {X:Cx}
def rAppend:V->List V->Hp->VK->Prop:=fun x vs H Q=>∃ l xs y,x=.ref l/\vs=[y]/\H l=some (.lst xs)/\xs.length<sizeLine/\Q .non (upd H l (.lst (xs++[y])))
theorem mt_append:MtM X "list.append" rAppend:=by
 intro pins s σ H x vs v us Q I rx rv h
 obtain ⟨l,xs,y,rfl,rfl,hH,hz,q⟩:=h
 cases rx
 obtain ⟨u,rfl,ru⟩:=rv.one
 obtain ⟨z,its,n,r,hl,e⟩:=I.lstM hH
 refine call_meets F.slot_list_append ⟨_,e,rfl⟩ F.entry_list_append (F.args_list_append_2 _ _) (PySem.list_append l its.toArray n u (by rw [xav]; lia)) ⟨e,?_⟩
 refine ⟨.non,_,I.lset (its':=its++[u]) hH e (by simp) (r.append (.cons ru .nil)) ?_,rfl,q⟩
 rw [xam,xbA]
 assumption
theorem len_rep {α:Type} (xs:List α) (k:Nat):(List.replicate k xs).flatten.length=k * xs.length:=by
 induction k with
 | zero=>simp
 | succ k ih=>rw [xbt,xbT,xam,ih,Nat.succ_mul,xca]
end
section
set_option maxRecDepth 100000 in
end
section
variable {κ:Type} [DecidableEq κ]
def valV (kvs:List (κ × V)) (k:κ):Option V:=(kvs.find? fun kv=>decide (kv.1=k)).map (·.2)
def putK (kvs:List (κ × V)) (k:κ) (v:V):List (κ × V) :=
 if (kvs.any fun kv=>decide (kv.1=k))=true then kvs.map (fun kv=>if kv.1=k then (kv.1,v) else kv) else kvs++[(k,v)]
def dropK (kvs:List (κ × V)) (k:κ):List (κ × V):=kvs.filter fun kv=>decide (kv.1≠k)
theorem valV_pos {p:κ × V} {r:List (κ × V)} {k:κ} (e:p.1=k):valV (p :: r) k=some p.2:=by simp [valV,xbx,e]
theorem valV_neg {p:κ × V} {r:List (κ × V)} {k:κ} (e:¬ p.1=k):valV (p :: r) k=valV r k:=by simp [valV,xbx,e]
theorem valV_any (k:κ):∀ kvs:List (κ × V),(kvs.any fun kv=>decide (kv.1=k))=(valV kvs k).isSome
 | []=>rfl
 | p :: r=>by
  rw [xbq]
  by_cases e:p.1=k
  ·simp only [valV_pos e,decide_eq_true e,Bool.true_or,Option.isSome_some]
  ·rw [valV_neg e,decide_eq_false e,Bool.false_or]; exact valV_any k r
theorem valV_map (k j:κ) (y:V):∀ kvs:List (κ × V),valV (kvs.map fun kv=>if kv.1=k then (kv.1,y) else kv) j=(valV kvs j).map fun x=>if j=k then y else x
 | []=>rfl
 | p :: r=>by
  have ih:=valV_map k j y r
  rw [xaq]
  by_cases h:p.1=k
  ·rw [if_pos h]
   by_cases e:p.1=j
   ·rw [valV_pos (p:=(p.1,y)) e,valV_pos e,xbM,if_pos (e.symm.trans h)]
   ·rw [valV_neg (p:=(p.1,y)) e,valV_neg e,ih]
  ·rw [if_neg h]
   by_cases e:p.1=j
   ·rw [valV_pos (p:=p) e,valV_pos e,xbM,if_neg (fun z=>h (e.trans z))]
   ·rw [valV_neg (p:=p) e,valV_neg e,ih]
theorem valV_snoc (k j:κ) (y:V):∀ kvs:List (κ × V),valV kvs k=none->valV (kvs++[(k,y)]) j=if j=k then some y else valV kvs j
 | [],_=>by
  by_cases e:k=j
  ·rw [if_pos e.symm]; exact valV_pos (p:=(k,y)) e
  ·rw [if_neg (fun z=>e z.symm)]; exact valV_neg (p:=(k,y)) e
 | p :: r,hn=>by
  rw [xbW]
  have hk:¬ p.1=k:=fun z=>by rw [valV_pos z] at hn; cases hn
  rw [valV_neg hk] at hn
  have ih:=valV_snoc k j y r hn
  by_cases e:p.1=j
  ·rw [valV_pos e,valV_pos e,if_neg (fun z=>hk (e.trans z))]
  ·rw [valV_neg e,valV_neg e,ih]
theorem valV_put (kvs:List (κ × V)) (k j:κ) (y:V):valV (putK kvs k y) j=if j=k then some y else valV kvs j:=by
 unfold putK
 by_cases a:(kvs.any fun kv=>decide (kv.1=k))=true
 ·rw [if_pos a,valV_map]
  rw [valV_any] at a
  by_cases e:j=k
  ·obtain ⟨x,hx⟩:=xbN.mp a
   rw [if_pos e,e,hx,xbM,if_pos rfl]
  ·rw [if_neg e]
   cases valV kvs j with
   | none=>rfl
   | some x=>rw [xbM,if_neg e]
 ·rw [if_neg a]
  refine valV_snoc k j y kvs ?_
  rw [valV_any] at a
  cases q:valV kvs k with
  | none=>rfl
  | some x=>rw [q] at a; exact (a rfl).elim
theorem length_putK (kvs:List (κ × V)) (k:κ) (v:V):(putK kvs k v).length<=kvs.length+1:=by
 unfold putK
 split
 ·rw [xad]; exact xbe _ _
 ·rw [xam,xaK,List.length_nil]; exact xah _
theorem RelO.isSome_eq (r:RelO o u):o.isSome=u.isSome:=by
 cases o with
 | none=>cases u with
  | none=>rfl
  | some _=>exact (show False from r).elim
 | some _=>cases u with
  | none=>exact (show False from r).elim
  | some _=>rfl
theorem RelO.getD (r:RelO o u) (rd:RelV d d'):RelV (o.getD d) (u.getD d'):=by
 cases o with
 | none=>cases u with
  | none=>exact rd
  | some _=>exact (show False from r).elim
 | some _=>cases u with
  | none=>exact (show False from r).elim
  | some _=>exact r
theorem KV.val {kvs:List (κ × V)} {vs:List (κ × Value)} (r:KV kvs vs) (k:κ):RelO (valV kvs k) (valueAt vs k):=by
 unfold KV at r
 induction r with
 | nil=>exact True.intro
 | @cons p q ps qs h t ih =>
  obtain ⟨h1,h2⟩:=h
  by_cases e:p.1=k
  ·have e':q.1=k:=h1.symm.trans e
   have b:valueAt (q :: qs) k=some q.2:=by simp [valueAt,xbx,e']
   rw [valV_pos e,b]; exact h2
  ·have e':¬ q.1=k:=fun z=>e (h1.trans z)
   have b:valueAt (q :: qs) k=valueAt qs k:=by simp [valueAt,xbx,e']
   rw [valV_neg e,b]; exact ih
theorem KV.any (r:KV kvs vs) (k:κ):(kvs.any fun kv=>decide (kv.1=k))=vs.any fun kv=>decide (kv.1=k):=by
 unfold KV at r
 induction r with
 | nil=>rfl
 | cons h t ih=>rw [xbq,xbq,ih,h.1]
theorem KV.repl (r:KV kvs vs) (k:κ) (ry:RelV y u) :
  KV (kvs.map fun kv=>if kv.1=k then (kv.1,y) else kv) (vs.map fun kv=>if kv.1=k then (kv.1,u) else kv):=by
 unfold KV at r ⊢
 induction r with
 | nil=>exact .nil
 | @cons p q ps qs h t ih =>
  rw [xaq,xaq]
  refine .cons ?_ ih
  obtain ⟨h1,h2⟩:=h
  by_cases e:p.1=k
  ·rw [if_pos e,if_pos (h1.symm.trans e)]; exact ⟨h1,ry⟩
  ·rw [if_neg e,if_neg (fun z=>e (h1.trans z))]; exact ⟨h1,h2⟩
theorem KV.put (r:KV kvs vs) (k:κ) (ry:RelV y u):KV (putK kvs k y) (stored vs k u):=by
 unfold putK stored
 rw [r.any k]
 by_cases e:(vs.any fun kv=>decide (kv.1=k))=true
 ·rw [if_pos e,if_pos e]; exact r.repl k ry
 ·rw [if_neg e,if_neg e]; exact Paired.snoc r ⟨rfl,ry⟩
theorem KV.drop (r:KV kvs vs) (k:κ):KV (dropK kvs k) (without vs k):=by
 unfold KV at r ⊢
 unfold dropK without
 induction r with
 | nil=>exact .nil
 | @cons p q ps qs h t ih =>
  obtain ⟨h1,h2⟩:=h
  rw [xbX,xbX]
  by_cases e:p.1=k
  ·have a:¬ decide (p.1≠k)=true:=by simp [e]
   have b:¬ decide (q.1≠k)=true:=by simp [h1.symm.trans e]
   rw [if_neg a,if_neg b]; exact ih
  ·have e':¬ q.1=k:=fun z=>e (h1.trans z)
   have a:decide (p.1≠k)=true:=by simp [e]
   have b:decide (q.1≠k)=true:=by simp [e']
   rw [if_pos a,if_pos b]; exact .cons ⟨h1,h2⟩ ih
theorem KV.keys {kvs:List (κ × V)} {vs:List (κ × Value)} (r:KV kvs vs):kvs.map (·.1)=vs.map (·.1):=by
 unfold KV at r
 induction r with
 | nil=>rfl
 | cons h t ih=>rw [xaq,xaq,ih,h.1]
theorem KV.length (r:KV kvs vs):kvs.length=vs.length:=Paired.length r
end
theorem kV_is {P:Program} (r:RelV (kV k) u):(mixKind P w).is k u=true:=by
 cases k with
 | inl i=>obtain ⟨t,e⟩:=(show ∃ t,u=Value.int i t from r); subst e; exact mixKind_int P w i t
 | inr x=>obtain ⟨t,e⟩:=(show ∃ t,u=Value.str x t from r); subst e; exact mixKind_str P w x t
theorem items_are {P:Program}:∀ {ks:List Key} {us:List Value},Vals (ks.map kV) us->ItemsAre (mixKind P w) ks us
 | [],_,r=>by rw [xco] at r; cases r; exact .nil
 | k :: ks,_,r=>by
  rw [xaq] at r
  cases r with
  | cons h t=>exact .cons (kV_is h) (items_are t)
abbrev KT (H:Hp):List (List Key × V)->List (List Key × Addr × Value)->Prop:=Paired fun p q=>p.1=q.1/\H q.2.1=some (.tup (p.1.map kV))/\RelV p.2 q.2.2
theorem KT.val {H:Hp} {kvs:List (List Key × V)} {xs:List (List Key × Addr × Value)} (r:KT H kvs xs) (k:List Key):RelO (valV kvs k) ((atKey xs k).map (·.2)):=by
 induction r with
 | nil=>exact True.intro
 | @cons p q ps qs h t ih =>
  obtain ⟨h1,_,h2⟩:=h
  by_cases e:p.1=k
  ·have e':q.1=k:=h1.symm.trans e
   have b:atKey (q :: qs) k=some q.2:=by simp [atKey,xbx,e']
   rw [valV_pos e,b]; exact h2
  ·have e':¬ q.1=k:=fun z=>e (h1.trans z)
   have b:atKey (q :: qs) k=atKey qs k:=by simp [atKey,xbx,e']
   rw [valV_neg e,b]; exact ih
theorem KT.repl (r:KT H kvs xs) (k:List Key) (ry:RelV y u) :
  KT H (kvs.map fun kv=>if kv.1=k then (kv.1,y) else kv) (xs.map (putAt k u)):=by
 induction r with
 | nil=>exact .nil
 | @cons p q ps qs h t ih =>
  rw [xaq,xaq]
  refine .cons ?_ ih
  obtain ⟨h1,h2,h3⟩:=h
  unfold putAt
  by_cases e:p.1=k
  ·rw [if_pos e,if_pos (h1.symm.trans e)]; exact ⟨h1,h2,ry⟩
  ·rw [if_neg e,if_neg (fun z=>e (h1.trans z))]; exact ⟨h1,h2,h3⟩
theorem KT.put (r:KT H kvs xs) (k:List Key) (hb:H b=some (.tup (k.map kV))) (ry:RelV y u) :
  KT H (putK kvs k y) (storedH xs k b u):=by
 have e:(kvs.any fun kv=>decide (kv.1=k))=(atKey xs k).isSome:=by
  rw [valV_any,(r.val k).isSome_eq,xcj]
 unfold putK storedH
 rw [e]
 by_cases q:(atKey xs k).isSome=true
 ·rw [if_pos q,if_pos q]; exact r.repl k ry
 ·rw [if_neg q,if_neg q]; exact Paired.snoc r ⟨rfl,hb,ry⟩
theorem KT.keeps (r:KT H kvs xs) (ht:∀ b ys,H b=some (.tup ys)->H' b=some (.tup ys)):KT H' kvs xs :=
 Paired.mapP r fun _ _ z=>⟨z.1,ht _ _ z.2.1,z.2.2⟩
section
variable {P:Program} {w:World} {H:Hp} {h:Heap} {a:Addr}
theorem rd_of (ok:HOk P w H h) (e:Rd H a u):ObjOk P w H h a u:=e.ok ok
theorem dk_rd (ok:HOk P w H h) (e:Rd H a (.dK kvs)):kvs.length<=sizeLine/\(a == sysModules)=false/\∃ vs,KV kvs vs/\h.DictOf (mixKind P w) a vs :=
 show ObjOk P w H h a (.dK kvs) from rd_of ok e
theorem dk_of (ok:HOk P w H h) (e:H a=some (.dK kvs)):kvs.length<=sizeLine/\(a == sysModules)=false/\∃ vs,KV kvs vs/\h.DictOf (mixKind P w) a vs:=dk_rd ok (.inl e)
theorem key_of (ok:HOk P w H h) (e:H a=some (.tup (ks.map kV))):(tupleKind (mixKind P w)).is h ks a:=by
 obtain ⟨_,its,r,o,h1,h2,n,h3⟩:=(show ObjOk P w H h a (.tup (ks.map kV)) from ok a _ e)
 exact ⟨o,its.toArray,n,h1,h2,h3,by simpa using items_are r⟩
theorem dt_rd (ok:HOk P w H h) (e:Rd H a (.dT kvs)):kvs.length<=sizeLine/\(a == sysModules)=false /\
  ∃ xs,KT H kvs xs/\h.DictOfH (tupleKind (mixKind P w)) a xs:=by
 obtain ⟨z,y,xs,r,o,es,ep,h1,h2,h3,h4,h5⟩:=(show ObjOk P w H h a (.dT kvs) from rd_of ok e)
 refine ⟨z,y,xs,r,o,es,ep,h1,h2,h3,h4,fun x hx=>?_,h5⟩
 have all:∀ {l:List (List Key × V)} {m:List (List Key × Addr × Value)},KT H l m->∀ x∈m,(tupleKind (mixKind P w)).is h x.1 x.2.1:=by
  intro l m q
  induction q with
  | nil=>intro x hx; exact nomatch hx
  | @cons p q ps qs hq t ih =>
   intro x hx
   rcases xak.mp hx with e | hx
   ·subst e
    exact key_of ok (by rw [<- hq.1]; exact hq.2.1)
   ·exact ih x hx
 exact all r x hx
theorem dt_of (ok:HOk P w H h) (e:H a=some (.dT kvs)):kvs.length<=sizeLine/\(a == sysModules)=false /\
  ∃ xs,KT H kvs xs/\h.DictOfH (tupleKind (mixKind P w)) a xs:=dt_rd ok (.inl e)
end
def DGet (H:Hp) (a:Addr) (y:V) (r:Option V):Prop :=
 (∃ kvs k,Rd H a (.dK kvs)/\y=kV k/\r=valV kvs k)\/∃ kvs k b,Rd H a (.dT kvs)/\y=.ref b/\H b=some (.tup (k.map kV))/\r=valV kvs k
def DPut (H:Hp) (a:Addr) (y v:V) (H':Hp):Prop :=
 (∃ kvs k,H a=some (.dK kvs)/\y=kV k/\kvs.length<sizeLine/\H'=upd H a (.dK (putK kvs k v))) \/
 ∃ kvs k b,H a=some (.dT kvs)/\y=.ref b/\H b=some (.tup (k.map kV))/\kvs.length<sizeLine/\H'=upd H a (.dT (putK kvs k v))
theorem DGet.k {H:Hp} {a:Addr} {kvs:List (Key × V)} {k:Key} (e:H a=some (.dK kvs)):DGet H a (kV k) (valV kvs k):=.inl ⟨kvs,k,.inl e,rfl,rfl⟩
theorem DGet.t {H:Hp} {a b:Addr} {kvs:List (List Key × V)} {k:List Key} (e:H a=some (.dT kvs)) (eb:H b=some (.tup (k.map kV))):DGet H a (.ref b) (valV kvs k):=.inr ⟨kvs,k,b,.inl e,rfl,eb,rfl⟩
theorem DPut.k {H:Hp} {a:Addr} {kvs:List (Key × V)} {k:Key} {v:V} (e:H a=some (.dK kvs)) (hl:kvs.length<sizeLine):DPut H a (kV k) v (upd H a (.dK (putK kvs k v))):=.inl ⟨kvs,k,e,rfl,hl,rfl⟩
theorem DPut.t {H:Hp} {a b:Addr} {kvs:List (List Key × V)} {k:List Key} {v:V} (e:H a=some (.dT kvs)) (eb:H b=some (.tup (k.map kV))) (hl:kvs.length<sizeLine) :
  DPut H a (.ref b) v (upd H a (.dT (putK kvs k v))):=.inr ⟨kvs,k,b,e,rfl,eb,hl,rfl⟩
section
variable {X:Cx} {pins:List (Addr × Obj)} {σ:St} {H:Hp} {s:Shared} {a:Addr} {y v:V} {u r:Value} {o:Option V} {A:Around} {E:Value->Shared->Prop}
theorem Inv.big (I:Inv X pins σ H s):sysModules<s.heap.objs.size:=by
 have h:mainGlobals<s.heap.objs.size:=(I.mod.glob.keeps I.bk).lt
 exact Nat.lt_trans (by decide) h
theorem d_getItem (hu:A.units+1<cLine) (I:Inv X pins σ H s) (g:DGet H a y (some v)) (ry:RelV y u) (h:∀ w' s',Inv X pins σ H s'->RelV v w'->Q w' s') :
  wpAny (model X.prog X.w) A (getItem (.ref a) u) Q E s:=by
 rcases g with ⟨kvs,k,e,ey,l⟩ | ⟨kvs,k,b,e,ey,eb,l⟩
 ·subst ey
  obtain ⟨z,hd,vs,rel,dd⟩:=dk_rd I.hok e
  obtain ⟨w',hw,rw'⟩:=RelO.some_of (v:=v) (o:=valueAt vs k) (by rw [l]; exact rel.val k)
  exact wpAny_getItem_of (kV_is ry) dd.mapOf hw (h w' _ (I.tok _) rw')
 ·subst ey
  cases (show u=Value.ref b from ry)
  obtain ⟨z,hd,xs,rel,dd⟩:=dt_rd I.hok e
  obtain ⟨w',hw,rw'⟩:=RelO.some_of (v:=v) (o:=(atKey xs k).map (·.2)) (by rw [l]; exact rel.val k)
  obtain ⟨p,hp,hp2⟩:=Option.map_eq_some_iff.mp hw
  refine wpAny_getItem_heap (tupleKind_room_in1 hu) (key_of I.hok eb) dd hp ?_
  rw [hp2]
  exact h w' _ (I.tok _) rw'
theorem d_in (hu:A.units+1<cLine) (I:Inv X pins σ H s) (g:DGet H a y o) (ry:RelV y u) (h:∀ s',Inv X pins σ H s'->Q (.bool o.isSome) s') :
  wpAny (model X.prog X.w) A (compareOp .In u (.ref a)) Q E s:=by
 rcases g with ⟨kvs,k,e,ey,l⟩ | ⟨kvs,k,b,e,ey,eb,l⟩
 ·subst ey
  obtain ⟨z,hd,vs,rel,dd⟩:=dk_rd I.hok e
  refine wpAny_in_of (kV_is ry) hd dd.mapOf ?_
  rw [<- (rel.val k).isSome_eq,<- l]
  exact h _ (I.tok _)
 ·subst ey
  cases (show u=Value.ref b from ry)
  obtain ⟨z,hd,xs,rel,dd⟩:=dt_rd I.hok e
  refine wpAny_in_heap (tupleKind_room_in1 hu) (key_of I.hok eb) hd dd ?_
  have q:=(rel.val k).isSome_eq
  rw [xcj] at q
  rw [<- q,<- l]
  exact h _ (I.tok _)
theorem d_notIn (hu:A.units+1<cLine) (I:Inv X pins σ H s) (g:DGet H a y o) (ry:RelV y u) (h:∀ s',Inv X pins σ H s'->Q (.bool (!o.isSome)) s') :
  wpAny (model X.prog X.w) A (compareOp .NotIn u (.ref a)) Q E s:=by
 rcases g with ⟨kvs,k,e,ey,l⟩ | ⟨kvs,k,b,e,ey,eb,l⟩
 ·subst ey
  obtain ⟨z,hd,vs,rel,dd⟩:=dk_rd I.hok e
  refine wpAny_notIn_of (kV_is ry) hd dd.mapOf ?_
  rw [<- (rel.val k).isSome_eq,<- l]
  exact h _ (I.tok _)
 ·subst ey
  cases (show u=Value.ref b from ry)
  obtain ⟨z,hd,xs,rel,dd⟩:=dt_rd I.hok e
  refine wpAny_notIn_heap (tupleKind_room_in1 hu) (key_of I.hok eb) hd dd ?_
  have q:=(rel.val k).isSome_eq
  rw [xcj] at q
  rw [<- q,<- l]
  exact h _ (I.tok _)
theorem d_write (I:Inv X pins σ H s) (mu:Mut (H a)) (hs:Heap.SameBut a s.heap h') (he:∃ q,h'.get? a=some q) (new:ObjOk X.prog X.w (upd H a ob) h' a ob) :
  Inv X pins σ (upd H a ob) { s with heap:=h',toks:=t' } :=
 I.write (x:=a) (e:=a) mu (.inl rfl) (fun b q hb z=>(hs.2 b hb).trans z) he new
theorem dk_new {P:Program} (z:kvs.length<=sizeLine) (hd:(a == sysModules)=false) (rel:KV kvs vs) (dd:h'.DictOf (mixKind P w) a vs) :
  ObjOk P w H' h' a (.dK kvs):=⟨z,hd,vs,rel,dd⟩
theorem d_setItem (hu:A.units+1<cLine) (I:Inv X pins σ H s) (g:DPut H a y v H') (ry:RelV y u) (rv:RelV v r) (h:∀ s',Inv X pins σ H' s'->Q () s') :
  wpAny (model X.prog X.w) A (setItem (.ref a) u r) Q E s:=by
 rcases g with ⟨kvs,k,e,ey,l,eH⟩ | ⟨kvs,k,b,e,ey,eb,l,eH⟩
 ·subst ey eH
  obtain ⟨z,hd,vs,rel,dd⟩:=dk_of I.hok e
  have hz:vs.length<=sizeLine:=by rw [<- rel.length]; exact z
  have hl:(putK kvs k v).length<=sizeLine:=by have:=length_putK kvs k v; lia
  refine wpAny_setItem_pairs (hsz:=hz) (kV_is ry) dd fun h' dd' hs=>h _ ?_
  have he:∃ q,h'.get? a=some q:=let ⟨q,_,_,hq,_⟩:=dd'; ⟨q,hq⟩
  exact d_write I (by rw [e]; exact True.intro) hs he (dk_new hl hd (rel.put k rv) dd')
 ·subst ey eH
  cases (show u=Value.ref b from ry)
  obtain ⟨z,hd,xs,rel,dd⟩:=dt_of I.hok e
  have hz:xs.length<=sizeLine:=by rw [<- Paired.length rel]; exact z
  have hl:(putK kvs k v).length<=sizeLine:=by have:=length_putK kvs k v; lia
  refine wpAny_setItem_heap (hsz:=hz) (tupleKind_room_in1 hu) (key_of I.hok eb) dd fun h' dd' hs=>h _ ?_
  obtain ⟨q,es,ep,hq,h2,h3,h4,_,h5⟩:=dd'
  refine d_write I (by rw [e]; exact True.intro) hs ⟨q,hq⟩ ⟨hl,hd,_,(rel.put k eb rv).keeps fun c ys ec=>?_,q,es,ep,hq,h2,h3,h4,h5⟩
  rw [upd_ne (ne_of ec e (fun z=>nomatch z))]
  exact ec
end
section
variable {X:Cx} {pins:List (Addr × Obj)} {σ:St} {H:Hp} {s:Shared} {a:Addr} {kvs:List (Key × V)} {A:Around} {E:Value->Shared->Prop}
theorem d_len (I:Inv X pins σ H s) (e:Rd H a (.dK kvs)) (h:∀ t s',Inv X pins σ H s'->Q (.int kvs.length t) s'):wpAny (model X.prog X.w) A (call (.builtin "len") [.ref a]) Q E s:=by
 obtain ⟨z,hd,vs,rel,dd⟩:=dk_rd I.hok e
 refine call_len_dict hd dd (by rw [<- rel.length]; rw [sizeLine_eq] at z; lia) ?_
 rw [<- rel.length]
 exact h _ _ (I.tok _)
end
theorem dict_typeIs {X:Cx} (I:Inv X pins σ H s) (g:DGet H a y o):s.TypeIs (.ref a) "dict" := by
 rcases g with ⟨kvs,k,e,_,_⟩ | ⟨kvs,k,b,e,_,_,_⟩
 ·obtain ⟨_,_,vs,_,dd⟩:=dk_rd I.hok e
  exact dd.typeIs
 ·obtain ⟨_,_,xs,_,dd⟩:=dt_rd I.hok e
  exact dd.typeIs
def sDPut (td ty tv:TE):TS:=fun D σ H=>tv σ H fun v H1=>td σ H1 fun x H2=>ty σ H2 fun y H3=>∃ a H4,x=.ref a/\DPut H3 a y v H4/\D.nx σ H4
section
variable {X:Cx} {o i value:Expr} {pos pos':Pos} {td ty tv:TE}
theorem ps_dput (hu:X.A.units+1<cLine) (ho:PE X o td) (hi:PE X i ty) (hv:PE X value tv) (hs:swapsWith value (some (.Subscript o i pos')) pos.line X.env=pure false) :
  PS X (.Assign [.Subscript o i pos'] value pos) (sDPut td ty tv):=by
 intro pins s σ H D I h
 refine wpAny_Assign_Subscript (thn (hv pins s σ H _ I h) fun r s1 hx5=>L2.ex2 hx5 fun v H1 I1 rv q1=>thn (ho pins s1 σ H1 _ I1 q1) fun u s2 hx5=>L2.ex2 hx5 fun x H2 I2 rx q2=>thn (hi pins s2 σ H2 _ I2 q2) fun iv s3 hx9=>?_) hs
 obtain ⟨y,H3,I3,ry,a,H4,ex,g,q3⟩:=hx9
 subst ex
 obtain rfl:u=Value.ref a:=rx
 exact d_setItem hu I3 g ry rv fun s4 I4=>⟨σ,H4,I4,q3⟩
end
theorem dt_empty {P:Program} (h:Heap) (hb:sysModules<h.objs.size):ObjOk P w H (h.push { cls:=.type "dict",data:=.dict #[] }) h.objs.size (.dT []) :=
 ⟨xar _,beq_eq_false_iff_ne.mpr (Ne.symm (xaA hb)),[],.nil,_,#[],0,xaI _ rfl,⟨rfl,rfl,rfl⟩,rfl,rfl,xaB⟩
def tDNewT:TE:=fun _ H Q=>∀ p,H p=none->Q (.ref p) (upd H p (.dT []))
section
variable {X:Cx} {pos:Pos}
theorem pe_dnewT:PE X (.Dict [] [] pos) tDNewT:=fun pins s σ H Q I h =>
 wpAny_Dict_empty ⟨.ref s.heap.objs.size,_,I.laid (a:=s.heap.objs.size) (o:=.dT []) (t':=s.toks) (fun _ _ q=>xau _ q) (xah _) (dt_empty s.heap I.big),rfl,h _ (I.hok.fresh (xah _))⟩
end
def mergeK (kvs more:List (Key × V)):List (Key × V):=more.foldl (fun acc kv=>putK acc kv.1 kv.2) kvs
theorem KV.merge:∀ {more:List (Key × V)} {rs:List (Key × Value)} {kvs:List (Key × V)} {vs:List (Key × Value)},KV more rs->KV kvs vs->KV (mergeK kvs more) (merged vs rs):=by
 intro more rs kvs vs r
 unfold KV at r
 induction r generalizing kvs vs with
 | nil=>intro q; exact q
 | @cons p q ps qs h t ih =>
  intro r0
  have e:KV (putK kvs p.1 p.2) (stored vs q.1 q.2):=by
   have:=r0.put p.1 h.2
   rw [<- h.1]; exact this
  exact ih e
structure M1 (X:Cx) (o:Expr) (m:Str) (apos:Pos) (e:Expr) (cpos:Pos):Prop where
 base:attributeBase o m X.env (eval o X.env)=eval o X.env
 few:((backTo cpos (starEach [e] X.env)).all (fun x=>!x.1) && (backToKw cpos (keywordEach [] X.env)).all (fun x=>x.1.isSome)
  && decide (([e]:List Expr).length+([]:List Keyword).length+(if ([]:List Keyword).isEmpty then 0 else 1)<30))=true
 line:(apos.endLine == cpos.line)=true
 trees:backTo cpos (starEach [e] X.env)=[(false,eval e X.env)]
structure M2 (X:Cx) (o:Expr) (m:Str) (apos:Pos) (e f:Expr) (cpos:Pos):Prop where
 base:attributeBase o m X.env (eval o X.env)=eval o X.env
 few:((backTo cpos (starEach [e,f] X.env)).all (fun x=>!x.1) && (backToKw cpos (keywordEach [] X.env)).all (fun x=>x.1.isSome)
  && decide (([e,f]:List Expr).length+([]:List Keyword).length+(if ([]:List Keyword).isEmpty then 0 else 1)<30))=true
 line:(apos.endLine == cpos.line)=true
 trees:backTo cpos (starEach [e,f] X.env)=[(false,eval e X.env),(false,eval f X.env)]
def IsD (H:Hp) (a:Addr):Prop:=(∃ kvs,Rd H a (.dK kvs))\/∃ kvs,Rd H a (.dT kvs)
theorem isD_at {X:Cx} (I:Inv X pins σ H s) (d:IsD H a) :
  s.TypeIs (.ref a) "dict"/\(∀ b,Value.ref a=.ref b->∃ ob,s.heap.get? b=some ob/\ob.dict=none)/\(a == sysModules)=false:=by
 rcases d with ⟨kvs,e⟩ | ⟨kvs,e⟩
 ·obtain ⟨_,hd,vs,_,dd⟩:=dk_rd I.hok e
  refine ⟨dd.typeIs,fun b q=>?_,hd⟩
  cases q
  obtain ⟨ob,_,_,h1,h2,_⟩:=dd
  exact ⟨ob,h1,h2.2.1⟩
 ·obtain ⟨_,hd,xs,_,dd⟩:=dt_rd I.hok e
  refine ⟨dd.typeIs,fun b q=>?_,hd⟩
  cases q
  obtain ⟨ob,_,_,h1,h2,_⟩:=dd
  exact ⟨ob,h1,h2.2.1⟩
section
variable {X:Cx} {pins:List (Addr × Obj)} {σ:St} {H:Hp} {s:Shared} {a:Addr} {y d:V} {u r:Value} {o:Option V} {A:Around} {E:Value->Shared->Prop}
theorem d_get1 (hu:A.units+1<cLine) (I:Inv X pins σ H s) (g:DGet H a y o) (ry:RelV y u) (h:∀ w' s',Inv X pins σ H s'->RelV (o.getD .non) w'->Q w' s') :
  wpAny (model X.prog X.w) A (call (.builtin "dict.get") [.ref a,u]) Q E s:=by
 rcases g with ⟨kvs,k,e,ey,l⟩ | ⟨kvs,k,b,e,ey,eb,l⟩
 ·subst ey
  obtain ⟨z,hd,vs,rel,dd⟩:=dk_rd I.hok e
  refine call_meetsIn PySem.F.slot_dict_get dd.typeIs PySem.F.entry_dict_get (PySem.F.args_dict_get_2 _ _) (meets_dict_get (mixKind X.prog X.w) a (kV_is ry) hd) ⟨_,dd.mapOf,h _ _ (I.tok _) ?_⟩
  rw [l]
  exact (rel.val k).getD rfl
 ·subst ey
  cases (show u=Value.ref b from ry)
  obtain ⟨z,hd,xs,rel,dd⟩:=dt_rd I.hok e
  refine call_meetsIn PySem.F.slot_dict_get dd.typeIs PySem.F.entry_dict_get (PySem.F.args_dict_get_2 _ _) (meetsH_dict_get (tupleKind (mixKind X.prog X.w)) a b hd) ⟨tupleKind_room_in1 hu,k,xs,key_of I.hok eb,dd,h _ _ (I.tok _) ?_⟩
  rw [l]
  exact (rel.val k).getD rfl
theorem d_get2 (hu:A.units+1<cLine) (I:Inv X pins σ H s) (g:DGet H a y o) (ry:RelV y u) (rd:RelV d r) (h:∀ w' s',Inv X pins σ H s'->RelV (o.getD d) w'->Q w' s') :
  wpAny (model X.prog X.w) A (call (.builtin "dict.get") [.ref a,u,r]) Q E s:=by
 rcases g with ⟨kvs,k,e,ey,l⟩ | ⟨kvs,k,b,e,ey,eb,l⟩
 ·subst ey
  obtain ⟨z,hd,vs,rel,dd⟩:=dk_rd I.hok e
  refine call_meetsIn PySem.F.slot_dict_get dd.typeIs PySem.F.entry_dict_get (PySem.F.args_dict_get_3 _ _ _) (meets_dict_get_default (mixKind X.prog X.w) a (kV_is ry) hd r) ⟨_,dd.mapOf,h _ _ (I.tok _) ?_⟩
  rw [l]
  exact (rel.val k).getD rd
 ·subst ey
  cases (show u=Value.ref b from ry)
  obtain ⟨z,hd,xs,rel,dd⟩:=dt_rd I.hok e
  refine call_meetsIn PySem.F.slot_dict_get dd.typeIs PySem.F.entry_dict_get (PySem.F.args_dict_get_3 _ _ _) (meetsH_dict_get_default (tupleKind (mixKind X.prog X.w)) a b hd r) ⟨tupleKind_room_in1 hu,k,xs,key_of I.hok eb,dd,h _ _ (I.tok _) ?_⟩
  rw [l]
  exact (rel.val k).getD rd
end
def tDGet1 (td ty:TE):TE:=fun σ H Q=>td σ H fun x H1=>∃ a,x=.ref a/\IsD H1 a/\ty σ H1 fun y H2=>∃ o,DGet H2 a y o/\Q (o.getD .non) H2
def tDGet2 (td ty tx:TE):TE:=fun σ H Q=>td σ H fun x H1=>∃ a,x=.ref a/\IsD H1 a/\ty σ H1 fun y H2=>tx σ H2 fun z H3=>∃ o,DGet H3 a y o/\Q (o.getD z) H3
section
variable {X:Cx} {o e f:Expr} {apos cpos:Pos} {td ty tx:TE}
theorem pe_dget1 (hu:X.A.units+1<cLine) (ho:PE X o td) (he:PE X e ty) (m:M1 X o "get" apos e cpos):PE X (.Call (.Attribute o "get" apos) [e] [] cpos) (tDGet1 td ty):=by
 intro pins s σ H Q I h
 refine wpAny_Call_method m.base m.few m.line PySem.F.plainAttrs_dict PySem.F.slot_dict_get PySem.F.type_dict_get (thn (ho pins s σ H _ I h) fun u s1 hx9=>?_)
 obtain ⟨x,H1,I1,rx,a,ex,d,q1⟩:=hx9
 subst ex
 obtain rfl:u=Value.ref a:=rx
 obtain ⟨t1,t2,_⟩:=isD_at I1 d
 refine ⟨t1,t2,?_⟩
 rw [m.trees]
 refine Calls.callWith_builtin rfl (Calls.evalArgs_plain (Calls.spliced_cons (thn (he pins s1 σ H1 _ I1 q1) fun iv s2 ⟨y,H2,I2,ry,ov,g,q2⟩=>Calls.spliced_nil ?_)))
 exact d_get1 hu I2 g ry fun w' s3 I3 rw'=>⟨_,H2,I3,rw',q2⟩
theorem pe_dget2 (hu:X.A.units+1<cLine) (ho:PE X o td) (he:PE X e ty) (hf:PE X f tx) (m:M2 X o "get" apos e f cpos):PE X (.Call (.Attribute o "get" apos) [e,f] [] cpos) (tDGet2 td ty tx):=by
 intro pins s σ H Q I h
 refine wpAny_Call_method m.base m.few m.line PySem.F.plainAttrs_dict PySem.F.slot_dict_get PySem.F.type_dict_get (thn (ho pins s σ H _ I h) fun u s1 hx9=>?_)
 obtain ⟨x,H1,I1,rx,a,ex,d,q1⟩:=hx9
 subst ex
 obtain rfl:u=Value.ref a:=rx
 obtain ⟨t1,t2,_⟩:=isD_at I1 d
 refine ⟨t1,t2,?_⟩
 rw [m.trees]
 refine Calls.callWith_builtin rfl (Calls.evalArgs_plain (Calls.spliced_cons (thn (he pins s1 σ H1 _ I1 q1) fun iv s2 hx5=>L2.ex2 hx5 fun y H2 I2 ry q2 =>
  Calls.spliced_cons (thn (hf pins s2 σ H2 _ I2 q2) fun fv s3 ⟨z,H3,I3,rz,ov,g,q3⟩=>Calls.spliced_nil ?_))))
 exact d_get2 hu I3 g ry rz fun w' s4 I4 rw'=>⟨_,H3,I4,rw',q3⟩
end
end L2
namespace Att
open PySem PySem.W PySem.Calls PyProof.Rows
theorem ints_of_wellAll {P:Params}:∀ (ns:List Int) (vs:List Value),WellAll P h vs (ns.map WData.int)->IntsAre vs ns:=by
 intro ns
 induction ns with
 | nil =>
  intro vs w
  rw [xco] at w
  cases w
  exact .nil
 | cons n ns ih =>
  intro vs w
  rw [xaq] at w
  cases w with
  | cons a b =>
   cases a
   exact .cons _ _ (ih _ b)
theorem script_of {l:OpenLaw} {n:Nat} (hn:l.most=some n) {P:Params} {h:Heap} {args:List WData} {vals:List Value}
  (hpre:l.row.toRowW.claim.pre args=true) (hwl:WellAll P h vals args) :
  ∃ a vs ns,vals=[Value.ref a]/\args=[WData.list (ns.map WData.int)]/\h.get? a=some { cls:=.type "list",data:=.seq vs.toArray }/\IntsAre vs ns/\ns.length<=n:=by
 have hsh:WShape.hasAll [] args [.list .int]=true:=(pre_splitW hpre).1
 have hc:l.pre.holds [] { args:=args }=true:=(pre_splitW hpre).2
 obtain ⟨d,r,rfl,h1,h2⟩:=hasAllW_cons hsh
 obtain rfl:=hasAllW_nil h2
 obtain ⟨xs,rfl,h3⟩:=hasW_list h1
 obtain ⟨ns,rfl⟩:=items_int h3
 have hlen:ns.length<=n:=by
  unfold OpenLaw.pre at hc
  have h4:(WTm.not (.lt (.lit (.int (n:Int))) (.len (.arg 0)))).holds [] { args:=[.list (ns.map .int)] }=true:=by
   have h4:=(holds_andW hc).1
   rw [hn] at h4
   exact h4
  have h5:=condW_of h4 (w_not (w_lt w_lit (w_len_list (w_arg rfl))))
  rw [xad] at h5
  refine xbH fun q=>?_
  have q':(n:Int)<((ns.length:Nat):Int):=by lia
  first
   | (rw [decide_eq_true q'] at h5; exact absurd h5 (by decide))
   | (simp at h5; lia)
 cases hwl with
 | cons w1 w2 =>
  cases w2
  cases w1 with
  | list ho hall=>exact ⟨_,_,ns,rfl,rfl,ho,ints_of_wellAll ns _ hall,hlen⟩
theorem post_true (l:OpenLaw) (args:List WData):l.row.toRowW.claim.post args (.bool true) args=true :=
 postW_of (r:=l.row.toRowW) (X:=(true == true))
  (show WShape.has [] (.bool true) .bool=true by first | rfl | decide | simp [WShape.has,WShape.arms,WShape.armsAll])
  (show (WTm.eq .res (.lit (.bool true))).value [] { args:=args,res:=some (.bool true),after:=args }=some (.bool (true == true)) from w_eq_bool (w_res rfl) w_lit) rfl
theorem attach_call {l:OpenLaw} {n:Nat} {q:Program} {loose:List Str} {XP:(Str->Option Value)->Heap->Prop} {YP:World->Heap->Prop} {d:DefRec}
  (hn:l.most=some n) (hdf:d.params.defaults=[])
  (call:∀ (w:World) (s₀ s₁:Shared) (mg mb:Str->Option Value) (fa:Addr) (o:Obj) (pm cd doc:Value) (a:Addr) (vs:List Value) (ns:List Int),
   Ground q loose [] XP w s₀ mg mb s₁.heap->YP w s₁.heap ->
   s₁.heap.get? fa=some o->o.data=.func (docDef d.name d.params d.body d.scope pm cd doc)->s₁.heap.CodeRec cd d.name->mg d.name=some (.ref fa) ->
   s₁.heap.get? a=some { cls:=.type "list",data:=.seq vs.toArray }->IntsAre vs ns->ns.length<=n->s₁.gens = #[] ->
   codeAny (model l.prog w) callerA (.call (.ref fa) ⟨[.ref a],[]⟩) (fun r s'=>r=.ok (.ret (.bool true))/\OldK s₁.heap s'.heap/\s'.os=s₁.os/\AllBare s'.gens) s₁) :
  WalkO q loose XP YP l.row.toRowW d [] (fun f vs=>PySem.call f vs):=by
 intro w s₀ s₁ mg mb G Y fa o pm cd doc dV kV ho hd hcd hD hmg hg args vals as hpre hlay hrd hwl hlo
 obtain rfl:dV=.none:=Dflts.none hD hdf
 obtain rfl:kV=.none:=Dflts.noKw hD
 obtain ⟨a,vs,ns,rfl,rfl,hobj,hints,hlen⟩:=script_of hn hpre hwl
 refine enter_call (codeAny_mono (call w s₀ s₁ mg mb fa o pm cd doc a vs ns G Y ho (fd_plain hd) hcd hmg hobj hints hlen hg) fun r s' hq=>?_)
 obtain ⟨rfl,h2,h3,h4⟩:=hq
 exact ⟨.inl ⟨.bool true,.bool true,[],rfl,fun _=>rfl,.bool true,post_true l _,fun _=>⟨List.Pairwise.nil,fun _ hm=>(nomatch hm)⟩⟩,h2,h3,h4⟩
end Att
namespace L2
open PySem PySem.Spec PyProof.Rows
theorem vals_ints:∀ {vs:List Value} {ns:List Int},IntsAre vs ns->Vals (ns.map V.int) vs
 | _,_,.nil=>.nil
 | _,_,.cons n t h=>.cons ⟨t,rfl⟩ (vals_ints h)
def Only (H:Hp):Prop:=∀ b,H b=none\/∃ o xs,H b=some (.frz o (.lst xs))
theorem law_call {P:Program} {K:PySem.W.Frag}
  (KX:K.In s₁.heap) (hns:s₁.heap.Ns mainGlobals mg) (hb:s₁.heap.Ns builtinsNs mb) (hbb:∀ x:Str,x ≠ "__name__"->mb x=bootBuiltins x) (hlim:s₁.heap.NoLimit) (hg:s₁.gens = #[])
  (ha:s₁.heap.get? a=some { cls:=.type "list",data:=.seq vs.toArray }) (hi:IntsAre vs ns) (hl:ns.length<=sizeLine) (hr:Room k callerA)
  (F:∀ base:Heap,K.In base->base.Ns mainGlobals mg->FnOk P w K mg base CX k fa fd [x] sp) (hbind:∀ (s:Shared) (u:Value),BindsTo s fd ⟨[u],[]⟩ [(x,u)])
  (hsp:∀ H:Hp,Only H->SqL K H a (ns.map V.int)->sp [.ref a] H (fun v _=>v=.bl true) fun _ _ _=>False)
  (hCX:∀ H e s',CX [] H s₁ (fun _ _ _=>False) e s'->False) :
  codeAny (model P w) callerA (.call (.ref fa) ⟨[.ref a],[]⟩) (fun r s'=>r=.ok (.ret (.bool true))/\OldK s₁.heap s'.heap/\s'.os=s₁.os/\AllBare s'.gens) s₁:=by
 have rv:=vals_ints hi
 have lenV:=hi.length
 -- from an abstract heap in which nothing but the script may be tracked
 have core:∀ H:Hp,Only H->SqL K H a (ns.map V.int)->HOk P w H s₁.heap->(∀ b,H b≠none->b=a)->(H a≠none->K.lookup a=none) ->
   codeAny (model P w) callerA (.call (.ref fa) ⟨[.ref a],[]⟩) (fun r s'=>r=.ok (.ret (.bool true))/\OldK s₁.heap s'.heap/\s'.os=s₁.os/\AllBare s'.gens) s₁:=by
  intro H hO hS hok hA hK
  have base_of:∀ {b:Addr} {o:Obj},s₁.heap.get? b=some o->H b=none->(hidT s₁.heap H).get? b=some o:=fun e n=>hidT_get e n
  have noA:∀ {b:Addr} {o:Obj} {es:Array DictEntry} {ep:Nat},s₁.heap.get? b=some o->o.data=.dict es ep->H b=none:=fun {b o es ep} e d=>by
   cases q:H b with
   | none=>rfl
   | some u =>
    have e':b=a:=hA b (by rw [q]; simp)
    subst e'
    rw [ha] at e; cases e
    have d':Data.seq vs.toArray _=Data.dict es ep:=d
    cases d'
  have nsK:∀ {b:Addr} {m:Str->Option Value},s₁.heap.Ns b m->(hidT s₁.heap H).Ns b m:=fun {b m} ⟨o,es,ep,e,d,r⟩=>⟨o,es,ep,base_of e (noA e d),d,r⟩
  have hKb:K.In (hidT s₁.heap H):=fun b o e=>base_of (KX b o e) (by
   cases q:H b with
   | none=>rfl
   | some u =>
    have e':b=a:=hA b (by rw [q]; simp)
    subst e'
    rw [hK (by rw [q]; simp)] at e; cases e)
  have hM:Mod K mg (hidT s₁.heap H):=⟨hKb,nsK hns,⟨mb,nsK hb,hbb⟩,let ⟨mc,h1,h2⟩:=hlim; ⟨mc,nsK h1,h2⟩⟩
  have e0:Env0 P w K mg (hidT s₁.heap H) callerA [] s₁ H:=⟨rfl,hM,fun b o e=>of_hidT e,xcp (hidT_size _ _),trivial,fun b hb=>absurd (show b∈([]:List Addr) from hb) (by simp),hok,.of_eq hg⟩
  refine codeAny_mono ((F _ hKb (nsK hns)).run callerA [] s₁ H ⟨[.ref a],[]⟩ [.ref a] [.ref a] _ _ hr e0 (hbind s₁ (.ref a)) (.cons rfl .nil) (hsp H hO hS)) fun r s' h=>?_
  cases r with
  | error e=>exact (hCX H e s' h).elim
  | ok fl =>
   cases fl with
   | next=>exact False.elim h
   | brk=>exact False.elim h
   | cont=>exact False.elim h
   | ret u =>
    obtain ⟨v,H',os,bare,un,hok',r',q⟩:=h
    have q':v=.bl true:=q
    subst q'
    obtain rfl:u=Value.bool true:=r'
    refine ⟨rfl,OldK.of_keep fun b o e=>?_,os,bare⟩
    cases q:H b with
    | none=>exact un.keep b o e q (by intro z; exact absurd (show b∈([]:List Addr) from z) (by simp)) (by simp)
    | some u =>
     rcases hO b with z | ⟨ob,xs,z⟩
     ·rw [q] at z; cases z
     ·have z2:=un.frzs b ob _ z
      obtain ⟨e1,_⟩:=hok b _ z
      obtain ⟨e2,_⟩:=hok' b _ z2
      rw [e] at e1; cases e1
      exact e2
 cases hk:K.lookup a with
 | some o =>
  -- the script is one of the module's own objects
  have e:=KX a o hk
  rw [ha] at e
  cases e
  refine core (fun _=>none) (fun _=>.inl rfl) (.inr ⟨_,vs.toArray,_,hk,rfl,rfl,rfl,by rw [xav,lenV]; exact hl,by simpa using rv⟩) (fun b u z=>by have z':(none:Option HO)=some u:=z; cases z') (fun b z=>absurd rfl z) fun z=>absurd rfl z
 | none =>
  refine core (fun b=>if b=a then some (.frz { cls:=.type "list",data:=.seq vs.toArray } (.lst (ns.map V.int))) else none) (fun b=>?_) (.inl (.inr ⟨{ cls:=.type "list",data:=.seq vs.toArray },if_pos rfl⟩)) (fun b u z=>?_) (fun b z=>?_) fun _=>hk
  ·by_cases hb:b=a
   ·exact .inr ⟨_,_,if_pos hb⟩
   ·exact .inl (if_neg hb)
  ·by_cases hb:b=a
   ·have z':=(if_pos hb).symm.trans z
    cases z'
    subst hb
    exact ⟨ha,by rw [xad]; exact hl,vs,_,rv,ha⟩
   ·have z':=(if_neg hb).symm.trans z
    cases z'
  ·by_cases hb:b=a
   ·exact hb
   ·exact absurd (if_neg hb) z
theorem walk_of {l:PySem.W.OpenLaw} {n k:Nat} {q:Program} {loose:List Str} {XP:(Str->Option Value)->Heap->Prop} {YP:World->Heap->Prop} {d:DefRec} {K:Params->PySem.W.Frag} {CX:World->CXT} {sp:World->Sp} {x:Str}
  (hn:l.most=some n) (hn2:n<=sizeLine) (hdf:d.params.defaults=[]) (hr:Room k callerA)
  (hY:∀ (w:World) (h:Heap),YP w h->(K w.params).In h)
  (F:∀ (w:World) (mg:Str->Option Value) (fa:Addr) (h:Heap),(K w.params).In h->h.Ns mainGlobals mg->mg d.name=some (.ref fa) ->
   ∃ fd:FuncData,(∀ (s:Shared) (u:Value),BindsTo s fd ⟨[u],[]⟩ [(x,u)]) /\
    ∀ base:Heap,(K w.params).In base->base.Ns mainGlobals mg->FnOk l.prog w (K w.params) mg base (CX w) k fa fd [x] (sp w))
  (hsp:∀ (w:World) (H:Hp) (a:Addr) (ns:List Int),ns.length<=n->Only H->SqL (K w.params) H a (ns.map V.int)->sp w [.ref a] H (fun v _=>v=.bl true) fun _ _ _=>False)
  (hCX:∀ (w:World) (H:Hp) (s:Shared) (e:Value) (s':Shared),CX w [] H s (fun _ _ _=>False) e s'->False) :
  PySem.W.WalkO q loose XP YP l.row.toRowW d [] (fun f vs=>PySem.call f vs):=by
 refine Att.attach_call hn hdf fun w s₀ s₁ mg mb fa o pm cd doc a vs ns G Y ho hd hcd hmg hobj hints hlen hg=>?_
 have KX:=hY w _ Y
 obtain ⟨fd,hb,hF⟩:=F w mg fa _ KX G.T.g hmg
 exact law_call KX G.T.g G.T.b G.T.builtins G.T.nolimit hg hobj hints (xaz hlen hn2) hr hF hb (fun H hO hS=>hsp w H a ns hlen hO hS) fun H e s'=>hCX w H s₁ e s'
def defArgs (s:Stmt):Arguments:=match s with
 | .FunctionDef _ a _ _ _ _ _ _ _ _=>a
 | _=>{ posonlyargs:=[],args:=[],vararg:=none,kwonlyargs:=[],kw_defaults:=[],kwarg:=none,defaults:=[] }
def defBody (s:Stmt):List Stmt:=match s with
 | .FunctionDef _ _ b _ _ _ _ _ _ _=>b
 | _=>[]
def defScope (s:Stmt):Scope:=match s with
 | .FunctionDef _ _ _ _ _ _ sc _ _ _=>sc
 | _=>{ kind:=.function,names:=[],isGenerator:=false,isCoroutine:=false }
abbrev CX0:CXT:=fun _ _ _ _ _ _=>False
abbrev E0:XK:=fun _ _ _=>False
theorem pass0 {X:Cx}:Passes CX0 X E0:=fun _ _ _ _ _ _ _ h=>h.elim
structure Fun (K:PySem.W.Frag) (x qual:Str) (st:Stmt) (f:Addr) (fd:FuncData):Prop where
 ex:∃ (oc:Value) (od:Option Addr) (kV doc pm:Value) (an:Option Addr) (cdv ct:Value) (osl:Array (Option Value)),
  fd=PySem.W.fnOf x qual (defArgs st) (defBody st) (defScope st) .none kV doc pm an cdv ct/\K.lookup f=some ⟨oc,od,.func fd,osl⟩/\PySem.W.codeIn K cdv qual=true
 kp:PySem.W.keepIn K (.ref f)=true
section
variable {P:Program} {w:World} {K:PySem.W.Frag} {mg:Str->Option Value} {base:Heap}
theorem Fun.ok {st:Stmt} {N ps:List Str} (F:Fun K x qual st f fd) (S:FnScope N ps (defScope st)) (len:∀ vs H Q E,sp vs H Q E->vs.length=ps.length)
  (hbody:∀ (cdv:Value) (A:Around) (outer:List Env) (s:Shared) (H:Hp) (vs:List V) (Q:VK) (E:XK),Room k (A.deeper (envOfC qual (defScope st) s.heap.objs.size f cdv))->sp vs H Q E ->
   ∃ t,PSs (cxOf CX0 P w K mg base N qual (defScope st) f cdv A outer s H E).nox (defBody st) t/\t { nx:=fun _ H'=>Q .non H',rt:=Q } (start N vs) H):FnOk P w K mg base CX0 (k+1) f fd ps sp:=by
 obtain ⟨oc,od,kV,doc,pm,an,cdv,ct,osl,rfl,lk,hcd⟩:=F.ex
 refine fn_of lk hcd S len fun A outer s H vs Q E hr hsp=>?_
 obtain ⟨t,h,q⟩:=hbody cdv A outer s H vs Q E hr hsp
 exact ⟨t,h.nox,q⟩
theorem Fun.binds {st:Stmt} {ps:List Str} (F:Fun K x qual st f fd)
  (h:∀ (kV doc pm:Value) (an:Option Addr) (cdv ct:Value) (us:List Value),us.length=ps.length->bindArgs (PySem.W.fnOf x qual (defArgs st) (defBody st) (defScope st) .none kV doc pm an cdv ct) ⟨us,[]⟩=pure (ps.zip us)):Binds K fd ps []:=by
 obtain ⟨oc,od,kV,doc,pm,an,cdv,ct,osl,rfl,lk,hcd⟩:=F.ex
 exact .all (h kV doc pm an cdv ct)
theorem fun_mk {st:Stmt} {kV doc pm cdv ct:Value} (l:K.lookup f=some ⟨oc,od,.func (PySem.W.fnOf x qual (defArgs st) (defBody st) (defScope st) .none kV doc pm an cdv ct),osl⟩)
  (c:PySem.W.codeIn K cdv qual=true) (k:PySem.W.keepIn K (.ref f)=true):Fun K x qual st f (PySem.W.fnOf x qual (defArgs st) (defBody st) (defScope st) .none kV doc pm an cdv ct):=⟨⟨oc,od,kV,doc,pm,an,cdv,ct,osl,rfl,l,c⟩,k⟩
end
section
variable {X:Cx}
theorem pv (i:Nat) (hN:X.N[i]? = some x:=by rfl) (hv:Vis X.env.scope x:=by first | exact Or.inl rfl | exact Or.inr (Or.inl rfl) | exact Or.inr (Or.inr rfl)) (hd:(x == ("__debug__" : Str))=false:=by decide)
  (hcd:(x == ("__classdict__" : Str))=false:=by decide):PE X (.Name x pos) (tVar i):=pe_var hN hv hd hcd
end
def Same (H H':Hp):Prop:=∀ b o,H b=some o->H' b=some o
theorem Same.refl (H:Hp):Same H H:=fun _ _ h=>h
theorem Same.trans (a:Same H H1) (b:Same H1 H2):Same H H2:=fun c o h=>b c o (a c o h)
theorem Same.free (e:Same H H') (h:H' l=Option.none):H l=Option.none:=by
 cases q:H l with
 | none=>rfl
 | some o =>
  rw [e l o q] at h
  cases h
theorem Same.seq {K:PySem.W.Frag} (e:Same H H') (h:SqL K H a xs):SqL K H' a xs:=by
 rcases h with (h | ⟨o,h⟩) | h
 ·exact .inl (.inl (e _ _ h))
 ·exact .inl (.inr ⟨o,e _ _ h⟩)
 ·exact .inr h
end L2
set_option maxHeartbeats 4000000
namespace L2
open PySem PySem.Spec PyProof.Rows
def clOf (env:Env):List (Str × NameKind)->List (Str × Addr)->List (Str × Addr)
 | [],cs=>cs
 | (n,k) :: r,cs=>clOf env r (if k == NameKind.free then (n,(env.cells.lookup n).getD 0) :: cs else cs)
theorem gY (env:Env):∀ (names:List (Str × NameKind)) (cs:List (Str × Addr)),(∀ y∈names,y.2=.free->∃ c,env.cells.lookup y.1=some c) ->
  (forIn names cs fun x r=>match x with
   | (name,kind)=>if (kind == NameKind.free)=true then do let a <- cellOf env name; pure (ForInStep.yield ((name,a) :: r)) else pure (ForInStep.yield r):Sem (List (Str × Addr)))=pure (clOf env names cs)
 | [],cs,_=>rfl
 | (n,k) :: r,cs,h=>by
  rw [List.forIn_cons]
  have ih:=gY env r
  by_cases hk:k=.free
  ·subst hk
   obtain ⟨c,e⟩:=h (n,.free) xac rfl
   have e:env.cells.lookup n=some c:=e
   have e2:cellOf env n=pure c:=by unfold cellOf; rw [e]
   have e3:clOf env ((n,.free) :: r) cs=clOf env r ((n,c) :: cs):=by
    show clOf env r (if (NameKind.free == NameKind.free)=true then (n,(env.cells.lookup n).getD 0) :: cs else cs)=_
    rw [e]; rfl
   rw [e3,<- ih ((n,c) :: cs) fun y hy=>h y (xab _ hy)]
   simp only [beq_self_eq_true,if_true,e2]
   rfl
  ·have hb:(k == NameKind.free)=false:=by simpa using hk
   have e3:clOf env ((n,k) :: r) cs=clOf env r cs:=by
    show clOf env r (if (k == NameKind.free)=true then _ else cs)=_
    rw [hb]; rfl
   rw [e3,<- ih cs fun y hy=>h y (xab _ hy)]
   simp only [hb,xat,if_false]
   rfl
theorem oX (h:∀ y∈scope.names,y.2=.free->∃ c,env.cells.lookup y.1=some c):closureFor scope env=pure (clOf env scope.names []):=by
 have:=gY env scope.names [] h
 unfold closureFor
 rw [<- bind_pure (forIn scope.names [] _)] at this
 exact this
theorem n8:∀ {names:List (Str × NameKind)} {cs:List (Str × Addr)},(∀ y∈names,y.2=.free->∃ c,env.cells.lookup y.1=some c)->(∀ y d,cs.lookup y=some d->env.cells.lookup y=some d) ->
  (clOf env names cs).lookup x=some c->env.cells.lookup x=some c
 | [],cs,_,h,e=>h x c e
 | (n,k) :: r,cs,hf,h,e=>by
  refine n8 (names:=r) (fun y hy=>hf y (xab _ hy)) ?_ e
  intro y d hd
  by_cases hk:k=.free
  ·subst hk
   obtain ⟨c',e'⟩:=hf (n,.free) xac rfl
   have e':env.cells.lookup n=some c':=e'
   simp only [beq_self_eq_true,if_true,e',Option.getD_some,xaV] at hd
   cases hb:y == n with
   | true=>rw [hb] at hd; have:y=n:=eq_of_beq hb; subst this; rw [e']; exact hd
   | false=>rw [hb] at hd; exact h y d hd
  ·have hb:(k == NameKind.free)=false:=by simpa using hk
   simp only [hb,xat,if_false] at hd
   exact h y d hd
theorem jn:∀ {names:List (Str × NameKind)} {cs:List (Str × Addr)},((x,NameKind.free)∈names\/∃ c,cs.lookup x=some c)->∃ c,(clOf env names cs).lookup x=some c
 | [],cs,h=>by
  rcases h with h | h
  ·exact nomatch h
  ·exact h
 | (n,k) :: r,cs,h=>by
  refine jn (names:=r) ?_
  rcases h with h | ⟨c,h⟩
  ·rcases xak.mp h with e | h
   ·cases e
    refine .inr ⟨(env.cells.lookup x).getD 0,?_⟩
    simp only [beq_self_eq_true,if_true,xaV]
   ·exact .inl h
  ·refine .inr ?_
   by_cases hk:(k == NameKind.free)=true
   ·simp only [hk,if_true,xaV]
    cases hb:x == n with
    | true=>exact ⟨_,rfl⟩
    | false=>exact ⟨c,h⟩
   ·simp only [hk,if_false]
    exact ⟨c,h⟩
def cN (X:Cx) (scope:Scope) (C:Addr) (N:List Str) (fp:List Addr) (s₃:Shared) (H₃:Hp):Cx :=
 { X with N:=N,s₀:=s₃,H₀:=H₃,env:=compEnvC scope (clOf X.env scope.names []) C X.env,outer:=X.stack,stack:=X.stack,ex:=fp,fn:=fun _=>false,pn:=[],xe:=fun _ _=>False }
def PTs (X:Cx) (ifs:List Expr) (t:TT):Prop :=
 ∀ (pins:List (Addr × Obj)) (s:Shared) (σ:St) (H:Hp) (Q:Bool->Hp->Prop),Inv X pins σ H s->t σ H Q ->
  wpAny (model X.prog X.w) X.A (forIn ifs true fun c r=>if r=true then do let ok <- isTrue c X.env (eval c X.env); pure (ForInStep.yield ok) else pure (ForInStep.yield r)) (TP X pins σ Q) X.xe s
def tYes:TT:=fun _ H Q=>Q true H
theorem z8 {X:Cx}:PTs X [] tYes:=fun _ _ _ H _ I h=>wpAny_tests_nil ⟨H,I,h⟩
theorem BR {X:Cx} (h:PT X c t):PTs X [c] t:=fun pins s σ H Q I hw=>wpAny_tests_one (h pins s σ H Q I hw)
theorem gk {R:Result->Shared->Prop} (I:Nat->Shared->Prop) (E:Value->Shared->Prop)
  (turn:∀ n s,I n s->wpAny (model prog w) A (pyNext it) (fun r s₁=>match r with
   | none=>R (.ok .next) s₁
   | some v=>wpAny (model prog w) A (letOwnedTupleGo target it v) (fun _ s₀=>wpAny (model prog w) A (assign target env v) (fun _ s₂ =>
     wpAny (model prog w) A (forIn ifs true fun c r=>if r=true then do let ok <- isTrue c env (eval c env); pure (ForInStep.yield ok) else pure (ForInStep.yield r)) (fun ok s₃ =>
      if ok=true then wpAny (model prog w) A (eval elt env) (fun x s₄ =>
       wpAny (model prog w) A (call (.builtin "list.append") [acc,x]) (fun _ s₅=>∃ m,m<n/\I m s₅) E s₄) E s₃
      else ∃ m,m<n/\I m s₃) E s₂) E s₀) E s₁) E s)
  (hE:∀ e s',E e s'->notedBy (model prog w) A env (fun e s'=>R (.error e) s') e s')
  (n:Nat) (h:I n s) :
  codeAny (model prog w) A (.compLoop (.ListComp elt [⟨target,iter,ifs,0⟩] scope pos) 0 it acc env) R s:=by
 refine codeAny_loop rfl I (fun n s hI=>?_) n h
 show wpAny _ A ((compTurn (.ListComp elt [⟨target,iter,ifs,0⟩] scope pos) 0 it acc env).onRaise (fun x=>do noteFrame x env; theTreesLotGoes x)) _ _ s
 refine wpAny_noted ?_
 rw [compTurn_list]
 refine xaM (Q:=_) (E:=E) ?_ (fun _ _ q=>q) hE
 refine xaa (wpAny_standAt (xaa (xaM (turn n s hI) (fun r s₁ h₁=>?_) fun _ _ h'=>h')))
 cases r with
 | none=>exact xae h₁
 | some v =>
  refine xaa (xaM h₁ (fun _ s₀ h₀=>?_) fun _ _ h'=>h')
  refine xaa (xaM h₀ (fun _ s₂ h₂=>xaa (xaM h₂ (fun ok s₃ h₃=>?_) fun _ _ h'=>h')) fun _ _ h'=>h')
  cases ok with
  | false=>exact xae ⟨rfl,h₃⟩
  | true =>
   exact xaa (xaa (xaM h₃ (fun x s₄ h₄=>xaa (xaM h₄ (fun _ s₅ h₅=>xae (xae ⟨rfl,h₅⟩)) fun _ _ h'=>h')) fun _ _ h'=>h'))
def oK (tn:Nat) (ix:List Nat) (σ:St):St:=List.replicate tn none++ix.map fun j=>(σ[j]?).join
def qW (wi:TI) (g:TG) (tc:TT) (te:TE) (tn:Nat) (ix:List Nat):TE:=fun σ H Q=>wi σ H fun J H1=>∀ D,H1 D=none ->
 ∃ W:Nat->Nat->St->Hp->Prop,(∃ m,W 0 m (oK tn ix σ) (upd H1 D (.lst [])))/\∀ i m τ H,W i m τ H ->
  (J.stop i H/\Q (.ref D) H)\/(J.go i H/\∃ (N1:St->V->Hp->Prop) (N2:St->Hp->Prop),
   (∀ τ2 v H4,N1 τ2 v H4->∃ ys m',H4 D=some (.lst ys)/\ys.length<sizeLine/\m'<m/\W (i+1) m' τ2 (upd H4 D (.lst (ys++[v])))) /\
   (∀ τ2 H3,N2 τ2 H3->∃ m',m'<m/\W (i+1) m' τ2 H3) /\
   ∀ x H',J.yld i H x H'->g x τ H' fun τ2 H2=>tc τ2 H2 fun b H3=>if b=true then te τ2 H3 (N1 τ2) else N2 τ2 H3)
section
variable {X:Cx} {scope:Scope} {tn cn:List Str} {ix:List Nat}
structure cg (X:Cx) (scope:Scope) (tn cn:List Str) (ix:List Nat):Prop where
 kind:scope.kind=.function
 nocell:∀ y∈scope.names,y.2≠.cell
 free:∀ y∈scope.names,y.2=.free->X.env.scope.names.lookup y.1=some .cell\/X.env.scope.names.lookup y.1=some .free
 names:∀ y∈scope.names,y.2=.local->scope.names.lookup y.1=some .local
 len:ix.length=cn.length
 cap:∀ (k j:Nat),ix[k]? = some j->∃ y,cn[k]? = some y/\X.N[j]? = some y/\(X.env.scope.names.lookup y=some .cell\/X.env.scope.names.lookup y=some .free)/\(y,NameKind.free)∈scope.names /\
  ((relabel scope X.env).names.lookup y=some .cell\/(relabel scope X.env).names.lookup y=some .free)
 all:∀ x,(relabel scope X.env).names.lookup x=some .cell\/(relabel scope X.env).names.lookup x=some .free->(x,NameKind.free)∈scope.names
end
def ceOf (scope:Scope) (env:Env) (C:Addr):List (Str × Addr):=cellsFrom (C+1) scope.names (clOf env scope.names [])
theorem uP:∀ (names:List (Str × NameKind)) (n:Nat) (acc:List (Str × Addr)),(∀ y c,acc.lookup y=some c->c<n)->(∀ x y c,acc.lookup x=some c->acc.lookup y=some c->x=y) ->
  ∀ x y c,(cellsFrom n names acc).lookup x=some c->(cellsFrom n names acc).lookup y=some c->x=y
 | [],_,_,_,hi,x,y,c,h1,h2=>hi x y c h1 h2
 | (nm,k) :: r,n,acc,hb,hi,x,y,c,h1,h2=>by
  unfold cellsFrom at h1 h2
  split at h1
  ·rename_i hk
   rw [if_pos hk] at h2
   refine uP r (n+1) ((nm,n) :: acc) (fun y c e=>?_) (fun x y c e1 e2=>?_) x y c h1 h2
   ·rw [xaV] at e
    cases hq:y == nm with
    | true=>rw [hq] at e; cases e; exact Nat.lt_succ_self _
    | false=>rw [hq] at e; exact xaZ (hb y c e)
   ·rw [xaV] at e1 e2
    cases hq:x == nm with
    | true =>
     rw [hq] at e1; cases e1
     cases hz:y == nm with
     | true=>rw [eq_of_beq hq,eq_of_beq hz]
     | false=>rw [hz] at e2; exact absurd (hb y _ e2) (xaO _)
    | false =>
     rw [hq] at e1
     cases hz:y == nm with
     | true=>rw [hz] at e2; cases e2; exact absurd (hb x _ e1) (xaO _)
     | false=>rw [hz] at e2; exact hi x y c e1 e2
  ·rename_i hk
   rw [if_neg hk] at h2
   exact uP r n acc hb hi x y c h1 h2
theorem sG:∀ (names:List (Str × NameKind)) (n:Nat) (acc:List (Str × Addr)) (x:Str),(x,NameKind.cell)∉names->(cellsFrom n names acc).lookup x=acc.lookup x
 | [],_,_,_,_=>rfl
 | (nm,k) :: r,n,acc,x,h=>by
  unfold cellsFrom
  have hr:(x,NameKind.cell)∉r:=fun z=>h (xab _ z)
  split
  ·rename_i hk
   rw [sG r _ _ x hr,xaV]
   have:(x == nm)=false:=by
    cases hq:x == nm with
    | false=>rfl
    | true=>exact absurd (by rw [eq_of_beq hq,<- eq_of_beq hk]; exact xac) h
   rw [this]
  ·exact sG r n acc x hr
theorem xJ:∀ (names:List (Str × NameKind)) (n:Nat) (acc:List (Str × Addr)) (x:Str) (c:Addr),(cellsFrom n names acc).lookup x=some c->n<=c\/acc.lookup x=some c
 | [],_,_,_,_,h=>.inr h
 | (nm,k) :: r,n,acc,x,c,h=>by
  unfold cellsFrom at h
  split at h
  ·rcases xJ r (n+1) _ x c h with z | z
   ·exact .inl (by lia)
   ·rw [xaV] at z
    cases hq:x == nm with
    | true=>rw [hq] at z; cases z; exact .inl (xah _)
    | false=>rw [hq] at z; exact .inr z
  ·exact xJ r n acc x c h
theorem rJ:∀ (names:List (Str × NameKind)) (n:Nat) (acc:List (Str × Addr)) (x:Str),(∃ c,acc.lookup x=some c)->∃ c,(cellsFrom n names acc).lookup x=some c
 | [],_,_,_,h=>h
 | (nm,k) :: r,n,acc,x,⟨c,h⟩=>by
  unfold cellsFrom
  split
  ·refine rJ r (n+1) _ x ?_
   rw [xaV]
   cases hq:x == nm with
   | true=>exact ⟨_,rfl⟩
   | false=>exact ⟨c,h⟩
  ·exact rJ r n acc x ⟨c,h⟩
theorem tW:∀ (names:List (Str × NameKind)) (n:Nat) (acc:List (Str × Addr)) (x:Str),(x,NameKind.cell)∈names->∃ c,(cellsFrom n names acc).lookup x=some c/\n<=c
 | [],_,_,_,h=>nomatch h
 | (nm,k) :: r,n,acc,x,h=>by
  unfold cellsFrom
  by_cases hr:(x,NameKind.cell)∈r
  ·split
   ·obtain ⟨c,e,z⟩:=tW r (n+1) ((nm,n) :: acc) x hr
    exact ⟨c,e,by lia⟩
   ·exact tW r n acc x hr
  ·rcases xak.mp h with e | z
   ·cases e
    rw [if_pos (by rfl),sG r _ _ _ hr]
    exact ⟨n,by simp [xaV],xah _⟩
   ·exact absurd z hr
theorem jZ:∀ (names:List (Str × NameKind)) (h:Heap) (acc:List (Str × Addr)),(∀ x c,acc.lookup x=some c->∃ v,h.IsCell c v)->∀ x c,(cellsFrom h.objs.size names acc).lookup x=some c->∃ v,(pushCells h names).IsCell c v
 | [],_,_,hc,x,c,e=>hc x c e
 | (nm,k) :: r,h,acc,hc,x,c,e=>by
  unfold pushCells
  unfold cellsFrom at e
  split at e
  ·rename_i hk
   rw [if_pos hk]
   refine jZ r (h.push { cls:=.type "cell",data:=.cell none }) ((nm,h.objs.size) :: acc) (fun y d z=>?_) x c (by rw [xce]; exact e)
   rw [xaV] at z
   cases hq:y == nm with
   | true=>rw [hq] at z; cases z; exact ⟨none,_,xaI _ rfl,rfl⟩
   | false =>
    rw [hq] at z
    obtain ⟨v,o,ho,hd⟩:=hc y d z
    exact ⟨v,o,xau _ ho,hd⟩
  ·rename_i hk
   rw [if_neg hk]
   exact jZ r h acc hc x c e
theorem dB
  (hc:∀ x c,cl.lookup x=some c->∃ v,s.heap.IsCell c v)
  (hQ:∀ h',h'.Ns s.heap.objs.size (fun _=>none)->(∀ b o,s.heap.get? b=some o->h'.get? b=some o)->(∀ x c,(cellsFrom (s.heap.objs.size+1) scope.names cl).lookup x=some c->∃ v,h'.IsCell c v) ->
   Q (newEnv scope s.heap.objs.size globals (cellsFrom (s.heap.objs.size+1) scope.names cl) qual none .none (some env) builtinsNs) { s with heap:=h' }) :
  wpAny M A (newFunctionEnv scope globals cl [] qual none .none (some env)) Q E s:=by
 simp only [newFunctionEnv,Option.isSome_some,if_true]
 refine xaa (wpAny_alloc ?_)
 refine xaa (wpAny_layCells _ (fun name kind cells=>by cases hkc:kind == NameKind.cell <;> simp [hkc]) _ _ _ _ ?_)
 rw [show ({ s with heap:=s.heap.push { cls:=.type "dict",data:=.dict #[] } }:Shared).heap.objs.size=s.heap.objs.size+1 from xce ..]
 refine xaa ?_
 rw [List.forIn_nil]
 refine xae (xae (hQ _ ((Heap.Ns.new s.heap (.type "dict")).keeps (pushCells_keeps _ _)) (fun b o e=>pushCells_keeps _ _ b o (xau _ e)) fun x c e=>?_))
 refine jZ scope.names (s.heap.push { cls:=.type "dict",data:=.dict #[] }) cl (fun y d z=>?_) x c (by rw [xce]; exact e)
 obtain ⟨v,o,ho,hd⟩:=hc y d z
 exact ⟨v,o,xau _ ho,hd⟩
def aP (X:Cx) (scope:Scope) (C:Addr) (N:List Str) (fp:List Addr) (s₃:Shared) (H₃:Hp):Cx :=
 { X with N:=N,s₀:=s₃,H₀:=H₃,env:=compEnvC scope (ceOf scope X.env C) C X.env,outer:=X.stack,stack:=X.stack,ex:=fp,fn:=fun x=>scope.names.lookup x == some .cell,pn:=[],xe:=fun _ _=>False }
section
variable {X:Cx} {tg iter elt:Expr} {ifs:List Expr} {scope:Scope} {pos:Pos} {wi:TI} {g:TG} {tc:TT} {te:TE} {tn cn:List Str} {ix:List Nat}
structure fC (X:Cx) (scope:Scope) (tn cn:List Str) (ix:List Nat):Prop where
 kind:scope.kind=.function
 free:∀ y∈scope.names,y.2=.free->X.env.scope.names.lookup y.1=some .cell\/X.env.scope.names.lookup y.1=some .free
 names:∀ y∈scope.names,y.2=.local->scope.names.lookup y.1=some .local
 len:ix.length=cn.length
 cap:∀ (k j:Nat),ix[k]? = some j->∃ y,cn[k]? = some y/\X.N[j]? = some y/\(X.env.scope.names.lookup y=some .cell\/X.env.scope.names.lookup y=some .free)/\(y,NameKind.free)∈scope.names /\
  ((relabel scope X.env).names.lookup y=some .cell\/(relabel scope X.env).names.lookup y=some .free)/\(y,NameKind.cell)∉scope.names
 all:∀ x,(relabel scope X.env).names.lookup x=some .cell\/(relabel scope X.env).names.lookup x=some .free->(x,NameKind.free)∈scope.names\/(x,NameKind.cell)∈scope.names
theorem uA (O:fC X scope tn cn ix) (I:Inv X pins σ H s) (hf:∀ b∈fp,FpOk X pins H b) (hfs:∀ b∈fp,b<s.heap.objs.size) (hC:s.heap.objs.size<=C) :
  (aP X scope C (tn++cn) fp s H).Ok:=by
 have hcl:∀ y∈scope.names,y.2=.free->∃ c,X.env.cells.lookup y.1=some c:=fun y hy hk=>I.ok.has y.1 (O.free y hy hk)
 have sub:∀ x c,(clOf X.env scope.names []).lookup x=some c->X.env.cells.lookup x=some c:=fun x c e=>n8 hcl (fun y d h=>by simp at h) e
 have clt:∀ x c,(clOf X.env scope.names []).lookup x=some c->c<C+1:=fun x c e=>by
  obtain ⟨v,hv⟩:=I.cell x c (sub x c e)
  exact xaZ (xal hv.lt hC)
 refine ⟨I.ok.mod,O.kind,I.ok.glob,I.ok.blt,hC,uP _ _ _ clt fun x y c h1 h2=>I.ok.inj x y c (sub x c h1) (sub y c h2),fun x hx=>?_,fun x c h e=>?_,I.ok.hd,I.ok.frames,.inl rfl,fun b hb=>⟨?_,fun x c e=>?_⟩,
  I.bs,xaz I.ok.bsz I.sz,fun b o e hb=>?_,fun b hb=>?_,I.stack,I.stkFree⟩
 ·rcases O.all x hx with z | z
  ·exact rJ _ _ _ _ (jn (.inl z))
  ·obtain ⟨c,e,_⟩:=tW scope.names (C+1) (clOf X.env scope.names []) x z
   exact ⟨c,e⟩
 ·have h:scope.names.lookup x=some .cell:=eq_of_beq h
  obtain ⟨c',e',z⟩:=tW scope.names (C+1) (clOf X.env scope.names []) x (PySem.mem_of_lookup h)
  have e:(ceOf scope X.env C).lookup x=some c:=e
  unfold ceOf at e
  rw [e'] at e
  cases e
  exact xaz hC (xbS z)
 ·exact xaA (xal (hfs b hb) hC)
 ·rcases xJ _ _ _ _ _ e with z | z
  ·exact Nat.ne_of_gt (xal (hfs b hb) (xaz hC (xbS z)))
  ·exact (hf b hb).2.2.2.2.1 x c (sub x c z)
 ·rcases (hf b hb).2.2.2.1 with z | z
  ·exact I.ok.noex b o e z
  ·exact absurd (xal (xao e) (xaz I.ok.bsz z)) (xaO _)
 ·intro hz
  rcases xak.mp (I.stkSub b hz) with e | e
  ·exact (hf b hb).2.1 e
  ·exact (hf b hb).2.2.1 e
theorem qe {P:Value->Shared->Prop} (hc:X.calm=true) (hi:PI X tg iter wi) (O:fC X scope tn cn ix)
  (hg:∀ C fp s₃ H₃,PG (aP X scope C (tn++cn) fp s₃ H₃) tg g) (hcs:∀ C fp s₃ H₃,PTs (aP X scope C (tn++cn) fp s₃ H₃) ifs tc) (he:∀ C fp s₃ H₃,PE (aP X scope C (tn++cn) fp s₃ H₃) elt te)
  (hs:∀ x,foldedSetIterable iter X.env x=pure x) (I:Inv X pins σ H s) (h:qW wi g tc te tn.length ix σ H Q)
  (fin:∀ (C D:Addr) (m:Str->Option Value) (H5:Hp) (s6:Shared) (r:Flow),Inv X pins σ H5 s6->s6.heap.Ns C m->H5 C=none->FpOk X pins H5 C->Q (.ref D) H5->compPost (model X.prog X.w) X.A X.xe use P (.ref D) C (.ok r) s6) :
  wpAny (model X.prog X.w) X.A (comprehension (.ListComp elt [⟨tg,iter,ifs,0⟩] scope pos) scope X.env pos1 (newList []) false (eval iter X.env) use) P X.xe s:=by
 have hcl:∀ y∈scope.names,y.2=.free->∃ c,X.env.cells.lookup y.1=some c:=fun y hy hk=>I.ok.has y.1 (O.free y hy hk)
 have sub:∀ x c,(clOf X.env scope.names []).lookup x=some c->X.env.cells.lookup x=some c:=fun x c e=>n8 hcl (fun y d h=>by simp at h) e
 refine wpAny_comprehension_free (use:=use) rfl hs (oX hcl) O.kind O.names (thn (hi pins s σ H _ I h) fun v s1 h1=>thn h1 fun itv s2 h2=>?_)
 obtain ⟨it,fp,tnn,J,H2,e,I2,T,st2,f2,h2⟩:=h2
 subst e
 obtain ⟨W,⟨m0,w0⟩,turn⟩:=h2 s2.heap.objs.size (I2.hok.fresh (xah _))
 refine wpAny_newObj_type ?_
 have I3:Inv X pins σ (upd H2 s2.heap.objs.size (.lst [])) { s2 with heap:=s2.heap.push { cls:=.type "list",data:=.seq ([]:List Value).toArray } }:=I2.lnew (its:=[]) (t':=s2.toks) .nil (xar _)
 generalize hD:s2.heap.objs.size=D at *
 generalize hs3:({ s2 with heap:=s2.heap.push { cls:=.type "list",data:=.seq ([]:List Value).toArray } }:Shared)=s3 at *
 have k23:∀ b o,s2.heap.get? b=some o->s3.heap.get? b=some o:=fun b o e=>by rw [<- hs3]; exact xau _ e
 have sz3:s3.heap.objs.size=D+1:=by rw [<- hs3,<- hD]; exact xce ..
 have f3:∀ b∈fp,FpOk X pins (upd H2 D (.lst [])) b:=fun b hb=>by
  obtain ⟨f0,fr⟩:=f2 b hb
  obtain ⟨o,ho,_⟩:=T.obj _ _ st2 b hb
  refine ⟨?_,fr⟩
  rw [upd_ne (xaA (by rw [<- hD]; exact xao ho))]
  exact f0
 have st3:tnn 0 s3.heap:=T.keep _ _ _ st2 fun b hb o e=>k23 b o e
 have lt3:∀ b∈fp,b<s3.heap.objs.size:=fun b hb=>by
  obtain ⟨o,ho,_⟩:=T.obj _ _ st3 b hb
  exact xao ho
 refine dB (fun x c e=>I3.cell x c (sub x c e)) (fun h₁ hns₁ k34 hce=>?_)
 -- the block's context
 have ok':=uA (C:=s3.heap.objs.size) O I3 f3 lt3 (xah _)
 have I4:Inv (aP X scope s3.heap.objs.size (tn++cn) fp s3 (upd H2 D (.lst []))) [] (oK tn.length ix σ) (upd H2 D (.lst [])) { s3 with heap:=h₁ }:=by
  refine ⟨ok',rfl,I3.bare,Un.kept k34,⟨_,hns₁,fun i x v e1 e2 e3=>?_⟩,fun x c e=>?_,I3.hok.fresh (xah _),fun x c e=>(xJ _ _ _ _ _ e).elim (fun z=>I3.hok.fresh (xbS z)) fun z=>I3.freeC x c (sub x c z),fun p hp=>absurd hp (by simp [aP]),I3.hok.kept k34,?_⟩
  ·have hi':tn.length<=i:=by
    by_cases q:i<tn.length
    ·unfold oK at e2
     rw [xbo (by simpa using q),xbP] at e2
     simp [q] at e2
    ·lia
   unfold oK at e2
   rw [xaU (by simpa using hi'),xbV,xaN] at e2
   have e1:(tn++cn)[i]? = some x:=e1
   rw [xaU hi'] at e1
   cases q:ix[i - tn.length]? with
   | none=>rw [q] at e2; cases e2
   | some j =>
    rw [q] at e2
    obtain ⟨y,c1,c2,c3,c4,c5,c6⟩:=O.cap _ _ q
    rw [c1] at e1; cases e1
    have e2:σ[j]?.join=some v:=Option.some.inj e2
    have ej:σ[j]? = some (some v):=by
     cases z:σ[j]? with
     | none=>rw [z] at e2; cases e2
     | some o=>rw [z] at e2; exact congrArg some e2
    obtain ⟨m,hn,hl⟩:=I3.loc
    obtain ⟨u,r,l⟩:=hl j x v c2 ej (c3.elim (fun z=>.inr (.inl z)) fun z=>.inr (.inr z))
    refine ⟨u,r,.inr ⟨c5,?_⟩⟩
    rcases l with ⟨hk,_⟩ | ⟨hk,c,hcc,hce⟩
    ·have hk:X.env.scope.names.lookup x=some .local:=hk
     rcases c3 with z | z
     ·rw [z] at hk; cases hk
     ·rw [z] at hk; cases hk
    ·obtain ⟨c',hc'⟩:=jn (env:=X.env) (cs:=[]) (Or.inl c4)
     have:=sub x c' hc'
     rw [hcc] at this; cases this
     obtain ⟨o,ho,hd⟩:=hce
     exact ⟨c,(sG _ _ _ _ c6).trans hc',o,k34 _ _ ho,hd⟩
  ·exact hce x c e
  ·show (oK tn.length ix σ).length=(tn++cn).length
   unfold oK
   simp [O.len]
 -- from the block back to the body
 have back:∀ {τ:St} {H':Hp} {s':Shared},Inv (aP X scope s3.heap.objs.size (tn++cn) fp s3 (upd H2 D (.lst []))) [] τ H' s'->Inv X pins σ H' s':=fun {τ H' s'} I' =>
  Inv.call' (ch:=fp) I3 I'.os I'.base I'.hok I'.bare fun b hb=>by
   obtain ⟨_,f1,_,f3',f4,f5⟩:=f3 b hb
   exact ⟨f3',f1,f4,f5⟩
 have fpC:∀ {H':Hp},(∀ b∈fp,H' b=none)->∀ b∈fp,FpOk (aP X scope s3.heap.objs.size (tn++cn) fp s3 (upd H2 D (.lst []))) [] H' b:=fun hn b hb =>
  ⟨hn b hb,(ok'.exf b hb).1,ok'.exfs b hb,.inl hb,(ok'.exf b hb).2,fun p hp=>absurd hp (by simp [aP])⟩
 have loop:∀ s4:Shared,Inv (aP X scope s3.heap.objs.size (tn++cn) fp s3 (upd H2 D (.lst []))) [] (oK tn.length ix σ) (upd H2 D (.lst [])) s4->tnn 0 s4.heap ->
   codeAny (model X.prog X.w) X.A (.compLoop (.ListComp elt [⟨tg,iter,ifs,0⟩] scope pos) 0 (.ref it) (.ref D) (compEnvC scope (ceOf scope X.env s3.heap.objs.size) s3.heap.objs.size X.env))
    (compPost (model X.prog X.w) X.A X.xe use P (.ref D) s3.heap.objs.size) s4:=by
  intro s4 I4 st4
  refine gk (fun n s'=>∃ i τ H',Inv (aP X scope s3.heap.objs.size (tn++cn) fp s3 (upd H2 D (.lst []))) [] τ H' s'/\tnn i s'.heap/\(∀ b∈fp,H' b=none)/\W i n τ H') (fun _ _=>False) ?_ (fun _ _ z=>z.elim) m0
   ⟨0,_,_,I4,st4,fun b hb=>(f3 b hb).1,w0⟩
  rintro n s5 ⟨i,τ,H5,I5,st5,fr5,w5⟩
  rcases turn i n τ H5 w5 with ⟨stop,qn⟩ | ⟨go,N1,N2,hN1,hN2,step⟩
  ·refine thn (T.done (aP X scope s3.heap.objs.size (tn++cn) fp s3 (upd H2 D (.lst []))) rfl rfl rfl hc i [] s5 τ H5 (fun _ _=>False) I5 (fpC fr5) st5 stop) fun r s6 hx9=>?_
   obtain ⟨hr,I6⟩:=hx9
   subst hr
   have J6:=back I6
   obtain ⟨m,hn,_⟩:=I6.loc
   exact fin _ D m H5 s6 _ J6 hn I6.free (I3.fpOk (b:=s3.heap.objs.size) (H':=H5) (xah _) I6.free) qn
  ·refine thn (T.item (aP X scope s3.heap.objs.size (tn++cn) fp s3 (upd H2 D (.lst []))) rfl rfl rfl hc i [] s5 τ H5 (fun _ _=>False) I5 (fpC fr5) st5 go) fun r s6 hx9=>?_
   obtain ⟨u,hr,h6⟩:=hx9
   subst hr
   refine thn h6 fun _ s7 hx9=>?_
   obtain ⟨x,H7,I7,r7,y7,st7,fr7⟩:=hx9
   have I7':=I7.pinned (fpC fr7) (T.obj _ _ st7)
   refine thn (hg _ _ _ _ _ s7 τ H7 x u _ I7' r7 (step x H7 y7)) fun _ s8 hx9=>?_
   obtain ⟨τ8,H8,I8,q8⟩:=hx9
   refine thn (hcs _ _ _ _ _ s8 τ8 H8 _ I8 q8) fun ok s9 hx9=>?_
   obtain ⟨H9,I9,q9⟩:=hx9
   have again:∀ {s':Shared} {H':Hp} {m':Nat},Inv (aP X scope s3.heap.objs.size (tn++cn) fp s3 (upd H2 D (.lst []))) ([]++pinsAt fp s7.heap) τ8 H' s'->m'<n->W (i+1) m' τ8 H' ->
     ∃ m,m<n/\∃ i τ H',Inv (aP X scope s3.heap.objs.size (tn++cn) fp s3 (upd H2 D (.lst []))) [] τ H' s'/\tnn i s'.heap/\(∀ b∈fp,H' b=none)/\W i m τ H':=fun {s' H' m'} J hm w'=>by
    refine ⟨m',hm,i+1,τ8,H',J.unpinned,T.keep _ _ _ st7 fun b hb o e=>(J.pin (b,o) (xag _ (xag _ (mem_pinsAt hb e)))).1,fun b hb=>?_,w'⟩
    obtain ⟨o,e,d⟩:=T.obj _ _ st7 b hb
    exact (J.pin (b,o) (xag _ (xag _ (mem_pinsAt hb e)))).2.1
   cases ok with
   | false =>
    rw [if_neg xas] at q9 ⊢
    obtain ⟨m',hm,w'⟩:=hN2 _ _ q9
    exact again I9 hm w'
   | true =>
    rw [if_pos rfl] at q9 ⊢
    refine thn (he _ _ _ _ _ s9 τ8 H9 _ I9 q9) fun x9 s10 hx5=>L2.ex2 hx5 fun v10 H10 I10 r10 q10=>?_
    obtain ⟨ys,m',hH,hz,hm,w'⟩:=hN1 _ _ _ q10
    refine thn (mt_append _ s10 τ8 H10 (.ref D) [v10] (.ref D) [x9] (fun _ H'=>H'=upd H10 D (.lst (ys++[v10]))) I10 rfl (.cons r10 .nil) ⟨D,ys,v10,rfl,rfl,hH,hz,rfl⟩) fun _ s11 hx5=>L2.ex2 hx5 fun _ H11 I11 _ q11=>?_
    subst q11
    exact again I11 hm w'
 exact codeAny_compStart_list (loop _ I4 (T.keep _ _ _ st3 fun b hb o e=>k34 b o e)) (T.self _ 0 _ _ _ (T.keep _ _ _ st3 fun b hb o e=>k34 b o e) (loop _ I4 (T.keep _ _ _ st3 fun b hb o e=>k34 b o e)))
theorem rZ (hc:X.calm=true) (hi:PI X tg iter wi) (O:fC X scope tn cn ix)
  (hg:∀ C fp s₃ H₃,PG (aP X scope C (tn++cn) fp s₃ H₃) tg g) (hcs:∀ C fp s₃ H₃,PTs (aP X scope C (tn++cn) fp s₃ H₃) ifs tc) (he:∀ C fp s₃ H₃,PE (aP X scope C (tn++cn) fp s₃ H₃) elt te)
  (hs:∀ x,foldedSetIterable iter X.env x=pure x:=by intro _; rfl):PE X (.ListComp elt [⟨tg,iter,ifs,0⟩] scope pos) (qW wi g tc te tn.length ix):=by
 intro pins s σ H Q I h
 rw [eval_ListComp]
 refine qe (use:=none) (P:=EP X pins σ Q) hc hi O hg hcs he hs I h fun C D m H5 s6 r J6 hn hf ⟨_,g1,_,g3,g4,g5⟩ qn=>⟨m,hn,fun h' hsb=>⟨.ref D,H5,?_,rfl,qn⟩⟩
 exact J6.turned (t':=s6.toks) (fun b o hb e=>hsb.extBut b o hb e) hf g1 g3 g4 g5
end
section
variable {X:Cx} {tg iter elt:Expr} {ifs:List Expr} {scope:Scope} {pos:Pos} {wi:TI} {g:TG} {tc:TT} {te:TE} {tn cn:List Str} {ix:List Nat}
theorem vG:∀ (names:List (Str × NameKind)) (n:Nat) (acc:List (Str × Addr)),(∀ y∈names,y.2≠.cell)->cellsFrom n names acc=acc
 | [],_,_,_=>rfl
 | (nm,k) :: r,n,acc,h=>by
  unfold cellsFrom
  rw [if_neg fun z=>h (nm,k) xac (eq_of_beq z)]
  exact vG r n acc fun y hy=>h y (xab _ hy)
theorem mH (O:cg X scope tn cn ix) (C:Addr) (N:List Str) (fp:List Addr) (s:Shared) (H:Hp):aP X scope C N fp s H=cN X scope C N fp s H:=by
 unfold aP cN ceOf
 rw [vG _ _ _ O.nocell]
 have:(fun x=>scope.names.lookup x == some NameKind.cell)=fun _=>false:=by
  funext x
  cases e:scope.names.lookup x with
  | none=>rfl
  | some k =>
   have:=O.nocell _ (PySem.mem_of_lookup e)
   cases k <;> simp_all
 rw [this]
theorem tR (O:cg X scope tn cn ix):fC X scope tn cn ix :=
 ⟨O.kind,O.free,O.names,O.len,fun k j h=>by
  obtain ⟨y,a,b,c,d,e⟩:=O.cap k j h
  exact ⟨y,a,b,c,d,e,fun z=>O.nocell _ z rfl⟩,fun x h=>.inl (O.all x h)⟩
theorem yx {pos1:Pos} {use:Option (Value->Sem Unit)} {P:Value->Shared->Prop} (hc:X.calm=true) (hi:PI X tg iter wi) (O:cg X scope tn cn ix)
  (hg:∀ C fp s₃ H₃,PG (cN X scope C (tn++cn) fp s₃ H₃) tg g) (hcs:∀ C fp s₃ H₃,PTs (cN X scope C (tn++cn) fp s₃ H₃) ifs tc) (he:∀ C fp s₃ H₃,PE (cN X scope C (tn++cn) fp s₃ H₃) elt te)
  (hs:∀ x,foldedSetIterable iter X.env x=pure x) {pins:List (Addr × Obj)} {s:Shared} {σ:St} {H:Hp} {Q:V->Hp->Prop} (I:Inv X pins σ H s) (h:qW wi g tc te tn.length ix σ H Q)
  (fin:∀ (C D:Addr) (m:Str->Option Value) (H5:Hp) (s6:Shared) (r:Flow),Inv X pins σ H5 s6->s6.heap.Ns C m->H5 C=none->FpOk X pins H5 C->Q (.ref D) H5->compPost (model X.prog X.w) X.A X.xe use P (.ref D) C (.ok r) s6) :
  wpAny (model X.prog X.w) X.A (comprehension (.ListComp elt [⟨tg,iter,ifs,0⟩] scope pos) scope X.env pos1 (newList []) false (eval iter X.env) use) P X.xe s :=
 qe hc hi (tR O) (fun C fp s₃ H₃=>by rw [mH O]; exact hg C fp s₃ H₃) (fun C fp s₃ H₃=>by rw [mH O]; exact hcs C fp s₃ H₃) (fun C fp s₃ H₃=>by rw [mH O]; exact he C fp s₃ H₃) hs I h fin
theorem B_ (hc:X.calm=true) (hi:PI X tg iter wi) (O:cg X scope tn cn ix)
  (hg:∀ C fp s₃ H₃,PG (cN X scope C (tn++cn) fp s₃ H₃) tg g) (hcs:∀ C fp s₃ H₃,PTs (cN X scope C (tn++cn) fp s₃ H₃) ifs tc) (he:∀ C fp s₃ H₃,PE (cN X scope C (tn++cn) fp s₃ H₃) elt te)
  (hs:∀ x,foldedSetIterable iter X.env x=pure x:=by intro _; rfl):PE X (.ListComp elt [⟨tg,iter,ifs,0⟩] scope pos) (qW wi g tc te tn.length ix) :=
 rZ hc hi (tR O) (fun C fp s₃ H₃=>by rw [mH O]; exact hg C fp s₃ H₃) (fun C fp s₃ H₃=>by rw [mH O]; exact hcs C fp s₃ H₃) (fun C fp s₃ H₃=>by rw [mH O]; exact he C fp s₃ H₃) hs
end
section
variable {X:Cx} {tg iter elt:Expr} {ifs:List Expr} {scope:Scope} {pos:Pos} {wi:TI} {g:TG} {tc:TT} {te:TE} {tn cn:List Str} {ix:List Nat}
theorem uv (hN:X.N.Nodup) (hi0:X.N[i]? = some x) (hx:Loc X.env.scope x) (hc:X.calm=true) (hi:PI X tg iter wi) (O:cg X scope tn cn ix)
  (hg:∀ C fp s₃ H₃,PG (cN X scope C (tn++cn) fp s₃ H₃) tg g) (hcs:∀ C fp s₃ H₃,PTs (cN X scope C (tn++cn) fp s₃ H₃) ifs tc) (he:∀ C fp s₃ H₃,PE (cN X scope C (tn++cn) fp s₃ H₃) elt te)
  (hsw:swapsWith (.ListComp elt [⟨tg,iter,ifs,0⟩] scope pos) (some (.Name x pos')) spos.line X.env=pure true)
  (hs:∀ x,foldedSetIterable iter X.env x=pure x:=by intro _; rfl) (hf:X.fn x=true\/X.env.scope.names.lookup x=some .local:=by first | exact .inl rfl | exact .inr rfl | assumption) :
  PS X (.Assign [.Name x pos'] (.ListComp elt [⟨tg,iter,ifs,0⟩] scope pos) spos) (tAsg (qW wi g tc te tn.length ix) (gName i)):=by
 intro pins s σ H D0 I h
 rw [exec_Assign_Name_used _ _ _ _ hsw]
 refine xaa (wpAny_standAt (xaa ?_))
 show wpAny _ _ (do let _ <- comprehension (.ListComp elt [⟨tg,iter,ifs,0⟩] scope pos) scope X.env _ (newList []) false (eval iter X.env) (some (assign (.Name x pos') X.env))) _ _ s
 refine xaa (xaM (yx (use:=some (assign (.Name x pos') X.env)) (P:=fun _ s'=>SP X pins D0 .next s') hc hi O hg hcs he hs I h fun C D m H5 s6 r J6 hn hfr ⟨_,g1,_,g3,g4,g5⟩ qn=>?_) (fun _ s' hq=>xae (xae hq)) fun _ _ e=>e)
 refine (show wpAny _ _ (assign (.Name x pos') X.env (.ref D)) _ _ s6 from wpAny_assign_Name (store_ok2 J6 hN hi0 hx (v:=.ref D) rfl (fun s7 I7 hx9=>?_) hf))
 obtain ⟨a,sb,ha⟩:=hx9
 have hCa:C≠a:=by
  rcases ha with rfl | ha
  ·exact g1
  ·exact Ne.symm (g4 _ a ha)
 refine ⟨m,hn.sameBut sb hCa,fun h' hsb=>⟨_,H5,?_,qn⟩⟩
 exact I7.turned (t':=s7.toks) (fun b o hb e=>hsb.extBut b o hb e) hfr g1 g3 g4 g5
end
def isiT (a b:String):Bool:=a == b || (a == "bool" && b == "int")
def okTy (b:String):Bool:=["str", "int", "bool", "list", "tuple", "dict"].contains b
theorem iY (K:PySem.W.Frag) (a b:String) (ha:a∈["NoneType", "bool", "int", "str", "list", "tuple", "dict"]) (hb:b∈["str", "int", "bool", "list", "tuple", "dict"]):PySem.W.kitOne K (.type a) (.type b)=some (isiT a b):=by
 simp only [xak,xbf,or_false] at ha hb
 rcases ha with rfl | rfl | rfl | rfl | rfl | rfl | rfl <;> rcases hb with rfl | rfl | rfl | rfl | rfl | rfl <;> kernel_rfl
section
variable {X:Cx}
theorem OpR.imp (h:OpR X f r) (hi:∀ x y H Q,r' x y H Q->r x y H Q):OpR X f r' :=
 fun pins s σ H x y v u Q I rx ry q=>h pins s σ H x y v u Q I rx ry (hi x y H Q q)
def F_ (K:PySem.W.Frag):R2:=fun x y H Q=>∃ l b xs zs,x=.ref l/\y=.ref b/\SqL K H l xs/\SqL K H b zs/\xs.length+zs.length<=sizeLine/\∀ p,H p=none->Q (.ref p) (upd H p (.lst (xs++zs)))
theorem Ar:OpR X (binaryOp .Add) (F_ X.K):=by
 intro pins s σ H x y v u Q I rx ry h
 obtain ⟨l,b,xs,zs,rfl,rfl,hH,hB,hz,q⟩:=h
 cases rx
 cases ry
 obtain ⟨its,r,pl,z⟩:=I.list hH
 obtain ⟨its2,r2,pl2,z2⟩:=I.list hB
 have hl:=r.length
 have hl2:=r2.length
 obtain ⟨⟨cls,dd,data,sl⟩,ho,hc,n,hd⟩:=id pl.isList
 obtain ⟨⟨cls2,dd2,data2,sl2⟩,ho2,hc2,n2,hd2⟩:=id pl2.isList
 simp only at hc hd hc2 hd2
 subst hc hd hc2 hd2
 have ea:its.toArray++its2.toArray=(its++its2).toArray:=by simp
 refine concat_meets ⟨_,ho,rfl⟩ ⟨_,ho2,rfl⟩ noFill_list_add seq_list_add PySem.F.slot_list_add PySem.F.entry_list_add (PySem.F.args_list_add_2 _ _) (list_addW l b its.toArray its2.toArray n n2 dd dd2 sl sl2 (by simp only [xav]; lia)) ⟨ho,ho2,?_⟩
 rw [ea]
 exact ⟨.ref _,_,I.lnew (t':=s.toks) (r.append r2) (by rw [xam]; lia),rfl,q _ I.fresh⟩
def xM (K:PySem.W.Frag):R2:=fun x y H Q=>match x,y with
 | .int i,.int j=>Q (.int (i+j)) H
 | .str i,.str j=>i.length+j.length<=sizeLine/\Q (.str (i++j)) H
 | .ref a,.ref b=>∃ xs zs,SqL K H a xs/\SqL K H b zs/\xs.length+zs.length<=sizeLine/\∀ p,H p=none->Q (.ref p) (upd H p (.lst (xs++zs)))
 | _,_=>False
theorem zJ:OpR X (binaryOp .Add) (xM X.K):=by
 refine (op_add.or (op_add_str.or Ar)).imp fun x y H Q h=>?_
 unfold xM at h
 split at h
 ·exact .inl ⟨_,_,rfl,rfl,h⟩
 ·exact .inr (.inl ⟨_,_,rfl,rfl,h.1,h.2⟩)
 ·obtain ⟨xs,zs,h1,h2,h3,h4⟩:=h
  exact .inr (.inr ⟨_,_,xs,zs,rfl,rfl,h1,h2,h3,h4⟩)
 ·exact h.elim
def zR:R2:=fun x y H Q=>match x,y with
 | .int i,.int j=>Q (.int (i - j)) H
 | _,_=>False
theorem z7:OpR X (binaryOp .Sub) zR:=op_sub.imp fun x y H Q h=>by
 unfold zR at h
 split at h
 ·exact ⟨_,_,rfl,rfl,h⟩
 ·exact h.elim
def zV:R2:=fun x y H Q=>match x,y with
 | .int i,.int j=>CMul i j/\Q (.int (i * j)) H
 | _,_=>False
theorem zP:OpR X (binaryOp .Mult) zV:=op_mul.imp fun x y H Q h=>by
 unfold zV at h
 split at h
 ·exact ⟨_,_,rfl,rfl,h.1,h.2⟩
 ·exact h.elim
def Aw:R2:=fun x y H Q=>match x,y with
 | .int i,.int j=>(0<j/\j<1073741824)/\Q (.int (i / j)) H
 | _,_=>False
theorem zx:OpR X (binaryOp .FloorDiv) Aw:=op_fdiv.imp fun x y H Q h=>by
 unfold Aw at h
 split at h
 ·exact ⟨_,_,rfl,rfl,h.1,h.2⟩
 ·exact h.elim
def zA:R2:=fun x y H Q=>match x,y with
 | .int i,.int j=>0<j/\Q (.int (i % j)) H
 | _,_=>False
theorem Ak:OpR X (binaryOp .Mod) zA:=op_mod.imp fun x y H Q h=>by
 unfold zA at h
 split at h
 ·exact ⟨_,_,rfl,rfl,h.1,h.2⟩
 ·exact h.elim
def Bw:R2:=fun x y H Q=>match x,y with
 | .int i,.int j=>CPow i j/\Q (.int (i ^ j.toNat)) H
 | _,_=>False
theorem Bg:OpR X (binaryOp .Pow) Bw:=op_pow.imp fun x y H Q h=>by
 unfold Bw at h
 split at h
 ·exact ⟨_,_,rfl,rfl,h.1,h.2⟩
 ·exact h.elim
def ltS (x y:Str):Bool:=decide (x.cps.toList<y.cps.toList)
def rLtU:R2:=fun x y H Q=>match x,y with
 | .int i,.int j=>Q (.bl (decide (i<j))) H
 | .str i,.str j=>Q (.bl (ltS i j)) H
 | _,_=>False
theorem iR:OpR X (compareOp .Lt) rLtU:=(op_lt.or op_lt_str).imp fun x y H Q h=>by
 unfold rLtU at h
 split at h
 ·exact .inl ⟨_,_,rfl,rfl,h⟩
 ·exact .inr ⟨_,_,rfl,rfl,h⟩
 ·exact h.elim
theorem vg:OpR X (compareOp .LtE) (fun x y H Q=>∃ i j,x=.str i/\y=.str j/\Q (.bl (!ltS j i)) H):=by
 intro pins s σ H x y v u Q I rx ry h
 obtain ⟨i,j,rfl,rfl,q⟩:=h
 obtain ⟨t,rfl⟩:=rx
 obtain ⟨t',rfl⟩:=ry
 exact PySem.P.le_str ⟨.bl _,H,I,rfl,q⟩
def rLeU:R2:=fun x y H Q=>match x,y with
 | .int i,.int j=>Q (.bl (decide (i<=j))) H
 | .str i,.str j=>Q (.bl (!ltS j i)) H
 | _,_=>False
theorem DG:OpR X (compareOp .LtE) rLeU:=(op_le.or vg).imp fun x y H Q h=>by
 unfold rLeU at h
 split at h
 ·exact .inl ⟨_,_,rfl,rfl,h⟩
 ·exact .inr ⟨_,_,rfl,rfl,h⟩
 ·exact h.elim
def rGeU:R2:=fun x y H Q=>match x,y with
 | .int i,.int j=>Q (.bl (decide (j<=i))) H
 | _,_=>False
theorem Em:OpR X (compareOp .GtE) rGeU:=op_ge.imp fun x y H Q h=>by
 unfold rGeU at h
 split at h
 ·exact ⟨_,_,rfl,rfl,h⟩
 ·exact h.elim
theorem Inv.rd (I:Inv X pins σ H s) (e:Rd H a u):ObjOk X.prog X.w H s.heap a u:=e.elim (I.hok a _) fun ⟨o,e⟩=>(show ObjOk X.prog X.w H s.heap a (.frz o u) from I.hok a _ e).2
def rLen (K:PySem.W.Frag):List V->Hp->VK->Prop:=fun xs H Q=>match xs with
 | [.str y]=>y.length<=sizeLine/\Q (.int y.length) H
 | [.ref p]=>(∃ ys,SqL K H p ys/\Q (.int ys.length) H)\/(∃ ys,SqT K H p ys/\Q (.int ys.length) H)\/∃ kvs,Rd H p (.dK kvs)/\Q (.int kvs.length) H
 | _=>False
theorem wF:CallR X (.builtin "len") (rLen X.K):=by
 intro pins s σ H xs us Q I r h
 unfold rLen at h
 split at h
 ·exact call_len pins s σ H _ us Q I r ⟨_,_,rfl,⟨h.1,rfl⟩,h.2⟩
 ·rcases h with ⟨ys,h1,h2⟩ | ⟨ys,h1,h2⟩ | ⟨kvs,h1,h2⟩
  ·exact call_len pins s σ H _ us Q I r ⟨_,_,rfl,.inl ⟨ys,h1,rfl⟩,h2⟩
  ·exact call_len pins s σ H _ us Q I r ⟨_,_,rfl,.inr ⟨ys,h1,rfl⟩,h2⟩
  ·obtain ⟨u,rfl,ru⟩:=vals1 r
   cases ru
   exact d_len I h1 fun t s' I'=>⟨.int kvs.length,H,I',⟨t,rfl⟩,h2⟩
 ·exact h.elim
def rIxU (K:PySem.W.Frag):R2:=fun x y H Q=>match x,y with
 | .ref p,.int i=>(∃ xs v,SqL K H p xs/\atI xs i=some v/\Q v H)\/∃ xs v,SqT K H p xs/\atI xs i=some v/\Q v H
 | .str z,.int i=>z.length<=sizeLine/\∃ c,atI z.cps.toList i=some c/\Q (.str ⟨#[c]⟩) H
 | _,_=>False
theorem Dv:IxR X (rIxU X.K):=by
 intro value slice pins s σ H x y v u Q I rx ry h hs
 refine ix_seq value slice pins s σ H x y v u Q I rx ry ?_ hs
 unfold rIxU at h
 split at h
 ·rcases h with ⟨xs,w,h1,h2,h3⟩ | ⟨xs,w,h1,h2,h3⟩
  ·exact .inl ⟨_,xs,_,w,rfl,rfl,h1,h2,h3⟩
  ·exact .inr (.inl ⟨_,xs,_,w,rfl,rfl,h1,h2,h3⟩)
 ·obtain ⟨h1,c,h2,h3⟩:=h
  exact .inr (.inr ⟨_,_,c,rfl,rfl,h1,h2,h3⟩)
 ·exact h.elim
def cutS (z:Str) (lo hi:Option Int):Str:=⟨((z.cps.toList.drop (HT.sIx z.length 0 lo)).take (HT.sIx z.length z.length hi - HT.sIx z.length 0 lo)).toArray⟩
end
theorem vV (l:List Nat) (lo hi:Option Int) (h:((l.drop (HT.sIx l.length 0 lo)).take (HT.sIx l.length l.length hi - HT.sIx l.length 0 lo)).length=l.length) :
  (l.drop (HT.sIx l.length 0 lo)).take (HT.sIx l.length l.length hi - HT.sIx l.length 0 lo)=l:=by
 generalize HT.sIx l.length 0 lo=a at *
 generalize HT.sIx l.length l.length hi=b at *
 by_cases hl:l.length=0
 ·have:l=[]:=xbw.mp hl
  subst this; simp
 ·rw [xaC,xa8] at h
  have h1:a=0:=by lia
  subst h1
  rw [List.drop_zero]
  exact xbU (by lia)
theorem uK (lo hi:Option Int) (n:Nat):Builtin.Str.strSliceIndices lo hi 1 n=(List.range (HT.sIx n n hi - HT.sIx n 0 lo)).map (HT.sIx n 0 lo + ·):=by
 unfold Builtin.Str.strSliceIndices
 have e1:(match lo with | none=>(0:Int) | some i=>max 0 (min (if i<0 then i+n else i) n))=((HT.sIx n 0 lo:Nat):Int):=by
  cases lo with
  | none=>simp [HT.sIx]
  | some i =>
   simp only [HT.sIx]
   by_cases h:i<0
   ·simp only [h,if_true] <;> lia
   ·simp only [h,if_false] <;> lia
 have e2:(match hi with | none=>(n:Int) | some i=>max 0 (min (if i<0 then i+n else i) n))=((HT.sIx n n hi:Nat):Int):=by
  cases hi with
  | none=>simp [HT.sIx]
  | some i =>
   simp only [HT.sIx]
   by_cases h:i<0
   ·simp only [h,if_true] <;> lia
   ·simp only [h,if_false] <;> lia
 rw [<- sliceRange_one,<- e1,<- e2]
 simp only [show (1:Int)>0 by decide,if_true]
 cases lo <;> cases hi <;> rfl
section
variable {X:Cx}
theorem part_of (h:IsPart v o):∃ p:Option (Int × Tok),v=partValue p/\p.map (·.1)=o:=by
 cases h with
 | none=>exact ⟨none,rfl,rfl⟩
 | int i t=>exact ⟨some (i,t),rfl,rfl⟩
def rSlS (K:PySem.W.Frag):V->Option Int->Option Int->Hp->VK->Prop:=fun x lo hi H Q=>match x with
 | .str z=>z.length<=sizeLine/\Q (.str (cutS z lo hi)) H
 | .ref a=>∃ xs,SqL K H a xs/\∀ p,H p=none->Q (.ref p) (upd H p (.lst (cutV xs lo hi)))
 | _=>False
theorem Dy:SlR X (fun x lo hi H Q=>∃ z,x=.str z/\z.length<=sizeLine/\Q (.str (cutS z lo hi)) H):=by
 intro pins s σ H x v vl vu lo hi sl Q I rx hs pl pu h
 obtain ⟨z,rfl,hz,q⟩:=h
 obtain ⟨t,rfl⟩:=rx
 obtain ⟨p1,rfl,e1⟩:=part_of pl
 obtain ⟨p2,rfl,e2⟩:=part_of pu
 refine ⟨"str",_,F.slot_str_getitem.lookup,typeIs_str s z t,wpAny_getItem_str_slice (l:=p1) (u:=p2) (st:=none) hs rfl ?_⟩
 have hl:z.cps.toList.length=z.length:=by simp [Str.length]
 have ep:slicePicked z p1 p2 none=(List.range (HT.sIx z.length z.length hi - HT.sIx z.length 0 lo)).map (HT.sIx z.length 0 lo + ·):=by
  unfold slicePicked
  rw [e1,e2]
  exact uK lo hi z.length
 have ef:(slicePicked z p1 p2 none).filterMap (z.cps[·]?)=(z.cps.toList.drop (HT.sIx z.length 0 lo)).take (HT.sIx z.length z.length hi - HT.sIx z.length 0 lo):=by
  rw [ep]; exact pick_run z.cps _ _
 unfold sliceMade
 split
 ·rename_i hc
  have hw:(slicePicked z p1 p2 none).length=z.length:=by simpa using hc
  have:cutS z lo hi=z:=by
   unfold cutS
   have e3:((z.cps.toList.drop (HT.sIx z.cps.toList.length 0 lo)).take (HT.sIx z.cps.toList.length z.cps.toList.length hi - HT.sIx z.cps.toList.length 0 lo)).length=z.cps.toList.length:=by
    rw [hl,xaC,xa8,hl]
    rw [ep,xad,List.length_range] at hw
    have h0:HT.sIx z.length 0 lo<=z.length:=by
     cases lo with
     | none=>simp [HT.sIx]
     | some i=>simp only [HT.sIx]; split <;> lia
    have h1:HT.sIx z.length z.length hi<=z.length:=by
     cases hi with
     | none=>simp [HT.sIx]
     | some i=>simp only [HT.sIx]; split <;> lia
    lia
   have:=vV z.cps.toList lo hi e3
   rw [hl] at this
   rw [this]
  rw [this] at q
  exact ⟨.str z,H,I,⟨t,rfl⟩,q⟩
 ·rw [ef]
  exact ⟨by
   show (cutS z lo hi).length<=sizeLine
   unfold cutS Str.length
   simp only [xav,xaC,xa8,hl]
   have:z.cps.toList.length=z.length:=hl
   lia,⟨.str (cutS z lo hi),H,I.tok _,⟨_,rfl⟩,q⟩⟩
theorem Du:SlR X (rSlS X.K):=by
 intro pins s σ H x v vl vu lo hi sl Q I rx hs pl pu h
 unfold rSlS at h
 split at h
 ·exact Dy pins s σ H _ v vl vu lo hi sl Q I rx hs pl pu ⟨_,rfl,h.1,h.2⟩
 ·obtain ⟨xs,h1,h2⟩:=h
  exact sl_list pins s σ H _ v vl vu lo hi sl Q I rx hs pl pu ⟨_,xs,rfl,h1,h2⟩
 ·exact h.elim
end
structure lz (J:It) (its:List V) (cond:Hp->Prop):Prop where
 go:∀ i H,cond H->i<its.length->J.go i H
 yld:∀ i H x H',cond H->i<its.length->J.yld i H x H'->H'=H/\its[i]? = some x
 stop:∀ H,cond H->J.stop its.length H
theorem xG (K:PySem.W.Frag) (a:Addr) (xs:List V):lz (Itl K a) xs (fun H=>SqL K H a xs) where
 go:=fun i H h hi=>⟨xs,xs[i],h,by simp [hi]⟩
 yld:=fun i H x H' h _ y=>⟨y.1,y.2 xs h⟩
 stop:=fun H h=>⟨xs,h,xah _⟩
theorem Bt (K:PySem.W.Frag) (a:Addr) (xs:List V):lz (Itt K a) xs (fun H=>SqT K H a xs) where
 go:=fun i H h hi=>⟨xs,xs[i],h,by simp [hi]⟩
 yld:=fun i H x H' h _ y=>⟨y.1,y.2 xs h⟩
 stop:=fun H h=>⟨xs,h,xah _⟩
def wH (lo:Int) (n:Nat):List V:=(List.range n).map fun i=>.int (lo+(i:Nat))
theorem Bj (lo:Int) (n:Nat):lz (Itr lo n) (wH lo n) (fun _=>True) where
 go:=fun i H _ h=>by simpa [wH,Itr] using h
 yld:=fun i H x H' _ hi h=>by
  have hi:i<n:=by simpa [wH] using hi
  obtain ⟨rfl,rfl⟩:=h
  refine ⟨rfl,?_⟩
  simp [wH,hi]
 stop:=fun H _=>by simp [wH,Itr]
def ForW (J:It) (g:TG) (tb:TS) (D:Ends) (σ:St) (H:Hp):Prop :=
 ∃ W:Nat->Nat->St->Hp->Prop,(∃ m,W 0 m σ H)/\∀ i m σ H,W i m σ H ->
   (J.stop i H/\D.nx σ H)\/(J.go i H/\∃ N:St->Hp->Prop,(∀ σ' H',N σ' H'->∃ m',m'<m/\W (i+1) m' σ' H')/\∀ x H',J.yld i H x H'->g x σ H' fun σ2 H2=>tb { D with nx:=N,ct:=N,bk:=D.nx } σ2 H2)
theorem BJ (wi:TI) (g:TG) (tb:TS) (D:Ends) (σ:St) (H:Hp):tFor wi g tb D σ H=wi σ H fun J H1=>ForW J g tb D σ H1:=rfl
def Gk (J:It) (g:TG) (tc:TT) (te:TE) (τ0:St) (H1:Hp) (D:Addr) (Q:VK):Prop :=
 ∃ W:Nat->Nat->St->Hp->Prop,(∃ m,W 0 m τ0 (upd H1 D (.lst [])))/\∀ i m τ H,W i m τ H ->
  (J.stop i H/\Q (.ref D) H)\/(J.go i H/\∃ (N1:St->V->Hp->Prop) (N2:St->Hp->Prop),
   (∀ τ2 v H4,N1 τ2 v H4->∃ ys m',H4 D=some (.lst ys)/\ys.length<sizeLine/\m'<m/\W (i+1) m' τ2 (upd H4 D (.lst (ys++[v])))) /\
   (∀ τ2 H3,N2 τ2 H3->∃ m',m'<m/\W (i+1) m' τ2 H3) /\
   ∀ x H',J.yld i H x H'->g x τ H' fun τ2 H2=>tc τ2 H2 fun b H3=>if b=true then te τ2 H3 (N1 τ2) else N2 τ2 H3)
theorem yz (wi:TI) (g:TG) (tc:TT) (te:TE) (tn:Nat) (ix:List Nat) (σ:St) (H:Hp) (Q:VK):qW wi g tc te tn ix σ H Q=wi σ H fun J H1=>∀ D,H1 D=none->Gk J g tc te (oK tn ix σ) H1 D Q:=rfl
mutual
inductive Rep (K:PySem.W.Frag) (H:Hp):PyData->V->Prop
 | none:Rep K H .none .non
 | bool (b:Bool):Rep K H (.bool b) (.bl b)
 | int (i:Int):Rep K H (.int i) (.int i)
 | str (x:Str):Rep K H (.str x) (.str x)
 | list {a:Addr} {vs:List V} {ds:List PyData}:SqL K H a vs->Reps K H ds vs->Rep K H (.list ds) (.ref a)
 | tuple {a:Addr} {vs:List V} {ds:List PyData}:SqT K H a vs->Reps K H ds vs->Rep K H (.tuple ds) (.ref a)
inductive Reps (K:PySem.W.Frag) (H:Hp):List PyData->List V->Prop
 | nil:Reps K H [] []
 | cons {d:PyData} {v:V} {ds:List PyData} {vs:List V}:Rep K H d v->Reps K H ds vs->Reps K H (d :: ds) (v :: vs)
end
section
variable {X:Cx} {pins:List (Addr × Obj)} {σ:St} {H:Hp} {s:Shared}
mutual
theorem Rep.reads (I:Inv X pins σ H s):∀ {d:PyData} {v:V} {u:Value},Rep X.K H d v->RelV v u->∃ as,Reads s.heap u d as
 | _,_,_,.none,r=>by cases (show _=Value.none from r); exact ⟨_,.none⟩
 | _,_,_,.bool b,r=>by cases (show _=Value.bool b from r); exact ⟨_,.bool b⟩
 | _,_,_,.int i,r=>by obtain ⟨t,e⟩:=r; subst e; exact ⟨_,.int i t⟩
 | _,_,_,.str x,r=>by obtain ⟨t,e⟩:=r; subst e; exact ⟨_,.str x t⟩
 | _,_,_,.list h hs,r=>by
  cases r
  obtain ⟨its,rv,pl,_⟩:=I.list h
  obtain ⟨o,e,c,n,d⟩:=pl.isList
  obtain ⟨as,q⟩:=Reps.reads I hs rv
  exact ⟨_,.list e c d q⟩
 | _,_,_,.tuple h hs,r=>by
  cases r
  obtain ⟨its,rv,⟨o,e,c,n,d⟩,_⟩:=I.tuple h
  obtain ⟨as,q⟩:=Reps.reads I hs rv
  exact ⟨_,.tuple e c d q⟩
theorem Reps.reads (I:Inv X pins σ H s):∀ {ds:List PyData} {vs:List V} {us:List Value},Reps X.K H ds vs->Vals vs us->∃ as,ReadsAll s.heap us ds as
 | _,_,_,.nil,.nil=>⟨_,.nil⟩
 | _,_,_,.cons h hs,.cons r rs=>by
  obtain ⟨as,q⟩:=Rep.reads I h r
  obtain ⟨bs,q'⟩:=Reps.reads I hs rs
  exact ⟨_,.cons q q'⟩
end
def rEqD (K:PySem.W.Frag):R2:=fun x y H Q=>∃ d e,Rep K H d x/\Rep K H e y/\d.canLay0=true/\e.canLay0=true/\d.depth<=60/\Q (.bl (PyData.eqv d e)) H
def rNeD (K:PySem.W.Frag):R2:=fun x y H Q=>∃ d e,Rep K H d x/\Rep K H e y/\d.canLay0=true/\e.canLay0=true/\d.depth<=60/\Q (.bl (!PyData.eqv d e)) H
theorem Dq (hu:X.A.units+64<cLine):OpR X (compareOp .Eq) (rEqD X.K):=by
 intro pins s σ H x y v u Q I rx ry h
 obtain ⟨d,e,h1,h2,h3,h4,h5,q⟩:=h
 obtain ⟨as,r1⟩:=h1.reads I rx
 obtain ⟨bs,r2⟩:=h2.reads I ry
 exact PySem.SeqAt.rcAt_reads r1 r2 h3 h4 (by lia) X.prog X.w X.xe _ ⟨.bl _,H,I,rfl,q⟩
theorem CZ (hu:X.A.units+64<cLine):OpR X (compareOp .NotEq) (rNeD X.K):=by
 intro pins s σ H x y v u Q I rx ry h
 obtain ⟨d,e,h1,h2,h3,h4,h5,q⟩:=h
 obtain ⟨as,r1⟩:=h1.reads I rx
 obtain ⟨bs,r2⟩:=h2.reads I ry
 exact PySem.SeqAt.rcNeAt_reads r1 r2 h3 h4 (by lia) X.prog X.w X.xe _ ⟨.bl _,H,I,rfl,q⟩
def rEqU (K:PySem.W.Frag):R2:=fun x y H Q=>match x,y with
 | .int i,.int j=>Q (.bl (decide (i=j))) H
 | .str i,.str j=>Q (.bl (decide (i=j))) H
 | .bl i,.bl j=>Q (.bl (decide (i=j))) H
 | _,_=>rEqD K x y H Q
theorem Dh (hu:X.A.units+64<cLine):OpR X (compareOp .Eq) (rEqU X.K):=(op_eq.or (Dq hu)).imp fun x y H Q h=>by
 unfold rEqU at h
 split at h
 ·refine .inl ⟨rfl,?_⟩; simpa using h
 ·refine .inl ⟨rfl,?_⟩; simpa using h
 ·refine .inl ⟨rfl,?_⟩; simpa using h
 ·exact .inr h
def rNeU (K:PySem.W.Frag):R2:=fun x y H Q=>match x,y with
 | .int i,.int j=>Q (.bl (!decide (i=j))) H
 | .str i,.str j=>Q (.bl (!decide (i=j))) H
 | .bl i,.bl j=>Q (.bl (!decide (i=j))) H
 | _,_=>rNeD K x y H Q
theorem Cg (hu:X.A.units+64<cLine):OpR X (compareOp .NotEq) (rNeU X.K):=(op_ne.or (CZ hu)).imp fun x y H Q h=>by
 unfold rNeU at h
 split at h
 ·refine .inl ⟨rfl,?_⟩; simpa using h
 ·refine .inl ⟨rfl,?_⟩; simpa using h
 ·refine .inl ⟨rfl,?_⟩; simpa using h
 ·exact .inr h
end
end L2
namespace L2
open PySem PySem.Spec PyProof.Rows
section
variable {X:Cx} {pins:List (Addr × Obj)} {σ:St} {H:Hp} {s:Shared} {h':Heap}
theorem Inv.Ga {t':Nat} {fp:List Addr} (I:Inv X pins σ H s) (hf:∀ b∈fp,FpOk X pins H b) (k:∀ b o,b∉fp->s.heap.get? b=some o->h'.get? b=some o):Inv X pins σ H { s with heap:=h',toks:=t' }:=by
 have nit:∀ b u,H b=some u->b∉fp:=fun b u e z=>by rw [(hf b z).1] at e; cases e
 refine I.step (g':=s.gens) (d':=s.drawn) (ch:=fp) (fun b hb=>?_) (fun b o _ _ hc e _=>k b o hc e) (fun b o _ _ hc e _=>⟨o.slots,k b o hc e⟩) (fun _ _ _ _ n=>n)
  (fun b o hc e=>⟨o,k b o hc e⟩) (fun _ _ e=>e) (fun _ _ _ e=>e) (fun b ps e=>⟨#[],by rw [e]; simp⟩) (fun m hm=>?_) (fun b u e=>?_) I.bare
 ·obtain ⟨f0,f1,f2,f3,f4,f5⟩:=hf b hb
  exact ⟨f3,f1,f4,f5⟩
 ·obtain ⟨o,es,ep,ho,r⟩:=hm
  exact ⟨o,es,ep,k _ o (fun z=>(hf _ z).2.1 rfl) ho,r⟩
 ·refine (I.hok b u e).stay (fun c v hc q=>k c v ?_ q) (fun _ q=>q) fun _ _ q=>q
  rcases hc with z | z
  ·rw [z]; exact nit b u e
  ·exact nit c _ z
theorem Inv.turnT {t':Nat} {fp:List Addr} {p:Addr} {xs:List V} (I:Inv X pins σ H s) (hf:∀ b∈fp,FpOk X pins H b) (k:∀ b o,b∉fp->s.heap.get? b=some o->h'.get? b=some o) (hp:s.heap.objs.size<=p)
  (new:ObjOk X.prog X.w (upd H p (.tup xs)) h' p (.tup xs)):Inv X pins σ (upd H p (.tup xs)) { s with heap:=h',toks:=t' }:=by
 have hn:=I.hok.fresh hp
 have nit:∀ b u,H b=some u->b∉fp:=fun b u e z=>by rw [(hf b z).1] at e; cases e
 have lt:∀ b o,s.heap.get? b=some o->b≠p:=fun b o e=>xaA (xal (xao e) hp)
 refine I.step (g':=s.gens) (d':=s.drawn) (ch:=fp) (fun b hb=>?_) (fun b o _ _ hc e _=>k b o hc e) (fun b o _ _ hc e _=>⟨o.slots,k b o hc e⟩) (fun b o _ e n=>by rw [upd_ne (lt b o e)]; exact n)
  (fun b o hc e=>⟨o,k b o hc e⟩) (fun _ _ e=>by rw [upd_ne (ne_of_none e hn)]; exact e) (fun _ _ _ e=>by rw [upd_ne (ne_of_none e hn)]; exact e) (fun b ps e=>⟨#[],by rw [upd_ne (ne_of_none e hn),e]; simp⟩) (fun m hm=>?_) (fun b u e=>?_) I.bare
 ·obtain ⟨f0,f1,f2,f3,f4,f5⟩:=hf b hb
  exact ⟨f3,f1,f4,f5⟩
 ·obtain ⟨o,es,ep,ho,r⟩:=hm
  exact ⟨o,es,ep,k _ o (fun z=>(hf _ z).2.1 rfl) ho,r⟩
 ·by_cases hb:b=p
  ·subst hb; rw [upd_same] at e; cases e; exact new
  ·rw [upd_ne hb] at e
   refine (I.hok b u e).stay (fun c v hc q=>k c v ?_ q) (fun c q=>by rw [upd_ne (ne_of_none q hn)]; exact q) fun c xs q=>by rw [upd_ne (ne_of_none q hn)]; exact q
   rcases hc with z | z
   ·rw [z]; exact nit b u e
   ·exact nit c _ z
end
def Ite (K:PySem.W.Frag) (a:Addr):It :=
 ⟨fun i H=>∃ xs x,SqL K H a xs/\xs[i]? = some x,fun i H x H'=>∃ p v,x=.ref p/\H p=none/\H'=upd H p (.tup [.int i,v])/\∀ xs,SqL K H a xs->xs[i]? = some v,fun i H=>∃ xs,SqL K H a xs/\xs.length<=i⟩
theorem vZ:(2:Nat)<=sizeLine:=by rw [sizeLine_eq]; decide
theorem vf {P:Program} {w:World} {K:PySem.W.Frag} {elts:List Expr} {k:Nat} {pos:Pos} (a e it:Addr) (hei:e≠it):Turn P w K (.Tuple elts k pos) (Ite K a) [e,it] e (fun i h=>(∃ old,IsEnum h e it i old)/\h.IsListIter it a i) where
 mem:=by simp
 obj:=fun i h ⟨⟨old,he⟩,st⟩ b hb=>by
  rcases xak.mp hb with rfl | hb
  ·exact ⟨_,he,fun v z=>nomatch z⟩
  ·have e:b=it:=by simpa using hb
   subst e
   obtain ⟨o,e,c,d⟩:=st
   exact ⟨o,e,fun v z=>by rw [d] at z; cases z⟩
 keep:=fun i h h' ⟨⟨old,he⟩,st⟩ k=>⟨⟨old,k e (by simp) _ he⟩,st.at fun o e=>k it (by simp) o e⟩
 item:=by
  intro X hP hw hK hc i pins s σ H E I hf st hg
  subst hP hw hK
  obtain ⟨xs,x,hq,hx⟩:=hg
  obtain ⟨its,rv,p,hz⟩:=I.list hq
  obtain ⟨u,hu,ru⟩:=rv.get hx
  obtain ⟨⟨old,he⟩,hit⟩:=st
  refine wpAny_pyNext_enum_item he hit p.isList (x:=u) (by simpa using hu) hei fun h1 ho hit1 hT hsz hk=>⟨_,rfl,?_⟩
  refine wpAny_letOwnedTupleGo_enum (s:={ s with heap:=h1,toks:=s.toks+1 }) ho fun h2 he2 hs2=>?_
  have ke:∀ b o,b∉[e,it]->s.heap.get? b=some o->h2.get? b=some o:=fun b o hb q=>(hs2.2 b fun z=>hb (by simp [z])).trans (hk b o (fun z=>hb (by simp [z])) (fun z=>hb (by simp [z])) q)
  have hlt:e<s.heap.objs.size:=xao he
  have hT2:h2.get? s.heap.objs.size=some { cls:=.type "tuple",data:=.seq #[.int i s.toks,u] }:=(hs2.2 _ (Nat.ne_of_gt hlt)).trans hT
  have I1:Inv X pins σ (upd H s.heap.objs.size (.tup [.int i,x])) { s with heap:=h2,toks:=s.toks+1 } :=
   I.turnT hf ke (xah _) ⟨vZ,[.int i s.toks,u],.cons ⟨s.toks,rfl⟩ (.cons ru .nil),_,hT2,rfl,_,rfl⟩
  refine ⟨.ref s.heap.objs.size,_,I1,rfl,⟨_,x,rfl,I.fresh,rfl,fun ys hy=>by rw [I.list_inj hy hq]; exact hx⟩,⟨⟨u,by simpa using he2⟩,hit1.at fun o q=>(hs2.2 it hei.symm).trans q⟩,fun b hb=>?_⟩
  rw [upd_ne]
  ·exact (hf b hb).1
  ·rcases xak.mp hb with rfl | hb
   ·exact xaA hlt
   ·have e:b=it:=by simpa using hb
    subst e
    obtain ⟨o,q,_⟩:=hit
    exact xaA (xao q)
 done:=by
  intro X hP hw hK hc i pins s σ H E I hf st hg
  subst hP hw hK
  obtain ⟨xs,hq,hx⟩:=hg
  obtain ⟨its,rv,p,hz⟩:=I.list hq
  obtain ⟨⟨old,he⟩,hit⟩:=st
  have hl:=rv.length
  exact wpAny_pyNext_enum_end (I.ok.hd hc) he hit p.isList (by simp; lia) fun h' eb=>⟨rfl,I.Ga (t':=s.toks) hf fun b o hb q=>eb b o (fun z=>hb (by simp [z])) q⟩
 self:=fun _ _ _ _ _ ⟨⟨old,he⟩,_⟩ h=>wpAny_pyIter_enum he h
def Itz (K:PySem.W.Frag) (a b:Addr):It :=
 ⟨fun i H=>∃ xs ys x y,SqL K H a xs/\SqL K H b ys/\xs[i]? = some x/\ys[i]? = some y,fun i H x H'=>∃ p u v,x=.ref p/\H p=none/\H'=upd H p (.tup [u,v])/\(∀ xs,SqL K H a xs->xs[i]? = some u)/\∀ ys,SqL K H b ys->ys[i]? = some v,
  fun i H=>∃ xs ys,SqL K H a xs/\SqL K H b ys/\(xs.length<=i\/ys.length<=i)⟩
theorem Ed (h:b∈[n+1,n]):n<=b:=by simp at h; lia
section
variable {X:Cx}
def FZ (K:PySem.W.Frag) (ta:TA):TI:=fun σ H R=>ta σ H fun vs H1=>∃ a,vs=[.ref a]/\(∃ xs,SqL K H1 a xs)/\R (Ite K a) H1
theorem zr (hg:Gl X "enumerate") (hm:X.mg "enumerate" = none) (ha:PA X [a] ta) (hs:starEach [a] X.env=[(false,eval a X.env)]:=by rfl) :
  PI X (.Tuple elts k tp) (.Call (.Name "enumerate" p) [a] [] pos) (FZ X.K ta):=by
 intro pins s σ H R I h
 refine Call_ (ld_blt I hg hm boot_enumerate (PyProof.Rows.callWith_type1 (thn (ha pos pins s σ H _ I h) fun us s1 hx5=>L2.ex2 hx5 fun vs H1 I1 r1 q1=>?_) hs rfl))
 obtain ⟨l,e,⟨xs,hq⟩,q⟩:=q1
 subst e
 cases r1 with
 | cons r rr =>
  cases rr
  cases r
  obtain ⟨its,rv,pl,hz⟩:=I1.list hq
  refine call_enumerate_list pl.isList fun h2 he hit hsz hk=>?_
  refine wpAny_pyIter_enum (s:={ s1 with heap:=h2 }) he ?_
  refine ⟨s1.heap.objs.size+1,[s1.heap.objs.size+1,s1.heap.objs.size],_,_,H1,rfl,I1.kept (t':=s1.toks) hk,vf l _ _ (Nat.succ_ne_self _),⟨⟨_,he⟩,hit⟩,fun b hb=>?_,q⟩
  have e:s1.heap.objs.size<=b:=Ed hb
  exact I1.fpOk e (I1.hok.fresh e)
end
def rlN (sc:Scope) (names:List (Str × NameKind)):List (Str × NameKind):=names.map fun y=>if (y.2 == NameKind.free && sc.kind == .function && sc.names.lookup y.1 == some .cell)=true then (y.1,NameKind.cell) else (y.1,y.2)
def vis2 (o:Option NameKind):Bool:=o == some .cell || o == some .free
def zq (sc scope:Scope) (N cn:List Str) (ix:List Nat):Bool :=
 scope.kind == .function && scope.names.all (fun y=>y.2 != .cell) && scope.names.all (fun y=>y.2 != .free || vis2 (sc.names.lookup y.1)) && scope.names.all (fun y=>y.2 != .local || scope.names.lookup y.1 == some .local) &&
 ix.length == cn.length && (List.range ix.length).all (fun k=>match ix[k]?,cn[k]? with
  | some j,some y=>N[j]? == some y && vis2 (sc.names.lookup y) && scope.names.contains (y,NameKind.free) && vis2 ((rlN sc scope.names).lookup y)
  | _,_=>false) &&
 (rlN sc scope.names).all (fun y=>!(y.2 == .cell || y.2 == .free) || scope.names.contains (y.1,NameKind.free))
theorem iI (h:vis2 o=true):o=some .cell\/o=some .free:=by
 unfold vis2 at h
 simpa using h
theorem cg.of {X:Cx} (hsc:X.env.scope=sc) (hN:X.N=N) (h:zq sc scope N cn ix=true):cg X scope tn cn ix:=by
 unfold zq at h
 simp only [xay] at h
 obtain ⟨⟨⟨⟨⟨⟨h1,h2⟩,h3⟩,h4⟩,h5⟩,h6⟩,h7⟩:=h
 rw [xbY] at h2 h3 h4 h6 h7
 have erl:(relabel scope X.env).names=rlN sc scope.names:=by
  unfold relabel rlN
  rw [<- hsc]
  rfl
 refine ⟨by simpa using h1,fun y hy=>by simpa using h2 y hy,fun y hy hk=>?_,fun y hy hk=>?_,by simpa using h5,fun k j hk=>?_,fun x hx=>?_⟩
 ·have:=h3 y hy
  rw [hk] at this
  rw [hsc]
  exact iI (by simpa using this)
 ·have:=h4 y hy
  rw [hk] at this
  simpa using this
 ·have hk':k<ix.length:=(xaw.mp hk).1
  have:=h6 k (xaS.mpr hk')
  rw [hk] at this
  cases e:cn[k]? with
  | none=>rw [e] at this; cases this
  | some y =>
   rw [e] at this
   simp only [xay] at this
   obtain ⟨⟨⟨a1,a2⟩,a3⟩,a4⟩:=this
   refine ⟨y,rfl,by rw [hN]; simpa using a1,by rw [hsc]; exact iI a2,by simpa using a3,by rw [erl]; exact iI a4⟩
 ·rw [erl] at hx
  have mem:∃ k,(x,k)∈rlN sc scope.names/\(k=.cell\/k=.free):=by
   rcases hx with hx | hx
   ·exact ⟨_,PySem.mem_of_lookup hx,.inl rfl⟩
   ·exact ⟨_,PySem.mem_of_lookup hx,.inr rfl⟩
  obtain ⟨k,hm,hk⟩:=mem
  have:=h7 _ hm
  rcases hk with rfl | rfl <;> simpa using this
structure Cal (P:Program) (w:World) (K:PySem.W.Frag) (mg:Str->Option Value) (base:Heap) (k:Nat) (x:Str) (ps:List Str) (sp:Sp):Prop where
 ex:∃ (g:Addr) (fd:FuncData),mg x=some (.ref g)/\PySem.W.keepIn K (.ref g)=true/\Binds K fd ps []/\FnOk P w K mg base CX0 k g fd ps sp
section
variable {X:Cx} {k:Nat} {x:Str} {ps:List Str} {sp:Sp} {p pos:Pos} {e:Expr} {es:List Expr} {t:TA}
theorem Cm (C:Cal X.prog X.w X.K X.mg X.base k x ps sp) (hr:Room k X.A) (ha:PA X (e :: es) t) (hg:Gl X x:=by rfl) (hdb:(x == ("__debug__" : Str))=false:=by decide) (he:starEach (e :: es) X.env=(false,eval e X.env) :: starEach es X.env:=by rfl)
  (hpl:(backTo pos (starEach es X.env)).any (·.1)=false:=by rfl):PE X (.Call (.Name x p) (e :: es) [] pos) (tCall sp [] E0 t):=by
 obtain ⟨g,fd,hm,hk,hb,F⟩:=C.ex
 exact pe_call F hr hg hm hk hb .nil pass0 ha hdb he hpl
end
theorem Fun.cal {P:Program} {K:PySem.W.Frag} {st:Stmt} {ps:List Str} (F:Fun K x qual st f fd) (hm:mg x=some (.ref f))
  (G:FnOk P w K mg base CX0 k f fd ps sp)
  (h:∀ (kV doc pm:Value) (an:Option Addr) (cdv ct:Value) (us:List Value),us.length=ps.length->bindArgs (PySem.W.fnOf x qual (defArgs st) (defBody st) (defScope st) .none kV doc pm an cdv ct) ⟨us,[]⟩=pure (ps.zip us)):Cal P w K mg base k x ps sp :=
 ⟨f,fd,hm,F.kp,F.binds h,G⟩
theorem zf:bootBuiltins "int" = some (.type "int"):=by decide +kernel
theorem vh:bootBuiltins "bool" = some (.type "bool"):=by decide +kernel
theorem vM:bootBuiltins "list" = some (.type "list"):=by decide +kernel
theorem g8:bootBuiltins "isinstance" = some (.builtin "isinstance"):=by decide +kernel
theorem l_:bootBuiltins "len" = some (.builtin "len"):=by decide +kernel
theorem zL {X:Cx} {T:String} (hm:X.mg x=none) (hv:bootBuiltins x=some (.type T)) (hg:Gl X x:=by rfl) (hn:x ≠ "__name__" := by decide) (hd:(x == ("__debug__" : Str))=false:=by decide):PE X (.Name x pos) (tC (.ty T)) :=
 pe_bltn hg hm hv rfl hn hd
def inS (i j:Str):Bool:=!(Builtin.Str.occurrences j i 0 j.length 1).isEmpty
def rInU (K:PySem.W.Frag) (neg:Bool):R2:=fun x y H Q=>match x,y with
 | .str i,.str j=>Q (.bl (if neg then !inS i j else inS i j)) H
 | _,.ref p=>(∃ o,DGet H p x o/\Q (.bl (if neg then !o.isSome else o.isSome)) H)\/rIn K neg x y H Q
 | _,_=>False
theorem Ec {X:Cx} (hu:X.A.units+64<cLine):OpR X (compareOp .In) (rInU X.K false):=by
 intro pins s σ H x y v u Q I rx ry h
 unfold rInU at h
 split at h
 ·exact op_in_str pins s σ H _ _ v u Q I rx ry ⟨_,_,rfl,rfl,h⟩
 ·rcases h with ⟨o,g,q⟩ | h
  ·cases ry
   exact d_in (by lia) I g rx fun s3 I3=>⟨.bl o.isSome,H,I3,rfl,q⟩
  ·exact op_in_seq pins s σ H _ _ v u Q I rx ry h
 ·exact h.elim
theorem wy {X:Cx} (hu:X.A.units+64<cLine):OpR X (compareOp .NotIn) (rInU X.K true):=by
 intro pins s σ H x y v u Q I rx ry h
 unfold rInU at h
 split at h
 ·exact op_notin_str pins s σ H _ _ v u Q I rx ry ⟨_,_,rfl,rfl,h⟩
 ·rcases h with ⟨o,g,q⟩ | h
  ·cases ry
   exact d_notIn (by lia) I g rx fun s3 I3=>⟨.bl (!o.isSome),H,I3,rfl,q⟩
  ·exact op_notIn_seq pins s σ H _ _ v u Q I rx ry h
 ·exact h.elim
theorem Same.upd (h:Same H H') (hp:H' p=none):Same H (upd H' p o):=fun b u e=>by
 have e':=h b u e
 rw [upd_ne (ne_of_none e' hp)]
 exact e'
theorem Same.lst {K:PySem.W.Frag} (e:Same H H') (h:SqL K H a xs):SqL K H' a xs:=e.seq h
theorem Same.tup {K:PySem.W.Frag} (e:Same H H') (h:SqT K H a xs):SqT K H' a xs:=by
 rcases h with (h | ⟨o,h⟩) | h
 ·exact .inl (.inl (e _ _ h))
 ·exact .inl (.inr ⟨o,e _ _ h⟩)
 ·exact .inr h
mutual
theorem Rep.same {K:PySem.W.Frag} (s:Same H H'):∀ {d:PyData} {v:V},Rep K H d v->Rep K H' d v
 | _,_,.none=>.none
 | _,_,.bool b=>.bool b
 | _,_,.int i=>.int i
 | _,_,.str x=>.str x
 | _,_,.list h hs=>.list (s.lst h) (Reps.same s hs)
 | _,_,.tuple h hs=>.tuple (s.tup h) (Reps.same s hs)
theorem Reps.same {K:PySem.W.Frag} (s:Same H H'):∀ {ds:List PyData} {vs:List V},Reps K H ds vs->Reps K H' ds vs
 | _,_,.nil=>.nil
 | _,_,.cons h hs=>.cons (Rep.same s h) (Reps.same s hs)
end
theorem SqL.new {K:PySem.W.Frag}:SqL K (upd H p (.lst xs)) p xs:=.inl (.inl upd_same)
theorem SqT.new {K:PySem.W.Frag}:SqT K (upd H p (.tup xs)) p xs:=.inl (.inl upd_same)
section
variable {X:Cx} {K:PySem.W.Frag}
theorem kEq (hu:X.A.units+64<cLine) (hK:X.K=K:=by rfl):OpR X (compareOp .Eq) (rEqU K):=by subst hK; exact Dh hu
theorem kNe (hu:X.A.units+64<cLine) (hK:X.K=K:=by rfl):OpR X (compareOp .NotEq) (rNeU K):=by subst hK; exact Cg hu
theorem kIn (hu:X.A.units+64<cLine) (hK:X.K=K:=by rfl):OpR X (compareOp .In) (rInU K false):=by subst hK; exact Ec hu
theorem qi (hu:X.A.units+64<cLine) (hK:X.K=K:=by rfl):OpR X (compareOp .NotIn) (rInU K true):=by subst hK; exact wy hu
end
theorem Kq {α:Type} {a:α} {p:α->Prop}:(∃ v,a=v/\p v)↔p a:=⟨fun ⟨_,e,h⟩=>e ▸ h,fun h=>⟨a,rfl,h⟩⟩
end L2
namespace L2
open PySem PySem.Spec PyProof.Rows
abbrev Ents:=Array DictEntry
def RawD (h:Heap) (d:Addr) (es:Ents) (ep:Nat):Prop:=∃ o,h.get? d=some o/\o.ExactDict/\o.data=.dict es ep
theorem RawD.typ {s:Shared} {d:Addr} {es:Ents} {ep:Nat} (x:RawD s.heap d es ep):s.TypeIs (.ref d) "dict" := let ⟨o,e,c,_⟩:=x; ⟨o,e,c.1⟩
section
variable {prog:Program} {w:World} {A:Around} {E:Value->Shared->Prop} {s:Shared} {d it:Addr} {es:Ents} {ep i:Nat}
theorem yh {Q:Value->Shared->Prop} (lo:(d == sysModules)=false) (x:RawD s.heap d es ep)
  (q:Q (.ref s.heap.objs.size) { s with heap:=s.heap.push { cls:=.type "dict_keyiterator",data:=.fields #[.ref d,.int 0 0,.int es.size 0,.int ep 0] } }):wpAny (model prog w) A (pyIter (.ref d)) Q E s:=by
 obtain ⟨o,ho,hc,hdat⟩:=id x
 refine wpAny_pyIter_slot x.typ F.slot_dict_iter (wpAny_call_entry F.slot_dict_iter x.typ F.entry_dict_iter ?_ (F.args_dict_iter_1 _))
 unfold Builtin.«dict.__iter__»
 refine xaa ?_
 unfold Builtin.Dict.dictSlotNone
 refine xaa (wpAny_notOrdered_dict x.typ ?_)
 refine (show wpAny _ _ (pure (Value.ref d)) _ _ s from xae ?_)
 refine (show wpAny _ _ (Builtin.Dict.showsAll d >>= _) _ _ s from ?_)
 unfold Builtin.Dict.showsAll
 rw [if_neg (by rw [lo]; decide)]
 refine xaa (xae (xaa (wpAny_dictEntries ho hdat (xaa (wpAny_dictEpoch ho hdat (xaa (wpAny_newObj_type (xae ⟨_,rfl, "dict_keyiterator",_,⟨_,xaI _ rfl,rfl⟩,F.slot_dict_keyiterator_next.lookup,?_⟩))))))))
 simpa [rawInt] using q
theorem yj (hit:s.heap.IsKeyIter it d i es.size ep) (x:RawD s.heap d es ep) (hx:i<es.size)
  (q:∀ h',h'.IsKeyIter it d (i+1) es.size ep->Heap.SameBut it s.heap h'->Q (some es[i].key) { s with heap:=h' }):wpAny (model prog w) A (pyNext (.ref it)) Q E s:=by
 obtain ⟨o,ho,hc,hd⟩:=id hit
 obtain ⟨od,hod,hcd,hdd⟩:=id x
 have ty:=hit.typeIs
 unfold pyNext
 refine xaa (wpAny_attempt (wpAny_callSpecial?_slot (name:=Str.ofString "__next__") ty F.slot_dict_keyiterator_next (wpAny_call_entry F.slot_dict_keyiterator_next ty F.entry_dict_keyiterator_next ?_ (F.args_dict_keyiterator_next_1 _))))
 refine xaa (xae (xaa (xaa ?_)))
 first | refine xaa (wpAny_typeNameOfWhole_keyiter ty (xae ?_)) | refine xaa (wpAny_typeNameOf_keyiter ty (xae ?_))
 refine xaa (wpAny_fieldsOf ho hd ?_)
 simp only [show Builtin.Dict_items.ownsTuple "dict_keyiterator" = false by decide,xat,if_false]
 refine (show wpAny _ _ (if (Value.ref d == Value.none)=true then _ else _) _ _ s from ?_)
 rw [if_neg (show ¬ ((Value.ref d == Value.none)=true) by intro h; cases h)]
 refine xaa (xae (xaa (wpAny_dictEntries hod hdd ?_)))
 rw [if_neg (by intro h; simp at h)]
 refine xaa (xae (xaa (wpAny_dictEpoch hod hdd ?_)))
 rw [if_neg (by intro h; simp at h)]
 refine xae ?_
 simp only [show ¬ ((i:Int)<0) by lia,if_false,Int.toNat_natCast,Array.getElem?_eq_getElem hx]
 refine xaa ?_
 first | refine xaa (wpAny_typeNameOfWhole_keyiter ty (xae ?_)) | refine xaa (wpAny_typeNameOf_keyiter ty (xae ?_))
 refine xaa (wpAny_isOneOf_keyiter ty ?_)
 refine (show wpAny _ _ (setField (.ref it) 1 (rawInt ((i:Int)+1)) >>= _) _ _ s from xaa (wpAny_setField ho hd (by simp) ?_))
 have hit':(s.heap.update it (Obj.mapFields (·.setIfInBounds 1 (rawInt ((i:Int)+1))))).IsKeyIter it d (i+1) es.size ep :=
  ⟨_,xbB _ ho (Obj.isFreed_of_fields (Obj.data_mapFields hd _)),(Obj.cls_mapFields ..).trans hc,by rw [Obj.data_mapFields hd]; simp [rawInt]⟩
 refine xaa (wpAny_holding (xaa (wpAny_isOneOf_keyiter (s:={ s with heap:=s.heap.update it (Obj.mapFields (·.setIfInBounds 1 (rawInt ((i:Int)+1)))) }) hit'.typeIs ?_)))
 refine (show wpAny _ _ (pure es[i].key) _ _ _ from xae (xae ⟨_,rfl,xae (q _ hit' (Heap.SameBut.update ..))⟩))
theorem yF (hh:A.handled=none) (hit:s.heap.IsKeyIter it d es.size es.size ep) (x:RawD s.heap d es ep) (q:∀ h',Heap.ExtBut it s.heap h'->Q none { s with heap:=h' }) :
  wpAny (model prog w) A (pyNext (.ref it)) Q E s:=by
 obtain ⟨o,ho,hc,hd⟩:=id hit
 obtain ⟨od,hod,hcd,hdd⟩:=id x
 have ty:=hit.typeIs
 unfold pyNext
 refine xaa (wpAny_attempt (wpAny_callSpecial?_slot (name:=Str.ofString "__next__") ty F.slot_dict_keyiterator_next (wpAny_call_entry F.slot_dict_keyiterator_next ty F.entry_dict_keyiterator_next ?_ (F.args_dict_keyiterator_next_1 _))))
 refine xaa (xae (xaa (xaa ?_)))
 first | refine xaa (wpAny_typeNameOfWhole_keyiter ty (xae ?_)) | refine xaa (wpAny_typeNameOf_keyiter ty (xae ?_))
 refine xaa (wpAny_fieldsOf ho hd ?_)
 simp only [show Builtin.Dict_items.ownsTuple "dict_keyiterator" = false by decide,xat,if_false]
 refine (show wpAny _ _ (if (Value.ref d == Value.none)=true then _ else _) _ _ s from ?_)
 rw [if_neg (show ¬ ((Value.ref d == Value.none)=true) by intro h; cases h)]
 refine xaa (xae (xaa (wpAny_dictEntries hod hdd ?_)))
 rw [if_neg (by intro h; simp at h)]
 refine xaa (xae (xaa (wpAny_dictEpoch hod hdd ?_)))
 rw [if_neg (by intro h; simp at h)]
 refine xae ?_
 simp only [show ¬ ((es.size:Int)<0) by lia,if_false,Int.toNat_natCast,xby (xah es.size)]
 refine xaa ?_
 first | refine xaa (wpAny_typeNameOfWhole_keyiter ty (xae ?_)) | refine xaa (wpAny_typeNameOf_keyiter ty (xae ?_))
 refine (show wpAny _ _ (setField (.ref it) 0 .none >>= _) _ _ s from xaa (wpAny_setField ho hd (by simp) ?_))
 refine (show wpAny _ _ (newExc (.type "StopIteration") [] >>= _) _ _ _ from xaa ?_)
 simp only [newExc,newTuple]
 refine xaa (wpAny_newObj_type ?_ (by size_fits))
 refine xaa (m:=firstArgMember _ _) (wpAny_of_eq (a:=Value.none) (by first | rfl | (simp only [firstArgMember]; rfl)) (wpAny_newObj_type ?_ (by size_fits)))
 simp only [raiseNew]
 refine xaa (wpAny_handled ?_)
 rw [show A.in1.handled=none from hh]
 refine xaa (xae (wpAny_throw ?_))
 refine xaa (wpAny_isInstance (b:=true) (T := "StopIteration") ⟨_,xaI _ rfl,rfl⟩ isSubtype_stop ?_)
 exact xae (q _ (((Heap.SameBut.update ..).extBut.push _).push _))
theorem RawD.at (x:RawD h d es ep) (e:∀ o,h.get? d=some o->h'.get? d=some o):RawD h' d es ep:=let ⟨o,ho,r⟩:=x; ⟨o,e o ho,r⟩
theorem RawD.lt (x:RawD h d es ep):d<h.objs.size:=let ⟨_,e,_⟩:=x; xao e
theorem wL (hh:A.handled=none) (I:Addr) (hne:d≠I):Walks prog w A I [I,d] [I] es.size (fun i v=>∃ e,es[i]? = some e/\v=e.key) (fun i h=>h.IsKeyIter I d i es.size ep/\RawD h d es ep) where
 sub:=fun b hb=>by simp at hb; simp [hb]
 frame:=fun _ _ _ st hk=>⟨st.1.at fun o e=>hk I (by simp) o e,st.2.at fun o e=>hk d (by simp) o e⟩
 item:=fun i s Q E hi st hQ=>yj st.1 st.2 hi fun h' a b=>hQ _ h' s.toks ⟨es[i],by simp [hi],rfl⟩ ⟨a,st.2.at fun o e=>b.extBut d o hne e⟩ fun c o hb e=>b.extBut c o (fun h=>hb (by simp [h])) e
 done:=fun s Q E st hQ=>yF hh st.1 st.2 fun h' he'=>hQ h' s.toks fun b o hb e=>he' b o (fun h=>hb (by simp [h])) e
 self:=fun _ _ _ _ st hQ=>wpAny_pyIter_keyiter st.1 hQ
theorem Bb (lo:(d == sysModules)=false):PySem.W.KdlSrc prog w "dict" d d es.size (fun i v=>∃ e,es[i]? = some e/\v=e.key) (fun h=>RawD h d es ep) where
 type:=fun _ x=>x.typ
 there:=fun _ x=>⟨x.lt,x.lt⟩
 keep:=fun _ _ x hk=>x.at fun o e=>hk d (.inl rfl) o e
 notList:=by decide
 notTuple:=by decide
 hint:=fun _ _ _ _ x hq=>PySem.W.kdl_hint_dict x.typ hq
 iter:=fun _ _ hh x=>⟨_,_,(fun _ _ hq=>yh lo x hq),wL hh _ (xaA x.lt),⟨⟨_,xaI _ rfl,rfl,rfl⟩,x.at fun o e=>xau _ e⟩⟩
end
theorem Paired.n0 {α β:Type} {R:α->β->Prop} {bs:List β} (h:Paired R [] bs):bs=[]:=by cases h; rfl
theorem Paired.c {α β:Type} {R:α->β->Prop} {a:α} {as:List α} {bs:List β} (h:Paired R (a :: as) bs):∃ b cs,bs=b :: cs/\R a b/\Paired R as cs:=by
 cases h with
 | cons r t=>exact ⟨_,_,rfl,r,t⟩
def cT (H:Hp) (ys:List V) (ks:List (List Key)):Prop:=Paired (fun (v:V) (k:List Key)=>∃ b,v=.ref b/\H b=some (.tup (k.map kV))) ys ks
section
variable {X:Cx}
def t_:List V->Hp->VK->Prop:=fun xs H Q=>match xs with
 | [.ref p]=>∃ kvs,Rd H p (.dT kvs)/\∀ ys l,cT H ys (kvs.map (·.1))->H l=none->Q (.ref l) (upd H l (.lst ys))
 | _=>False
theorem Be
  (h:Paired (fun (p:List Key × V) (q:List Key × Addr × Value)=>p.1=q.1/\H q.2.1=some (.tup (p.1.map kV))/\RelV p.2 q.2.2) kvs xs) :
  cT H (xs.map fun q=>.ref q.2.1) (kvs.map (·.1))/\Vals (xs.map fun q=>.ref q.2.1) ((xs.map (entryOfKey (tupleKind (mixKind prog w)))).map (·.key)):=by
 induction h with
 | nil=>exact ⟨.nil,.nil⟩
 | cons r t ih=>exact ⟨.cons ⟨_,rfl,r.2.1⟩ ih.1,.cons rfl ih.2⟩
theorem uG (hc:X.calm=true):CallR X (.type "list") t_:=by
 intro pins s σ H xs us Q I r h
 unfold t_ at h
 split at h
 ·rename_i p
  obtain ⟨kvs,e,q⟩:=h
  obtain ⟨u,rfl,ru⟩:=Vals.one r
  cases ru
  obtain ⟨z,y,ps,rel,o,es,ep,h1,h2,h3,h4,h5⟩:=(show ObjOk X.prog X.w H s.heap p (.dT kvs) from I.rd e)
  obtain ⟨ta,va⟩:=Be (prog:=X.prog) (w:=X.w) rel
  have hlen:es.size=kvs.length:=by
   have:=congrArg List.length h4
   rw [xaY,xad] at this
   rw [this]; exact rel.length.symm
  refine PySem.W.kdl_call (Bb (es:=es) (ep:=ep) y) (I.ok.hd hc) ⟨o,h1,h2,h3⟩ (by lia) fun h' tk acc c kp eo hacc=>?_
  have hv:acc.toList=(ps.map (entryOfKey (tupleKind (mixKind X.prog X.w)))).map (·.key):=by
   apply xbC
   intro i
   by_cases hi:i<es.size
   ·have hi2:i<acc.size:=by rw [hacc.1]; exact hi
    obtain ⟨en,e1,e2⟩:=hacc.2 i acc[i] (by simp [hi2])
    rw [<- h4,xaN,xaQ,xaQ,e1]
    simp [hi2,e2]
   ·rw [<- h4,xaN,xaQ,xaQ,xby (by rw [hacc.1]; lia),xby (by lia)]
    rfl
  refine ⟨.ref s.heap.objs.size,_,I.laid (t':=tk) kp (xah _) (show ObjOk X.prog X.w _ h' _ (.lst (ps.map fun q=>.ref q.2.1)) from ⟨?_,acc.toList,c,?_,?_⟩),rfl,q _ _ ta (I.hok.fresh (xah _))⟩
  ·rw [xad,<- rel.length]; exact z
  ·rw [hv]; exact va
  ·rw [Array.toArray_toList]; exact eo
 ·exact h.elim
end
end L2
namespace Tim
open PySem PyProof.Rows
def R (r:Value->Int) (xs:Array Keyed) (i:Nat):Int:=match xs[i]? with
 | some p=>r p.1
 | none=>0
theorem cZ (h:xs[i]? = ys[j]?):R r xs i=R r ys j:=by unfold R; rw [h]
def Cmp (prog:Program) (w:World) (A:Around) (s:Shared) (κ:SortKind) (r:Value->Int) (P:Value->Prop):Prop :=
 ∀ x y,P x->P y->∀ (Q:Bool->Shared->Prop) (E:Value->Shared->Prop),Q (decide (r x<r y)) s->wpAny (model prog w) A (keyLt' κ x y) Q E s
def AllP (P:Value->Prop) (xs:Array Keyed):Prop:=∀ p∈xs.toList,P p.1
theorem AllP.perm {P:Value->Prop} (h:AllP P xs) (hp:ys.Perm xs):AllP P ys:=fun p hm=>h p ((xbI.mp hp).mem_iff.mp hm)
theorem AllP.at {P:Value->Prop} {xs:Array Keyed} (h:AllP P xs) {i:Nat} {p:Keyed} (e:xs[i]? = some p):P p.1:=h p (by
 obtain ⟨hi,rfl⟩:=xbk.mp e
 simp)
structure Win (lo hi:Nat) (st st':SortSt):Prop where
 kind:kindOf st'=kindOf st
 failed:failedOf st'=failedOf st
 pend:pendingOf st'=pendingOf st
 perm:(arrOf st').Perm (arrOf st)
 out:∀ k,k<lo\/hi<=k->(arrOf st')[k]? = (arrOf st)[k]?
theorem Win.refl (lo hi:Nat) (st:SortSt):Win lo hi st st:=⟨rfl,rfl,rfl,Array.Perm.refl _,fun _ _=>rfl⟩
theorem Win.trans {lo hi:Nat} {a b c:SortSt} (h:Win lo hi a b) (g:Win lo hi b c):Win lo hi a c :=
 ⟨g.kind.trans h.kind,g.failed.trans h.failed,g.pend.trans h.pend,g.perm.trans h.perm,fun k hk=>(g.out k hk).trans (h.out k hk)⟩
theorem Win.mono {lo hi lo' hi':Nat} {a b:SortSt} (h:Win lo hi a b) (h1:lo'<=lo) (h2:hi<=hi'):Win lo' hi' a b :=
 ⟨h.kind,h.failed,h.pend,h.perm,fun k hk=>h.out k (by lia)⟩
theorem Win.size {lo hi:Nat} {a b:SortSt} (h:Win lo hi a b):(arrOf b).size=(arrOf a).size:=h.perm.size_eq
def Up (r:Value->Int) (xs:Array Keyed) (lo hi:Nat):Prop:=∀ i j,lo<=i->i<=j->j<hi->R r xs i<=R r xs j
def Down (r:Value->Int) (xs:Array Keyed) (lo hi:Nat):Prop:=∀ i j,lo<=i->i<=j->j<hi->R r xs j<=R r xs i
theorem tG (hs:src<xs.size) (hd:d<=src) (k:Nat) :
  R r (bubble xs src d) k=if k=src - d then R r xs src else if src - d<k/\k<=src then R r xs (k - 1) else R r xs k:=by
 have e:=getElem?_bubble hs d hd k
 by_cases h1:k=src - d
 ·rw [if_pos h1] at e ⊢; exact cZ e
 ·rw [if_neg h1] at e ⊢
  by_cases h2:src - d<k/\k<=src
  ·rw [if_pos h2] at e ⊢; exact cZ e
  ·rw [if_neg h2] at e ⊢; exact cZ e
theorem m_ (hj:j<=xs.size) (k:Nat) :
  R r (mirror xs i j ((j - i) / 2)) k=if i<=k/\k<j then R r xs (i+j - 1 - k) else R r xs k:=by
 have e:=getElem?_mirror_all (i:=i) hj k
 by_cases h1:i<=k/\k<j
 ·rw [if_pos h1] at e ⊢; exact cZ e
 ·rw [if_neg h1] at e ⊢; exact cZ e
theorem bU (hj:j<=xs.size) (heq:∀ k,i<=k->k<j->R r xs k=R r xs (j - 1)) (k:Nat) :
  R r (mirror xs i j ((j - i) / 2)) k=R r xs k:=by
 rw [m_ hj]
 split
 ·rw [heq _ (by lia) (by lia),heq k (by lia) (by lia)]
 ·rfl
section
variable {prog:Program} {w:World} {A:Around} {E:Value->Shared->Prop} {s:Shared} {κ:SortKind} {r:Value->Int} {P:Value->Prop}
theorem pY {st:SortSt} {x y:Keyed} {Q:Option Bool->SortSt->Prop} (C:Cmp prog w A s κ r P) (hk:kindOf st=κ) (hx:P x.1) (hy:P y.1) (h:Q (some (decide (r x.1<r y.1))) st) :
  wpS (model prog w) A E s (lt' x y) Q st:=by
 rw [lt'_eq]
 refine wpS_bind (wpS_get ?_)
 rw [hk]
 refine wpS_bind (wpS_lift (wpAny_attempt (C x.1 y.1 hx hy _ _ ⟨rfl,?_⟩)))
 exact wpS_pure h
theorem aJ {xs:Array Keyed} {i:Nat} {Q:Keyed->SortSt->Prop} {st:SortSt} (hi:i<xs.size) (h:∀ p,xs[i]? = some p->Q p st):wpS (model prog w) A E s (elem' xs i) Q st:=by
 rw [elem'_eq,getElem?_pos xs i hi]
 exact wpS_pure (h _ (getElem?_pos xs i hi))
theorem jC {st:SortSt} {i j:Nat} {Q:Option Bool->SortSt->Prop} (C:Cmp prog w A s κ r P) (hk:kindOf st=κ) (hP:AllP P (arrOf st)) (hi:i<(arrOf st).size) (hj:j<(arrOf st).size)
  (h:Q (some (decide (R r (arrOf st) i<R r (arrOf st) j))) st):wpS (model prog w) A E s (ltAt' i j) Q st:=by
 rw [ltAt'_eq]
 refine wpS_bind (wpS_get ?_)
 show wpS _ _ _ _ (do let x <- elem' (arrOf st) i; let y <- elem' (arrOf st) j; lt' x y) Q st
 refine wpS_bind (aJ hi fun p ep=>wpS_bind (aJ hj fun q eq=>pY C hk (hP.at ep) (hP.at eq) ?_))
 have e1:R r (arrOf st) i=r p.1:=by unfold R; rw [ep]
 have e2:R r (arrOf st) j=r q.1:=by unfold R; rw [eq]
 rw [<- e1,<- e2]
 exact h
theorem dq {st:SortSt} {i j:Nat} {Q:Unit->SortSt->Prop} (h:Q () (setArr st (mirror (arrOf st) i j ((j - i) / 2)))) :
  wpS (model prog w) A E s (reverseSlice' i j) Q st:=by
 rw [reverseSlice'_eq]; exact wpS_modify h
theorem gh {st:SortSt} {i j:Nat} (hj:j<=(arrOf st).size):Win i j st (setArr st (mirror (arrOf st) i j ((j - i) / 2))) :=
 ⟨rfl,rfl,rfl,mirror_perm _ _ _ _,fun k hk=>by
  have e:=getElem?_mirror_all (i:=i) hj k
  rw [if_neg (by lia)] at e
  exact e⟩
theorem uC {st:SortSt} {lo src d:Nat} (hs:src<(arrOf st).size) (hd:lo+d<=src):Win lo (src+1) st (setArr st (bubble (arrOf st) src d)) :=
 ⟨rfl,rfl,rfl,bubble_perm _ _ _,fun k hk=>by
  have e:=getElem?_bubble hs d (by walk_at "s4") k
  rw [if_neg (by lia),if_neg (by lia)] at e
  exact e⟩
theorem wpS_binarySort {st:SortSt} {lo n ok:Nat} {Q:Bool->SortSt->Prop} (C:Cmp prog w A s κ r P) (hk:kindOf st=κ) (hP:AllP P (arrOf st)) (hn:lo+n<=(arrOf st).size) (hok:ok<=n) (hs:Up r (arrOf st) lo (lo+ok))
  (h:∀ st',Win lo (lo+n) st st'->Up r (arrOf st') lo (lo+n)->Q true st'):wpS (model prog w) A E s (binarySort' lo n ok) Q st:=by
 rw [binarySort'_eq]
 refine wpS_bind (wpS_mono (wpS_forRange (I:=fun k c st'=>c=(none,())/\Win lo (lo+n) st st'/\Up r (arrOf st') lo (lo+min k n))
  (Q:=fun c st'=>c=(none,())/\Win lo (lo+n) st st'/\Up r (arrOf st') lo (lo+n)) ?step ?fin ?init) ?post)
 case post =>
  rintro c st' ⟨rfl,hB',hs'⟩
  exact wpS_pure (h st' hB' hs')
 case init =>
  refine ⟨rfl,.refl _ _ _,fun i j hl hij hj=>?_⟩
  by_cases h1:ok=0
  ·have:i=j:=by lia
   subst this; exact xa6 _
  ·exact hs i j hl hij (by lia)
 case fin =>
  rintro c st' ⟨hc,hB',hs'⟩
  refine ⟨hc,hB',?_⟩
  rwa [show min (max (max ok 1) n) n=n by lia] at hs'
 case step =>
  rintro k c st' hak hkn ⟨rfl,hB',hs'⟩
  rw [show min k n=k by lia] at hs'
  have hsz:=hB'.size
  have hk':kindOf st'=κ:=hB'.kind.trans hk
  have hP':=hP.perm hB'.perm
  refine wpS_bind (wpS_mono (wpS_forRange (I:=fun x c st''=>st''=st'/\∃ l r',c=(none,l,r')/\l<=r'/\r'<=k/\r' - l<=k - x /\
    (∀ i,lo<=i->i<lo+l->R r (arrOf st') i<=R r (arrOf st') (lo+k))/\(∀ i,lo+r'<=i->i<lo+k->R r (arrOf st') (lo+k)<R r (arrOf st') i))
   (Q:=fun c st''=>st''=st'/\∃ l r',c=(none,l,r')/\l<=k /\
    (∀ i,lo<=i->i<lo+l->R r (arrOf st') i<=R r (arrOf st') (lo+k))/\(∀ i,lo+l<=i->i<lo+k->R r (arrOf st') (lo+k)<R r (arrOf st') i)) ?istep ?ifin ?iinit) ?ipost)
  case iinit=>exact ⟨rfl,0,k,rfl,by exact xar _,by exact xah _,by exact Nat.sub_le _ _,fun i _ hi=>by lia,fun i h1 h2=>by lia⟩
  case ifin =>
   rintro c st'' ⟨rfl,l,r',rfl,hlr,hrk,hm,hlo,hhi⟩
   have:l=r':=by lia
   subst this
   exact ⟨rfl,l,l,rfl,hrk,hlo,hhi⟩
  case istep =>
   rintro x c st'' _ hxk ⟨rfl,l,r',rfl,hlr,hrk,hm,hlo,hhi⟩
   dsimp only
   by_cases hge:l >= r'
   ·rw [if_pos hge]
    have:l=r':=by exact xb7 ‹_› ‹_›
    subst this
    exact wpS_pure ⟨rfl,l,l,rfl,hrk,hlo,hhi⟩
   ·rw [if_neg hge]
    refine wpS_bind (jC C hk' hP' (by lia) (by lia) ?_)
    by_cases hless:R r (arrOf st'') (lo+k)<R r (arrOf st'') (lo+(l+r') / 2)
    ·simp only [hless,decide_true,if_true]
     refine wpS_pure ⟨rfl,l,(l+r') / 2,rfl,by lia,by lia,by lia,hlo,fun i h1 h2=>?_⟩
     exact Int.lt_of_lt_of_le hless (hs' _ _ (by exact xbe _ _) h1 h2)
    ·simp only [hless,decide_false,xat,if_false]
     refine wpS_pure ⟨rfl,(l+r') / 2+1,r',rfl,by lia,by lia,by lia,fun i h0 h1=>?_,hhi⟩
     exact xa2 (hs' i (lo+(l+r') / 2) h0 (by lia) (by lia)) (Int.not_lt.mp hless)
  case ipost =>
   rintro c st'' ⟨rfl,l,r',rfl,hlk,hlo,hhi⟩
   show wpS _ _ _ _ (do moveDown' (lo+k) (lo+l); pure (ForInStep.yield (none,()))) _ _
   rw [moveDown'_eq]
   have hks:lo+k<(arrOf st'').size:=by lia
   refine wpS_bind (wpS_modify (wpS_pure ⟨rfl,hB'.trans ((uC (lo:=lo) hks (by lia)).mono (xah _) (by lia)),?_⟩))
   rw [show min (k+1) n=k+1 by exact Nat.min_eq_left ‹_›]
   intro i j hl hij hj
   show R r (bubble (arrOf st'') (lo+k) (lo+k - (lo+l))) i<=R r (bubble (arrOf st'') (lo+k) (lo+k - (lo+l))) j
   rw [tG hks (by exact Nat.sub_le _ _),tG hks (by exact Nat.sub_le _ _),show lo+k - (lo+k - (lo+l))=lo+l by lia]
   repeat' split
   all_goals first
    | (exfalso; lia)
    | exact xa6 _
    | exact hlo _ (by lia) (by lia)
    | exact xbd (hhi _ (by lia) (by lia))
    | exact hs' _ _ (by lia) (by lia) (by lia)
end
def ascL (lo a nrem:Nat):StateT SortSt Sem AscSt :=
 forIn [a:nrem] ((none,a):AscSt) fun _ __s=>do
  let __x ← ltAt' (lo + __s.snd) (lo + __s.snd - 1)
  match __x with
  | some smaller=>if smaller=true then pure (ForInStep.done (none,__s.snd)) else pure (ForInStep.yield (none,__s.snd+1))
  | _=>pure (ForInStep.done (some none,__s.snd))
def pL (lo n nrem:Nat):StateT SortSt Sem (Option Nat):=do
 reverseSlice' lo (lo+n)
 let __s ← ascL lo n nrem
 match __s.fst with
 | some r=>pure r
 | none=>pure (some __s.snd)
def yC (lo n nrem:Nat):StateT SortSt Sem DescSt :=
 forIn [n:nrem] ((none,n,0):DescSt) fun _ __s=>do
  let __x ← ltAt' (lo + __s.snd.fst) (lo + __s.snd.fst - 1)
  match __x with
  | some smaller =>
   if smaller=true then
    if __s.snd.snd>0 then do
     reverseSlice' (lo+__s.snd.fst - (__s.snd.snd+1)) (lo+__s.snd.fst)
     pure (ForInStep.yield (none,__s.snd.fst+1,0))
    else pure (ForInStep.yield (none,__s.snd.fst+1,0))
   else do
    let __x ← ltAt' (lo+__s.snd.fst - 1) (lo+__s.snd.fst)
    match __x with
    | some larger =>
     if larger=true then pure (ForInStep.done (none,__s.snd.fst,__s.snd.snd))
     else pure (ForInStep.yield (none,__s.snd.fst+1,__s.snd.snd+1))
    | _=>pure (ForInStep.done (some none,__s.snd.fst,__s.snd.snd))
  | _=>pure (ForInStep.done (some none,__s.snd.fst,__s.snd.snd))
def fH (lo n nrem:Nat):StateT SortSt Sem (Option Nat):=do
 liftM (rule "list.sort.descending-run")
 let __s ← yC lo (n+1) nrem
 match __s.fst with
 | some r=>pure r
 | none =>
  if __s.snd.snd>0 then do
   reverseSlice' (lo+__s.snd.fst - (__s.snd.snd+1)) (lo+__s.snd.fst)
   pL lo __s.snd.fst nrem
  else pL lo __s.snd.fst nrem
theorem qj (lo nrem:Nat):countRun' lo nrem=(do
  let __s ← ascL lo 1 nrem
  match __s.fst with
  | some r=>pure r
  | none =>
   if (__s.snd == nrem)=true then pure (some __s.snd)
   else if __s.snd>1 then do
    let __x ← ltAt' lo (lo+__s.snd - 1)
    match __x with
    | some rose=>if rose=true then pure (some __s.snd) else do
      reverseSlice' lo (lo+__s.snd)
      fH lo __s.snd nrem
    | _=>pure none
   else fH lo __s.snd nrem):=by
 rw [countRun'_eq]
 dsimp only
 unfold fH pL yC ascL
 congr 1
 funext __s
 obtain ⟨r,n⟩:=__s
 cases r with
 | some r=>rfl
 | none =>
  dsimp only
  split
  ·rfl
  ·split
   ·congr 1
    funext x
    cases x with
    | none=>rfl
    | some rose =>
     dsimp only
     split
     ·rfl
     ·congr 1
      funext _r
      (congr 1; funext _u; congr 1; congr 1; funext s2; obtain ⟨r2,n2,q2⟩:=s2; cases r2 with
       | some r2=>rfl
       | none=>(dsimp only; split; (congr 1; funext _v; (congr 1; funext _w; congr 1; (funext s3; obtain ⟨r3,n3⟩:=s3; cases r3 <;> rfl))); (congr 1; funext _w; congr 1; (funext s3; obtain ⟨r3,n3⟩:=s3; cases r3 <;> rfl))))
   ·(congr 1; funext _u; congr 1; congr 1; funext s2; obtain ⟨r2,n2,q2⟩:=s2; cases r2 with
     | some r2=>rfl
     | none=>(dsimp only; split; (congr 1; funext _v; (congr 1; funext _w; congr 1; (funext s3; obtain ⟨r3,n3⟩:=s3; cases r3 <;> rfl))); (congr 1; funext _w; congr 1; (funext s3; obtain ⟨r3,n3⟩:=s3; cases r3 <;> rfl))))
section
variable {prog:Program} {w:World} {A:Around} {E:Value->Shared->Prop} {s:Shared} {κ:SortKind} {r:Value->Int} {P:Value->Prop}
theorem uc {st:SortSt} {lo a nrem:Nat} {Q:AscSt->SortSt->Prop} (C:Cmp prog w A s κ r P) (hk:kindOf st=κ) (hP:AllP P (arrOf st)) (hn:lo+nrem<=(arrOf st).size) (ha:1<=a) (han:a<=nrem)
  (hs:Up r (arrOf st) lo (lo+a))
  (h:∀ n,a<=n->n<=nrem->Up r (arrOf st) lo (lo+n)->(n=nrem\/R r (arrOf st) (lo+n)<R r (arrOf st) (lo+n - 1))->Q (none,n) st) :
  wpS (model prog w) A E s (ascL lo a nrem) Q st:=by
 unfold ascL
 refine wpS_forRange (I:=fun x c st'=>st'=st/\c=(none,x)/\Up r (arrOf st) lo (lo+x)) ?step ?fin ⟨rfl,rfl,hs⟩
 case fin =>
  rintro c st' ⟨rfl,rfl,hs'⟩
  rw [show max a nrem=nrem by lia] at hs' ⊢
  exact h nrem han (xah _) hs' (.inl rfl)
 case step =>
  rintro x c st' hax hxn ⟨rfl,rfl,hs'⟩
  dsimp only
  refine wpS_bind (jC C hk hP (by lia) (by lia) ?_)
  by_cases hless:R r (arrOf st') (lo+x)<R r (arrOf st') (lo+x - 1)
  ·simp only [hless,decide_true,if_true]
   exact wpS_pure (h x hax (by exact xaT ‹_›) hs' (.inr hless))
  ·simp only [hless,decide_false,xat,if_false]
   refine wpS_pure ⟨rfl,rfl,fun i j hl hij hj=>?_⟩
   by_cases hjx:j<lo+x
   ·exact hs' i j hl hij hjx
   ·have hj':j=lo+x:=by lia
    subst hj'
    by_cases hi':i=lo+x
    ·subst hi'; exact xa6 _
    ·exact xa2 (hs' i (lo+x - 1) hl (by lia) (by lia)) (Int.not_lt.mp hless)
theorem lW {st:SortSt} {lo n nrem:Nat} {Q:Option Nat->SortSt->Prop} (C:Cmp prog w A s κ r P) (hk:kindOf st=κ) (hP:AllP P (arrOf st)) (hn:lo+nrem<=(arrOf st).size) (h1:1<=n) (hnn:n<=nrem)
  (hs:Down r (arrOf st) lo (lo+n)) (h:∀ m st',Win lo (lo+nrem) st st'->1<=m->m<=nrem->Up r (arrOf st') lo (lo+m)->Q (some m) st') :
  wpS (model prog w) A E s (pL lo n nrem) Q st:=by
 unfold pL
 have hsz:lo+n<=(arrOf st).size:=by lia
 refine wpS_bind (dq ?_)
 have hB':=gh (i:=lo) hsz
 refine wpS_bind (uc C (hB'.kind.trans hk) (hP.perm hB'.perm) (by rw [hB'.size]; exact hn) h1 hnn ?_ fun m hm1 hm2 hsm _=>wpS_pure (h m _ (hB'.mono (xah _) (by lia)) (by walk_at "s1") hm2 hsm))
 intro i j hl hij hj
 show R r (mirror (arrOf st) lo (lo+n) ((lo+n - lo) / 2)) i<=R r (mirror (arrOf st) lo (lo+n) ((lo+n - lo) / 2)) j
 rw [m_ hsz,m_ hsz,if_pos (by lia),if_pos (by lia)]
 exact hs _ _ (by lia) (by lia) (by lia)
theorem vK {st:SortSt} {lo n nrem:Nat} {Q:DescSt->SortSt->Prop} (C:Cmp prog w A s κ r P) (hk:kindOf st=κ) (hP:AllP P (arrOf st)) (hn:lo+nrem<=(arrOf st).size) (h1:1<=n) (hnn:n<=nrem)
  (hs:Down r (arrOf st) lo (lo+n))
  (h:∀ m neq st',Win lo (lo+nrem) st st'->n<=m->m<=nrem->Down r (arrOf st') lo (lo+m)->neq+1<=m->(∀ i,lo+m - (neq+1)<=i->i<lo+m->R r (arrOf st') i=R r (arrOf st') (lo+m - 1))->Q (none,m,neq) st') :
  wpS (model prog w) A E s (yC lo n nrem) Q st:=by
 unfold yC
 refine wpS_forRange (I:=fun x c st'=>∃ neq,c=(none,x,neq)/\Win lo (lo+nrem) st st'/\Down r (arrOf st') lo (lo+x)/\neq+1<=x /\
   (∀ i,lo+x - (neq+1)<=i->i<lo+x->R r (arrOf st') i=R r (arrOf st') (lo+x - 1))) ?step ?fin ⟨0,rfl,.refl _ _ _,hs,by lia,fun i h1 h2=>by congr 1; lia⟩
 case fin =>
  rintro c st' ⟨neq,rfl,hB',hs',hq,he⟩
  rw [show max n nrem=nrem by lia] at hs' hq he ⊢
  exact h nrem neq st' hB' hnn (xah _) hs' hq he
 case step =>
  rintro x c st' hax hxn ⟨neq,rfl,hB',hs',hq,he⟩
  dsimp only
  have hz:=hB'.size
  have hsz:lo+x<=(arrOf st').size:=by lia
  have hk':=hB'.kind.trans hk
  have hP':=hP.perm hB'.perm
  refine wpS_bind (jC C hk' hP' (by lia) (by lia) ?_)
  by_cases hless:R r (arrOf st') (lo+x)<R r (arrOf st') (lo+x - 1)
  ·simp only [hless,decide_true,if_true]
   have step1:∀ xs:Array Keyed,(∀ k,R r xs k=R r (arrOf st') k)->Down r xs lo (lo+(x+1)):=by
    intro xs hkk i j hl hij hj
    rw [hkk,hkk]
    by_cases hjx:j<lo+x
    ·exact hs' i j hl hij hjx
    ·have hj':j=lo+x:=by lia
     subst hj'
     by_cases hi':i=lo+x
     ·subst hi'; exact xa6 _
     ·exact xa2 (xbd hless) (hs' i (lo+x - 1) hl (by lia) (by lia))
   by_cases hneq:neq>0
   ·rw [if_pos hneq]
    refine wpS_bind (dq (wpS_pure ⟨0,rfl,hB'.trans ((gh hsz).mono (by lia) (by lia)),step1 _ (bU hsz he),by exact xbm _,fun i h1 h2=>by congr 1; lia⟩))
   ·rw [if_neg hneq]
    exact wpS_pure ⟨0,rfl,hB',step1 _ (fun _=>rfl),by exact xbm _,fun i h1 h2=>by congr 1; lia⟩
  ·simp only [hless,decide_false,xat,if_false]
   refine wpS_bind (jC C hk' hP' (by lia) (by lia) ?_)
   by_cases hlarger:R r (arrOf st') (lo+x - 1)<R r (arrOf st') (lo+x)
   ·simp only [hlarger,decide_true,if_true]
    exact wpS_pure (h x neq st' hB' hax (by exact xaT ‹_›) hs' hq he)
   ·simp only [hlarger,decide_false,xat,if_false]
    have heqx:R r (arrOf st') (lo+x)=R r (arrOf st') (lo+x - 1):=by lia
    refine wpS_pure ⟨neq+1,rfl,hB',fun i j hl hij hj=>?_,by exact Nat.lt_succ_of_le ‹_›,fun i h1 h2=>?_⟩
    ·by_cases hjx:j<lo+x
     ·exact hs' i j hl hij hjx
     ·have hj':j=lo+x:=by lia
      subst hj'
      by_cases hi':i=lo+x
      ·subst hi'; exact xa6 _
      ·rw [heqx]; exact hs' i (lo+x - 1) hl (by lia) (by lia)
    ·rw [show lo+(x+1) - 1=lo+x by rfl]
     by_cases hix:i=lo+x
     ·subst hix; rfl
     ·rw [heqx]; exact he i (by lia) (by lia)
theorem gO {st:SortSt} {lo n nrem:Nat} {Q:Option Nat->SortSt->Prop} (C:Cmp prog w A s κ r P) (hk:kindOf st=κ) (hP:AllP P (arrOf st)) (hn:lo+nrem<=(arrOf st).size) (hnn:n+1<=nrem)
  (hs:Down r (arrOf st) lo (lo+(n+1))) (h:∀ m st',Win lo (lo+nrem) st st'->1<=m->m<=nrem->Up r (arrOf st') lo (lo+m)->Q (some m) st') :
  wpS (model prog w) A E s (fH lo n nrem) Q st:=by
 unfold fH
 refine wpS_bind (wpS_lift (wpAny_rule ⟨rfl,?_⟩))
 refine wpS_bind (vK C hk hP hn (by exact xbm _) hnn hs fun m neq st' hB' hm1 hm2 hs' hq he=>?_)
 dsimp only
 have hz:=hB'.size
 have hsz:lo+m<=(arrOf st').size:=by lia
 have hk':=hB'.kind.trans hk
 have hP':=hP.perm hB'.perm
 by_cases hneq:neq>0
 ·rw [if_pos hneq]
  have hW:=gh (i:=lo+m - (neq+1)) hsz
  refine wpS_bind (dq (lW C (hW.kind.trans hk') (hP'.perm hW.perm) (by rw [hW.size,hz]; exact hn) (by walk_at "s2") hm2 ?_ fun m2 st2 hB2=>h m2 st2 ((hB'.trans (hW.mono (by lia) (by lia))).trans hB2)))
  intro i j hl hij hj
  show R r (mirror (arrOf st') _ _ _) j<=R r (mirror (arrOf st') _ _ _) i
  rw [bU hsz he,bU hsz he]
  exact hs' i j hl hij hj
 ·rw [if_neg hneq]
  exact lW C hk' hP' (by rw [hz]; exact hn) (by lia) hm2 hs' fun m2 st2 hB2=>h m2 st2 (hB'.trans hB2)
theorem wpS_countRun {st:SortSt} {lo nrem:Nat} {Q:Option Nat->SortSt->Prop} (C:Cmp prog w A s κ r P) (hk:kindOf st=κ) (hP:AllP P (arrOf st)) (hn:lo+nrem<=(arrOf st).size) (h1:1<=nrem)
  (h:∀ m st',Win lo (lo+nrem) st st'->1<=m->m<=nrem->Up r (arrOf st') lo (lo+m)->Q (some m) st') :
  wpS (model prog w) A E s (countRun' lo nrem) Q st:=by
 rw [qj]
 refine wpS_bind (uc C hk hP hn (xah 1) h1 (fun i j hl hij hj=>by
  have:i=j:=by lia
  subst this; exact xa6 _) fun n hn1 hn2 hsn hor=>?_)
 dsimp only
 by_cases hnn:n=nrem
 ·rw [if_pos (by simpa using hnn)]
  exact wpS_pure (h n st (.refl _ _ _) hn1 hn2 hsn)
 ·rw [if_neg (by simpa using hnn)]
  have hlt:R r (arrOf st) (lo+n)<R r (arrOf st) (lo+n - 1):=hor.resolve_left hnn
  by_cases hgt:n>1
  ·rw [if_pos hgt]
   refine wpS_bind (jC C hk hP (by lia) (by lia) ?_)
   by_cases hrose:R r (arrOf st) lo<R r (arrOf st) (lo+n - 1)
   ·simp only [hrose,decide_true,if_true]
    exact wpS_pure (h n st (.refl _ _ _) hn1 hn2 hsn)
   ·simp only [hrose,decide_false,xat,if_false]
    have hsz:lo+n<=(arrOf st).size:=by lia
    have hall:∀ k,lo<=k->k<lo+n->R r (arrOf st) k=R r (arrOf st) (lo+n - 1):=by
     intro k hl hk
     have a1:=hsn lo k (by exact xah _) hl hk
     have a2:=hsn k (lo+n - 1) hl (by lia) (by lia)
     lia
    have hW:=gh (i:=lo) hsz
    refine wpS_bind (dq (gO C (hW.kind.trans hk) (hP.perm hW.perm) (by rw [hW.size]; exact hn) (by lia) ?_ fun m2 st2 hB2=>h m2 st2 ((hW.mono (xah _) (by lia)).trans hB2)))
    intro i j hl hij hj
    show R r (mirror (arrOf st) _ _ _) j<=R r (mirror (arrOf st) _ _ _) i
    rw [bU hsz hall,bU hsz hall]
    by_cases hjn:j<lo+n
    ·rw [hall i hl (by walk_at "s1"),hall j (by walk_at "s1") hjn]; exact xa6 _
    ·have hj':j=lo+n:=by lia
     subst hj'
     by_cases hi':i=lo+n
     ·subst hi'; exact xa6 _
     ·rw [hall i hl (by lia)]; exact xbd hlt
  ·rw [if_neg hgt]
   have hn1':n=1:=by lia
   subst hn1'
   refine gO C hk hP hn (by lia) ?_ h
   intro i j hl hij hj
   by_cases hi':i=j
   ·subst hi'; exact xa6 _
   ·have hi0:i=lo:=by lia
    have hj1:j=lo+1:=by lia
    subst hi0; subst hj1
    exact xbd hlt
end
def vP (left:Bool) (key:Keyed) (arr:Array Keyed) (base i:Nat):StateT SortSt Sem (Option Bool):=do
 let x ← elem' arr (base+i)
 if left then lt' x key else return (<- lt' key x).map (!·)
def jH:Bool->Keyed->Array Keyed->Nat->Nat->Nat->StateT SortSt Sem (Option Nat):=sortPriv% PySem.Builtin.gallop
section
variable {prog:Program} {w:World} {A:Around} {E:Value->Shared->Prop} {s:Shared} {κ:SortKind} {r:Value->Int} {P:Value->Prop}
def bey (r:Value->Int) (left:Bool) (key:Keyed) (arr:Array Keyed) (base i:Nat):Bool :=
 if left then decide (R r arr (base+i)<r key.1) else !decide (r key.1<R r arr (base+i))
theorem dN {st:SortSt} {left:Bool} {key:Keyed} {arr:Array Keyed} {base i:Nat} {Q:Option Bool->SortSt->Prop} (C:Cmp prog w A s κ r P) (hk:kindOf st=κ) (hP:AllP P arr) (hy:P key.1) (hi:base+i<arr.size)
  (h:Q (some (bey r left key arr base i)) st):wpS (model prog w) A E s (vP left key arr base i) Q st:=by
 unfold vP
 refine wpS_bind (aJ hi fun p ep=>?_)
 have e1:R r arr (base+i)=r p.1:=by unfold R; rw [ep]
 unfold bey at h
 rw [e1] at h
 cases left with
 | true =>
  simp only [if_true] at h ⊢
  exact pY C hk (hP.at ep) hy h
 | false =>
  simp only [xat,if_false] at h ⊢
  exact wpS_bind (pY C hk hy (hP.at ep) (wpS_pure h))
theorem wX (hu:Up r arr base (base+n)) (hij:i<=j) (hj:j<n) (h:bey r left key arr base j=true):bey r left key arr base i=true:=by
 have q:=hu (base+i) (base+j) (by lia) (by lia) (by lia)
 unfold bey at h ⊢
 cases left with
 | true=>simp only [if_true,decide_eq_true_eq] at h ⊢; lia
 | false=>simp only [xat,if_false,xck,decide_eq_false_iff_not] at h ⊢; lia
theorem cY {st:SortSt} {left:Bool} {key:Keyed} {arr:Array Keyed} {base n hint:Nat} {Q:Option Nat->SortSt->Prop} (C:Cmp prog w A s κ r P) (hk:kindOf st=κ) (hP:AllP P arr) (hy:P key.1) (hn:base+n<=arr.size) (hh:hint<n)
  (hu:Up r arr base (base+n))
  (h:∀ k,k<=n->(∀ i,i<k->bey r left key arr base i=true)->(∀ i,k<=i->i<n->bey r left key arr base i=false)->Q (some k) st):wpS (model prog w) A E s (jH left key arr base n hint) Q st:=by
 have mono:∀ {i j},i<=j->j<n->bey r left key arr base j=true->bey r left key arr base i=true:=fun a b c=>wX hu a b c
 have monoF:∀ {i j},i<=j->j<n->bey r left key arr base i=false->bey r left key arr base j=false:=fun {i j} a b c=>by
  cases q:bey r left key arr base j with
  | false=>rfl
  | true=>rw [mono a b q] at c; cases c
 refine wpS_bind (dN C hk hP hy (by lia) ?_)
 dsimp only
 cases q0:bey r left key arr base hint with
 | true =>
  simp only [if_true]
  refine wpS_bind (wpS_mono (wpS_forRange (I:=fun x c st'=>st'=st/\∃ lst ofs,c=(none,lst,ofs)/\lst<ofs/\lst<n - hint/\x+1<=ofs/\bey r left key arr base (hint+lst)=true)
   (Q:=fun c st'=>st'=st/\∃ lst ofs,c=(none,lst,ofs)/\lst<ofs/\lst<n - hint/\bey r left key arr base (hint+lst)=true/\(n - hint<=ofs\/bey r left key arr base (hint+ofs)=false)) ?step ?fin ?init) ?post)
  case init=>exact ⟨rfl,0,1,rfl,by exact xbm _,by lia,by exact xbm _,q0⟩
  case fin =>
   rintro c st' ⟨rfl,lst,ofs,rfl,h1,h2,h3,h4⟩
   exact ⟨rfl,lst,ofs,rfl,h1,h2,h4,.inl (by lia)⟩
  case step =>
   rintro x c st' _ hx ⟨rfl,lst,ofs,rfl,h1,h2,h3,h4⟩
   dsimp only
   by_cases hge:ofs >= n - hint
   ·rw [if_pos hge]
    exact wpS_pure ⟨rfl,lst,ofs,rfl,h1,h2,h4,.inl hge⟩
   ·rw [if_neg hge]
    refine wpS_bind (dN C hk hP hy (by lia) ?_)
    cases q:bey r left key arr base (hint+ofs) with
    | true =>
     simp only [Bool.not_true,xat,if_false]
     exact wpS_pure ⟨rfl,_,_,rfl,by lia,by exact Nat.lt_of_not_le ‹_›,by lia,q⟩
    | false =>
     simp only [Bool.not_false,if_true]
     exact wpS_pure ⟨rfl,lst,ofs,rfl,h1,h2,h4,.inr q⟩
  case post =>
   rintro c st' ⟨rfl,lst,ofs,rfl,h1,h2,h4,h5⟩
   dsimp only
   generalize st'=st at *
   have hl:∀ i,i<hint+lst+1->bey r left key arr base i=true:=fun i hi=>mono (j:=hint+lst) (by lia) (by lia) h4
   have hhi:∀ i,hint+min ofs (n - hint)<=i->i<n->bey r left key arr base i=false:=fun i hi hin=>by
    rcases h5 with h5 | h5
    ·lia
    ·by_cases z:n - hint<=ofs
     ·lia
     ·exact monoF (i:=hint+ofs) (by lia) hin h5
   have hlh:hint+lst+1<=hint+min ofs (n - hint):=by lia
   have hhn:hint+min ofs (n - hint)<=n:=by lia
   generalize hint+lst+1=lo at *
   generalize hint+min ofs (n - hint)=hi at *
   refine wpS_bind (wpS_mono (wpS_forRange (I:=fun x c st'=>st'=st/\∃ l u,c=(none,l,u)/\l<=u/\u<=n/\u - l<=n - x/\(∀ i,i<l->bey r left key arr base i=true)/\(∀ i,u<=i->i<n->bey r left key arr base i=false))
    (Q:=fun c st'=>st'=st/\∃ l,c=(none,l,l)/\l<=n/\(∀ i,i<l->bey r left key arr base i=true)/\(∀ i,l<=i->i<n->bey r left key arr base i=false)) ?stepA ?finA ?initA) ?postA)
   case initA=>exact ⟨rfl,lo,hi,rfl,hlh,hhn,by lia,hl,hhi⟩
   case finA =>
    rintro c st' ⟨rfl,l,u,rfl,h1,h2,h3,h4,h5⟩
    have:l=u:=by lia
    subst this
    exact ⟨rfl,l,rfl,h2,h4,h5⟩
   case stepA =>
    rintro x c st' _ hx ⟨rfl,l,u,rfl,h1,h2,h3,h4,h5⟩
    dsimp only
    by_cases hge:l >= u
    ·rw [if_pos hge]
     have:l=u:=by exact xb7 ‹_› ‹_›
     subst this
     exact wpS_pure ⟨rfl,l,rfl,h2,h4,h5⟩
    ·rw [if_neg hge]
     refine wpS_bind (dN C hk hP hy (by lia) ?_)
     cases q:bey r left key arr base (l+(u - l) / 2) with
     | true =>
      simp only [if_true]
      exact wpS_pure ⟨rfl,_,_,rfl,by lia,by lia,by lia,fun i hi=>mono (j:=l+(u - l) / 2) (by lia) (by lia) q,h5⟩
     | false =>
      simp only [xat,if_false]
      exact wpS_pure ⟨rfl,_,_,rfl,by exact xbe _ _,by lia,by lia,h4,fun i hi hin=>monoF (i:=l+(u - l) / 2) (by lia) hin q⟩
   case postA =>
    rintro c st' ⟨rfl,l,rfl,h2,h4,h5⟩
    exact wpS_pure (h l h2 h4 h5)
 | false =>
  simp only [xat,if_false]
  refine wpS_bind (wpS_mono (wpS_forRange (I:=fun x c st'=>st'=st/\∃ lst ofs,c=(none,lst,ofs)/\lst<ofs/\lst<hint+1/\x+1<=ofs/\bey r left key arr base (hint - lst)=false)
   (Q:=fun c st'=>st'=st/\∃ lst ofs,c=(none,lst,ofs)/\lst<ofs/\lst<hint+1/\bey r left key arr base (hint - lst)=false/\(hint+1<=ofs\/bey r left key arr base (hint - ofs)=true)) ?step2 ?fin2 ?init2) ?post2)
  case init2=>exact ⟨rfl,0,1,rfl,by exact xbm _,by exact xbm _,by exact xbm _,q0⟩
  case fin2 =>
   rintro c st' ⟨rfl,lst,ofs,rfl,h1,h2,h3,h4⟩
   exact ⟨rfl,lst,ofs,rfl,h1,h2,h4,.inl (by walk_at "s2")⟩
  case step2 =>
   rintro x c st' _ hx ⟨rfl,lst,ofs,rfl,h1,h2,h3,h4⟩
   dsimp only
   by_cases hge:ofs >= hint+1
   ·rw [if_pos hge]
    exact wpS_pure ⟨rfl,lst,ofs,rfl,h1,h2,h4,.inl hge⟩
   ·rw [if_neg hge]
    refine wpS_bind (dN C hk hP hy (by lia) ?_)
    cases q:bey r left key arr base (hint - ofs) with
    | true =>
     simp only [if_true]
     exact wpS_pure ⟨rfl,lst,ofs,rfl,h1,h2,h4,.inr q⟩
    | false =>
     simp only [xat,if_false]
     exact wpS_pure ⟨rfl,_,_,rfl,by lia,by exact Nat.lt_of_not_le ‹_›,by lia,q⟩
  case post2 =>
   rintro c st' ⟨rfl,lst,ofs,rfl,h1,h2,h4,h5⟩
   dsimp only
   generalize st'=st at *
   have hl:∀ i,i<hint+1 - min ofs (hint+1)->bey r left key arr base i=true:=fun i hi=>by
    rcases h5 with h5 | h5
    ·lia
    ·by_cases z:hint+1<=ofs
     ·lia
     ·exact mono (j:=hint - ofs) (by lia) (by lia) h5
   have hhi:∀ i,hint - lst<=i->i<n->bey r left key arr base i=false:=fun i hi hin=>monoF (i:=hint - lst) (by lia) hin h4
   have hlh:hint+1 - min ofs (hint+1)<=hint - lst:=by lia
   have hhn:hint - lst<=n:=by lia
   generalize hint+1 - min ofs (hint+1)=lo at *
   generalize hint - lst=hi at *
   refine wpS_bind (wpS_mono (wpS_forRange (I:=fun x c st'=>st'=st/\∃ l u,c=(none,l,u)/\l<=u/\u<=n/\u - l<=n - x/\(∀ i,i<l->bey r left key arr base i=true)/\(∀ i,u<=i->i<n->bey r left key arr base i=false))
    (Q:=fun c st'=>st'=st/\∃ l,c=(none,l,l)/\l<=n/\(∀ i,i<l->bey r left key arr base i=true)/\(∀ i,l<=i->i<n->bey r left key arr base i=false)) ?stepB ?finB ?initB) ?postB)
   case initB=>exact ⟨rfl,lo,hi,rfl,hlh,hhn,by lia,hl,hhi⟩
   case finB =>
    rintro c st' ⟨rfl,l,u,rfl,h1,h2,h3,h4,h5⟩
    have:l=u:=by lia
    subst this
    exact ⟨rfl,l,rfl,h2,h4,h5⟩
   case stepB =>
    rintro x c st' _ hx ⟨rfl,l,u,rfl,h1,h2,h3,h4,h5⟩
    dsimp only
    by_cases hge:l >= u
    ·rw [if_pos hge]
     have:l=u:=by exact xb7 ‹_› ‹_›
     subst this
     exact wpS_pure ⟨rfl,l,rfl,h2,h4,h5⟩
    ·rw [if_neg hge]
     refine wpS_bind (dN C hk hP hy (by lia) ?_)
     cases q:bey r left key arr base (l+(u - l) / 2) with
     | true =>
      simp only [if_true]
      exact wpS_pure ⟨rfl,_,_,rfl,by lia,by lia,by lia,fun i hi=>mono (j:=l+(u - l) / 2) (by lia) (by lia) q,h5⟩
     | false =>
      simp only [xat,if_false]
      exact wpS_pure ⟨rfl,_,_,rfl,by exact xbe _ _,by lia,by lia,h4,fun i hi hin=>monoF (i:=l+(u - l) / 2) (by lia) hin q⟩
   case postB =>
    rintro c st' ⟨rfl,l,rfl,h2,h4,h5⟩
    exact wpS_pure (h l h2 h4 h5)
end
abbrev Le (r:Value->Int) (x y:Keyed):Prop:=r x.1<=r y.1
theorem R_at (e:xs[i]? = some p):R r xs i=r p.1:=by unfold R; rw [e]
theorem DX (h:i<xs.size):R r xs i=r xs[i].1:=R_at (getElem?_pos xs i h)
structure MI (r:Value->Int) (a b out:Array Keyed) (ia ib:Nat):Prop where
 ha:ia<=a.size
 hb:ib<=b.size
 perm:out.toList.Perm (a.toList.take ia++b.toList.take ib)
 up:out.toList.Pairwise (Le r)
 la:∀ x∈out.toList,∀ i,ia<=i->i<a.size->r x.1<=R r a i
 lb:∀ x∈out.toList,∀ j,ib<=j->j<b.size->r x.1<=R r b j
section
variable {r:Value->Int} {a b out:Array Keyed} {ia ib:Nat}
theorem lY {α:Type} {l:List α} {i:Nat} {x:α} (h:l[i]? = some x):l.take (i+1)=l.take i++[x]:=by
 rw [xbr,h]; rfl
theorem MI.pG (M:MI r a b out ia ib) (hA:Up r a 0 a.size) (hB:Up r b 0 b.size) (e:b[ib]? = some y) (hl:ia<a.size->R r b ib<=R r a ia):MI r a b (out.push y) ia (ib+1):=by
 have hib:ib<b.size:=(xbk.mp e).1
 have ey:=R_at (r:=r) e
 refine ⟨M.ha,hib,?_,?_,?_,?_⟩
 ·rw [xaD,lY (x:=y) (by simpa using e),<- xa0]
  exact M.perm.append_right _
 ·rw [xaD,xbE]
  refine ⟨M.up,by simp,fun x hx z hz=>?_⟩
  have:z=y:=by simpa using hz
  subst this
  show r x.1<=r z.1
  rw [<- ey]
  exact M.lb x hx ib (xah _) hib
 ·intro x hx i hi hia
  rw [xaD] at hx
  rcases xaf.mp hx with hx | hx
  ·exact M.la x hx i hi hia
  ·have:x=y:=by simpa using hx
   subst this
   rw [<- ey]
   exact xa2 (hl (by lia)) (hA ia i (xar _) hi hia)
 ·intro x hx j hj hjb
  rw [xaD] at hx
  rcases xaf.mp hx with hx | hx
  ·exact M.lb x hx j (by lia) hjb
  ·have:x=y:=by simpa using hx
   subst this
   rw [<- ey]
   exact hB ib j (xar _) (by lia) hjb
theorem MI.pZ (M:MI r a b out ia ib) (hA:Up r a 0 a.size) (hB:Up r b 0 b.size) (e:a[ia]? = some y) (hl:ib<b.size->R r a ia<=R r b ib):MI r a b (out.push y) (ia+1) ib:=by
 have hia:ia<a.size:=(xbk.mp e).1
 have ey:=R_at (r:=r) e
 refine ⟨hia,M.hb,?_,?_,?_,?_⟩
 ·rw [xaD,lY (x:=y) (by simpa using e),xa0]
  refine (M.perm.append_right [y]).trans ?_
  rw [xa0]
  exact List.Perm.append_left _ xbZ
 ·rw [xaD,xbE]
  refine ⟨M.up,by simp,fun x hx z hz=>?_⟩
  have:z=y:=by simpa using hz
  subst this
  show r x.1<=r z.1
  rw [<- ey]
  exact M.la x hx ia (xah _) hia
 ·intro x hx i hi hi2
  rw [xaD] at hx
  rcases xaf.mp hx with hx | hx
  ·exact M.la x hx i (by lia) hi2
  ·have:x=y:=by simpa using hx
   subst this
   rw [<- ey]
   exact hA ia i (xar _) (by lia) hi2
 ·intro x hx j hj hjb
  rw [xaD] at hx
  rcases xaf.mp hx with hx | hx
  ·exact M.lb x hx j hj hjb
  ·have:x=y:=by simpa using hx
   subst this
   rw [<- ey]
   exact xa2 (hl (by lia)) (hB ib j (xar _) hj hjb)
theorem fj {xs:Array Keyed} {i k:Nat} (h:i+k<xs.size):xs.extract i (i+(k+1))=(xs.extract i (i+k)).push xs[i+k]:=by
 apply xb0.mp
 rw [xaD]
 simp only [xb6,xbL]
 rw [show i+(k+1) - i=k+1 by exact Nat.add_sub_cancel_left ..,show i+k - i=k by exact Nat.add_sub_cancel_left ..,xbr]
 congr 1
 rw [List.getElem?_drop]
 simp [h]
theorem MI.addA (hA:Up r a 0 a.size) (hB:Up r b 0 b.size):∀ (k:Nat) {out:Array Keyed} {ia:Nat},MI r a b out ia ib->ia+k<=a.size->(ib<b.size->∀ i,i<k->R r a (ia+i)<=R r b ib)->MI r a b (out++a.extract ia (ia+k)) (ia+k) ib
 | 0,out,ia,M,h1,h2=>by
  have:a.extract ia (ia+0) = #[]:=xaX (by simp only [xbb]; lia)
  rw [this]
  simpa using M
 | k+1,out,ia,M,h1,h2=>by
  have q:=MI.addA hA hB k M (by exact xaT ‹_›) fun hb i hi=>h2 hb i (by exact xaZ ‹_›)
  have e:a[ia+k]? = some a[ia+k]:=getElem?_pos a (ia+k) (by assumption)
  have z:=q.pZ hA hB e fun hb=>h2 hb k (by exact xah _)
  rw [fj (by assumption),Array.append_push]
  exact z
theorem MI.addB (hA:Up r a 0 a.size) (hB:Up r b 0 b.size):∀ (k:Nat) {out:Array Keyed} {ib:Nat},MI r a b out ia ib->ib+k<=b.size->(ia<a.size->∀ i,i<k->R r b (ib+i)<=R r a ia)->MI r a b (out++b.extract ib (ib+k)) ia (ib+k)
 | 0,out,ib,M,h1,h2=>by
  have:b.extract ib (ib+0) = #[]:=xaX (by simp only [xbb]; lia)
  rw [this]
  simpa using M
 | k+1,out,ib,M,h1,h2=>by
  have q:=MI.addB hA hB k M (by exact xaT ‹_›) fun ha i hi=>h2 ha i (by exact xaZ ‹_›)
  have e:b[ib+k]? = some b[ib+k]:=getElem?_pos b (ib+k) (by assumption)
  have z:=q.pG hA hB e fun ha=>h2 ha k (by exact xah _)
  rw [fj (by assumption),Array.append_push]
  exact z
def cz (r:Value->Int) (a b out:Array Keyed):Prop:=out.toList.Perm (a.toList++b.toList)/\out.toList.Pairwise (Le r)
theorem MI.whole (M:MI r a b out a.size b.size):cz r a b out:=by
 refine ⟨?_,M.up⟩
 have h:=M.perm
 rw [xbU (by simp),xbU (by simp)] at h
 exact h
theorem MI.Hi (M:MI r a b out ia b.size) (hA:Up r a 0 a.size) (hB:Up r b 0 b.size):cz r a b (out++a.extract ia a.size++b.extract b.size b.size):=by
 have e:b.extract b.size b.size = #[]:=by simp
 rw [e,xcf]
 have ha:=M.ha
 have q:=MI.addA hA hB (a.size - ia) M (by lia) fun hb=>absurd hb (xaO _)
 rw [show ia+(a.size - ia)=a.size by exact xbc ‹_›] at q
 exact q.whole
theorem MI.GR (M:MI r a b out a.size ib) (hA:Up r a 0 a.size) (hB:Up r b 0 b.size):cz r a b (out++a.extract a.size a.size++b.extract ib b.size):=by
 have e:a.extract a.size a.size = #[]:=by simp
 rw [e,xcf]
 have hb:=M.hb
 have q:=MI.addB hA hB (b.size - ib) M (by lia) fun ha=>absurd ha (xaO _)
 rw [show ib+(b.size - ib)=b.size by exact xbc ‹_›] at q
 exact q.whole
theorem MI.endB (M:MI r a b out ia ib) (hA:Up r a 0 a.size) (hB:Up r b 0 b.size) (e:ib=b.size):cz r a b (out++a.extract ia a.size++b.extract ib b.size):=by subst e; exact M.Hi hA hB
theorem MI.endA (M:MI r a b out ia ib) (hA:Up r a 0 a.size) (hB:Up r b 0 b.size) (e:ia=a.size):cz r a b (out++a.extract ia a.size++b.extract ib b.size):=by subst e; exact M.GR hA hB
theorem MI.Gu (M:MI r a b out ia ib) (hA:Up r a 0 a.size) (hB:Up r b 0 b.size) (hia:ia+1=a.size) (hg:∀ j,j<b.size->R r b j<=R r a ia):cz r a b (out++b.extract ib b.size++a.extract ia a.size):=by
 have hb:=M.hb
 have q:=MI.addB hA hB (b.size - ib) M (by lia) fun ha i hi=>hg _ (by lia)
 rw [show ib+(b.size - ib)=b.size by exact xbc ‹_›] at q
 have z:=MI.addA hA hB (a.size - ia) q (by lia) fun hb=>absurd hb (xaO _)
 rw [show ia+(a.size - ia)=a.size by lia] at z
 exact z.whole
theorem MI.start (hA:Up r a 0 a.size) (hB:Up r b 0 b.size):MI r a b #[] 0 0:=⟨xar _,xar _,by simp,by simp,fun x hx=>by simp at hx,fun x hx=>by simp at hx⟩
end
def bH:Nat->StateT SortSt Sem Unit:=sortPriv% PySem.Builtin.setMinGallop
def tO:Array Keyed->Array Keyed->StateT SortSt Sem (Array Keyed):=sortPriv% PySem.Builtin.mergeLo
def sE:Array Keyed->Array Keyed->StateT SortSt Sem (Array Keyed):=sortPriv% PySem.Builtin.mergeHi
theorem je (g:Nat):bH g=modify fun s=>SortSt.mk' (kindOf s) (arrOf s) (pendingOf s) g (failedOf s):=rfl
def Mg (st st':SortSt):Prop:=∃ g,st'=SortSt.mk' (kindOf st) (arrOf st) (pendingOf st) g (failedOf st)
theorem Mg.refl (st:SortSt):Mg st st:=⟨gallopOf st,rfl⟩
theorem Mg.kind {st st':SortSt} (h:Mg st st'):kindOf st'=kindOf st:=by obtain ⟨g,rfl⟩:=h; rfl
theorem Mg.set {st st':SortSt} (h:Mg st st') (g:Nat):Mg st (SortSt.mk' (kindOf st') (arrOf st') (pendingOf st') g (failedOf st')):=by obtain ⟨g',rfl⟩:=h; exact ⟨g,rfl⟩
section
variable {prog:Program} {w:World} {A:Around} {E:Value->Shared->Prop} {s:Shared} {r:Value->Int}
theorem ik {st:SortSt} {g:Nat} {Q:Unit->SortSt->Prop} (h:Q () (SortSt.mk' (kindOf st) (arrOf st) (pendingOf st) g (failedOf st))):wpS (model prog w) A E s (bH g) Q st:=by
 rw [je]; exact wpS_modify h
theorem yE (h:bey r false key arr base i=true):R r arr (base+i)<=r key.1:=by
 unfold bey at h; simp only [xat,if_false,xck,decide_eq_false_iff_not] at h; lia
theorem wM (h:bey r false key arr base i=false):r key.1<R r arr (base+i):=by
 unfold bey at h; simp only [xat,if_false,Bool.not_eq_false',decide_eq_true_eq] at h; exact h
theorem Bl (h:bey r true key arr base i=true):R r arr (base+i)<r key.1:=by
 unfold bey at h; simp only [if_true,decide_eq_true_eq] at h; exact h
theorem tU (h:bey r true key arr base i=false):r key.1<=R r arr (base+i):=by
 unfold bey at h; simp only [if_true,decide_eq_false_iff_not] at h; lia
end
theorem Mg.trans {a b c:SortSt} (h:Mg a b) (g:Mg b c):Mg a c:=by obtain ⟨x,rfl⟩:=h; obtain ⟨y,rfl⟩:=g; exact ⟨y,rfl⟩
theorem zu {K G:Prop} (pk:K) (h:K->G):G:=h pk
abbrev SM:=StateT SortSt Sem
abbrev L1:=Option (Array Keyed) × Array Keyed × Nat × Nat × Nat
abbrev L2':=Option (Array Keyed) × Array Keyed × Nat × Nat × Nat × Nat
abbrev L3:=Option (Array Keyed) × Array Keyed × Nat × Nat × Nat × Nat × Nat
def loE (a b out:Array Keyed) (ia ib:Nat):Array Keyed:=out++a.extract ia a.size++b.extract ib b.size
def loF (a b out:Array Keyed) (ia ib:Nat):Array Keyed:=out++b.extract ib b.size++a.extract ia a.size
def lo3 (a b:Array Keyed) (mg ac bc ia ib:Nat) (out:Array Keyed):SM (ForInStep L3):=elem' a ia >>= fun p =>
 if (ia+1+1 == a.size)=true then pure (.done (some (loF a b (out.push p) (ia+1) ib),out.push p,ia+1,ib,mg,ac,bc))
 else if (decide (ac<7) && decide (bc<7))=true then pure (.done (none,out.push p,ia+1,ib,mg,ac,bc)) else pure (.yield (none,out.push p,ia+1,ib,mg,ac,bc))
def lo2 (a b:Array Keyed) (mg ac bc ia ib:Nat) (out:Array Keyed):SM (ForInStep L3):=elem' a ia >>= fun p=>jH true p b ib (b.size - ib) 0 >>= fun x=>match x with
 | some k=>if k>0 then
   if (ib+k == b.size)=true then pure (.done (some (loE a b (out++b.extract ib (ib+k)) ia (ib+k)),out++b.extract ib (ib+k),ia,ib+k,mg,ac,k))
   else lo3 a b mg ac k ia (ib+k) (out++b.extract ib (ib+k))
  else lo3 a b mg ac k ia ib out
 | _=>pure (.done (some (loE a b out ia ib),out,ia,ib,mg,ac,bc))
def lo1 (a b:Array Keyed) (mg ac bc ia ib:Nat) (out:Array Keyed):SM (ForInStep L3):=elem' b ib >>= fun p =>
 if (ib+1 == b.size)=true then pure (.done (some (loE a b (out.push p) ia (ib+1)),out.push p,ia,ib+1,mg,ac,bc)) else lo2 a b mg ac bc ia (ib+1) (out.push p)
def lo0 (a b:Array Keyed) (mg ac bc ia ib:Nat) (out:Array Keyed):SM (ForInStep L3):=bH mg >>= fun _=>elem' b ib >>= fun p=>jH false p a ia (a.size - ia) 0 >>= fun x=>match x with
 | some k=>if k>0 then
   if (ia+k+1 == a.size)=true then pure (.done (some (loF a b (out++a.extract ia (ia+k)) (ia+k) ib),out++a.extract ia (ia+k),ia+k,ib,mg,k,bc))
   else if (ia+k == a.size)=true then pure (.done (some (loE a b (out++a.extract ia (ia+k)) (ia+k) ib),out++a.extract ia (ia+k),ia+k,ib,mg,k,bc))
   else lo1 a b mg k bc (ia+k) ib (out++a.extract ia (ia+k))
  else lo1 a b mg k bc ia ib out
 | _=>pure (.done (some (loE a b out ia ib),out,ia,ib,mg,ac,bc))
def loG (a b:Array Keyed) (_:Nat) (s:L3):SM (ForInStep L3) :=
 if s.2.2.2.2.1>1 then lo0 a b (s.2.2.2.2.1 - 1) s.2.2.2.2.2.1 s.2.2.2.2.2.2 s.2.2.1 s.2.2.2.1 s.2.1 else lo0 a b s.2.2.2.2.1 s.2.2.2.2.2.1 s.2.2.2.2.2.2 s.2.2.1 s.2.2.2.1 s.2.1
def loA (a b:Array Keyed) (mg bc ia ib:Nat) (out:Array Keyed):SM (ForInStep L2'):=elem' b ib >>= fun p =>
 if (ib+1 == b.size)=true then pure (.done (some (loE a b (out.push p) ia (ib+1)),out.push p,ia,ib+1,0,bc+1))
 else if bc+1 >= mg then pure (.done (none,out.push p,ia,ib+1,0,bc+1)) else pure (.yield (none,out.push p,ia,ib+1,0,bc+1))
def loB (a b:Array Keyed) (mg ac ia ib:Nat) (out:Array Keyed):SM (ForInStep L2'):=elem' a ia >>= fun p =>
 if (ia+1+1 == a.size)=true then pure (.done (some (loF a b (out.push p) (ia+1) ib),out.push p,ia+1,ib,ac+1,0))
 else if ac+1 >= mg then pure (.done (none,out.push p,ia+1,ib,ac+1,0)) else pure (.yield (none,out.push p,ia+1,ib,ac+1,0))
def loI (a b:Array Keyed) (mg:Nat) (_:Nat) (s:L2'):SM (ForInStep L2'):=elem' b s.2.2.2.1 >>= fun pb=>elem' a s.2.2.1 >>= fun pa=>lt' pb pa >>= fun x=>match x with
 | some w=>if w=true then loA a b mg s.2.2.2.2.2 s.2.2.1 s.2.2.2.1 s.2.1 else loB a b mg s.2.2.2.2.1 s.2.2.1 s.2.2.2.1 s.2.1
 | _=>pure (.done (some (loE a b s.2.1 s.2.2.1 s.2.2.2.1),s.2.1,s.2.2.1,s.2.2.2.1,s.2.2.2.2.1,s.2.2.2.2.2))
def loP (a b:Array Keyed) (mg:Nat) (t:L2'):SM (ForInStep L1):=(liftM (rule "list.sort.gallop"):SM Unit) >>= fun _ =>
 forIn [:a.size+b.size] ((none,t.2.1,t.2.2.1,t.2.2.2.1,mg+1,t.2.2.2.2.1,t.2.2.2.2.2):L3) (loG a b) >>= fun u=>match u.1 with
 | some r=>pure (.done (some r,u.2.1,u.2.2.1,u.2.2.2.1,u.2.2.2.2.1))
 | none=>bH (u.2.2.2.2.1+1) >>= fun _=>pure (.yield (none,u.2.1,u.2.2.1,u.2.2.2.1,u.2.2.2.2.1+1))
def loO (a b:Array Keyed) (_:Nat) (s:L1):SM (ForInStep L1):=forIn [:a.size+b.size] ((none,s.2.1,s.2.2.1,s.2.2.2.1,0,0):L2') (loI a b s.2.2.2.2) >>= fun t=>match t.1 with
 | some r=>pure (.done (some r,t.2.1,t.2.2.1,t.2.2.2.1,s.2.2.2.2))
 | none=>loP a b s.2.2.2.2 t
def loM (a b:Array Keyed):SM (Array Keyed):=(liftM (rule "list.sort.merge-lo"):SM Unit) >>= fun _=>elem' b 0 >>= fun y =>
 if (1 == b.size)=true then pure (loE a b #[y] 0 1)
 else if (0+1 == a.size)=true then pure (loF a b #[y] 0 1)
 else get >>= fun st=>forIn [:a.size+b.size] ((none,#[y],0,1,gallopOf st):L1) (loO a b) >>= fun t=>match t.1 with
 | some r=>pure r
 | none=>(liftM (unsupported (α:=Array Keyed) "internal:list.sort.merge-bound"):SM (Array Keyed))
set_option smartUnfolding false in
theorem uw:tO=loM:=rfl
section
variable {prog:Program} {w:World} {A:Around} {E:Value->Shared->Prop} {s:Shared} {κ:SortKind} {r:Value->Int} {P:Value->Prop} {a b out:Array Keyed} {mg ac bc ia ib N:Nat} {st:SortSt}
structure MC (prog:Program) (w:World) (A:Around) (s:Shared) (κ:SortKind) (r:Value->Int) (P:Value->Prop) (a b:Array Keyed):Prop where
 C:Cmp prog w A s κ r P
 pa:AllP P a
 pb:AllP P b
 hA:Up r a 0 a.size
 hB:Up r b 0 b.size
 hl:∀ i,i<a.size->R r b 0<=R r a i
 hg:∀ j,j<b.size->R r b j<=R r a (a.size - 1)
def HS {β:Type} (r:Value->Int) (a b:Array Keyed) (c:Option (Array Keyed) × β):Prop:=∃ out rest,c=(some out,rest)/\cz r a b out
def LY (r:Value->Int) (a b:Array Keyed) (N:Nat) (c:L3):Prop:=∃ out ia ib mg ac bc,c=(none,out,ia,ib,mg,ac,bc)/\MI r a b out ia ib/\ia+1<a.size/\ib<b.size/\N<=ia+ib
def LI (r:Value->Int) (a b:Array Keyed) (N:Nat) (c:L2'):Prop:=∃ out ia ib ac bc,c=(none,out,ia,ib,ac,bc)/\MI r a b out ia ib/\ia+1<a.size/\ib<b.size/\N<=ia+ib
theorem MC.last (c:MC prog w A s κ r P a b) (M:MI r a b out ia ib) (z:ia+1=a.size):cz r a b (loF a b out ia ib):=M.Gu c.hA c.hB z fun j hj=>by
 have:=c.hg j hj
 rwa [show a.size - 1=ia by lia] at this
theorem yS (c:MC prog w A s κ r P a b) (M:MI r a b out ia ib) (h1:ia+1<a.size) (lt:R r a ia<=R r b ib) (h2:ib<b.size) (hN:N<=ia+ib) (D:∀ c,HS r a b c->Q (.done c) st) (Y:∀ c,LY r a b N c->Q (.done c) st/\Q (.yield c) st):wpS (model prog w) A E s (lo3 a b mg ac bc ia ib out) Q st:=by
 refine wpS_bind (aJ (by lia) fun p e=>?_)
 have M2:=M.pZ c.hA c.hB e fun _=>lt
 by_cases z:ia+1+1=a.size
 ·rw [if_pos (by simpa using z)]
  exact wpS_pure (D _ ⟨_,_,rfl,c.last M2 z⟩)
 ·rw [if_neg (by simpa using z)]
  have y:=Y _ ⟨_,_,_,mg,ac,bc,rfl,M2,by lia,h2,by lia⟩
  split
  ·exact wpS_pure y.1
  ·exact wpS_pure y.2
theorem Ef (c:MC prog w A s κ r P a b) (hk:kindOf st=κ) (M:MI r a b out ia ib) (h1:ia+1<a.size) (h2:ib<b.size) (hN:N<=ia+ib) (D:∀ c,HS r a b c->Q (.done c) st) (Y:∀ c,LY r a b N c->Q (.done c) st/\Q (.yield c) st):wpS (model prog w) A E s (lo2 a b mg ac bc ia ib out) Q st:=by
 refine wpS_bind (aJ (by lia) fun p e=>wpS_bind (cY c.C hk c.pb (c.pa.at e) (by lia) (by lia) (fun i j u v w=>c.hB i j (by lia) v (by lia)) fun l hl1 hl2 hl3=>?_))
 have ra:=R_at (r:=r) e
 dsimp only
 have lt:ib+l<b.size->R r a ia<=R r b (ib+l):=fun z=>by have:=tU (hl3 l (xah _) (by lia)); lia
 by_cases l0:l>0
 ·have M5:=MI.addB c.hA c.hB l M (by lia) fun _ i hi=>by have:=Bl (hl2 i hi); lia
  rw [if_pos l0]
  by_cases z:ib+l=b.size
  ·rw [if_pos (by simpa using z)]
   exact wpS_pure (D _ ⟨_,_,rfl,M5.endB c.hA c.hB z⟩)
  ·rw [if_neg (by simpa using z)]
   exact yS c M5 h1 (lt (by lia)) (by lia) (by lia) D Y
 ·rw [if_neg l0]
  obtain rfl:l=0:=by lia
  exact yS c M h1 (lt h2) h2 hN D Y
theorem yO (c:MC prog w A s κ r P a b) (hk:kindOf st=κ) (M:MI r a b out ia ib) (h1:ia+1<a.size) (lt:R r b ib<=R r a ia) (h2:ib<b.size) (hN:N<=ia+ib) (D:∀ c,HS r a b c->Q (.done c) st) (Y:∀ c,LY r a b N c->Q (.done c) st/\Q (.yield c) st):wpS (model prog w) A E s (lo1 a b mg ac bc ia ib out) Q st:=by
 refine wpS_bind (aJ h2 fun p e=>?_)
 have M4:=M.pG c.hA c.hB e fun _=>lt
 by_cases z:ib+1=b.size
 ·rw [if_pos (by simpa using z)]
  exact wpS_pure (D _ ⟨_,_,rfl,M4.endB c.hA c.hB z⟩)
 ·rw [if_neg (by simpa using z)]
  exact Ef c hk M4 h1 (by lia) (by lia) D Y
theorem Cr (c:MC prog w A s κ r P a b) (hk:kindOf st=κ) (M:MI r a b out ia ib) (h1:ia+1<a.size) (h2:ib<b.size) (hN:N<=ia+ib) (D:∀ st',Mg st st'->∀ c,HS r a b c->Q (.done c) st') (Y:∀ st',Mg st st'->∀ c,LY r a b N c->Q (.done c) st'/\Q (.yield c) st'):wpS (model prog w) A E s (lo0 a b mg ac bc ia ib out) Q st:=by
 have g:=(Mg.refl st).set mg
 refine wpS_bind (ik ?_)
 refine wpS_bind (aJ h2 fun p e=>wpS_bind (cY c.C (g.kind.trans hk) c.pa (c.pb.at e) (by lia) (by lia) (fun i j u v w=>c.hA i j (by lia) v (by lia)) fun k hk1 hk2 hk3=>?_))
 have rb:=R_at (r:=r) e
 dsimp only
 have lt:ia+k<a.size->R r b ib<=R r a (ia+k):=fun z=>by have:=wM (hk3 k (xah _) (by lia)); lia
 by_cases k0:k>0
 ·have M3:=MI.addA c.hA c.hB k M (by lia) fun _ i hi=>by have:=yE (hk2 i hi); lia
  rw [if_pos k0]
  by_cases z:ia+k+1=a.size
  ·rw [if_pos (by simpa using z)]
   exact wpS_pure (D _ g _ ⟨_,_,rfl,c.last M3 z⟩)
  ·rw [if_neg (by simpa using z)]
   by_cases z2:ia+k=a.size
   ·rw [if_pos (by simpa using z2)]
    exact wpS_pure (D _ g _ ⟨_,_,rfl,M3.endA c.hA c.hB z2⟩)
   ·rw [if_neg (by simpa using z2)]
    exact yO c (g.kind.trans hk) M3 (by lia) (lt (by lia)) h2 (by lia) (D _ g) (Y _ g)
 ·rw [if_neg k0]
  obtain rfl:k=0:=by lia
  exact yO c (g.kind.trans hk) M h1 (lt (by lia)) h2 hN (D _ g) (Y _ g)
theorem DK (c:MC prog w A s κ r P a b) (M:MI r a b out ia ib) (h1:ia+1<a.size) (lt:R r b ib<=R r a ia) (h2:ib<b.size) (hN:N<=ia+ib+1) (D:∀ c,HS r a b c->Q (.done c) st) (Y:∀ c,LI r a b N c->Q (.done c) st/\Q (.yield c) st):wpS (model prog w) A E s (loA a b mg bc ia ib out) Q st:=by
 refine wpS_bind (aJ h2 fun p e=>?_)
 have M2:=M.pG c.hA c.hB e fun _=>lt
 by_cases z:ib+1=b.size
 ·rw [if_pos (by simpa using z)]
  exact wpS_pure (D _ ⟨_,_,rfl,M2.endB c.hA c.hB z⟩)
 ·rw [if_neg (by simpa using z)]
  have y:=Y _ ⟨_,_,_,0,bc+1,rfl,M2,h1,by lia,hN⟩
  split
  ·exact wpS_pure y.1
  ·exact wpS_pure y.2
theorem Cp (c:MC prog w A s κ r P a b) (M:MI r a b out ia ib) (h1:ia+1<a.size) (lt:R r a ia<=R r b ib) (h2:ib<b.size) (hN:N<=ia+ib+1) (D:∀ c,HS r a b c->Q (.done c) st) (Y:∀ c,LI r a b N c->Q (.done c) st/\Q (.yield c) st):wpS (model prog w) A E s (loB a b mg ac ia ib out) Q st:=by
 refine wpS_bind (aJ (by lia) fun p e=>?_)
 have M2:=M.pZ c.hA c.hB e fun _=>lt
 by_cases z:ia+1+1=a.size
 ·rw [if_pos (by simpa using z)]
  exact wpS_pure (D _ ⟨_,_,rfl,c.last M2 z⟩)
 ·rw [if_neg (by simpa using z)]
  have y:=Y _ ⟨_,_,_,ac+1,0,rfl,M2,by lia,h2,by lia⟩
  split
  ·exact wpS_pure y.1
  ·exact wpS_pure y.2
theorem Dc (c:MC prog w A s κ r P a b) (hk:kindOf st=κ) (M:MI r a b out ia ib) (h1:ia+1<a.size) (h2:ib<b.size) (hN:N<=ia+ib+1) (D:∀ c,HS r a b c->Q (.done c) st) (Y:∀ c,LI r a b N c->Q (.done c) st/\Q (.yield c) st):wpS (model prog w) A E s (loI a b mg x (none,out,ia,ib,ac,bc)) Q st:=by
 refine wpS_bind (aJ h2 fun pb eb=>wpS_bind (aJ (show ia<a.size by lia) fun pa ea=>wpS_bind (pY c.C hk (c.pb.at eb) (c.pa.at ea) ?_)))
 have rb:R r b ib=r pb.1:=R_at eb
 have ra:R r a ia=r pa.1:=R_at ea
 dsimp only
 by_cases hw:r pb.1<r pa.1
 ·rw [if_pos (decide_eq_true hw)]
  exact DK c M h1 (by lia) h2 hN D Y
 ·rw [if_neg (by simpa using hw)]
  exact Cp c M h1 (by lia) h2 hN D Y
theorem Ep (c:MC prog w A s κ r P a b) (hk:kindOf st=κ) (M:MI r a b out ia ib) (h1:ia+1<a.size) (h2:ib<b.size) (hN:N<=ia+ib) (D:∀ st',Mg st st'->∀ c,HS r a b c->Q (.done c) st')
  (Y:∀ st',Mg st st'->∀ out ia ib mg,MI r a b out ia ib->ia+1<a.size->ib<b.size->N<=ia+ib->Q (.yield (none,out,ia,ib,mg)) st'):wpS (model prog w) A E s (loP a b mg (none,out,ia,ib,ac,bc)) Q st:=by
 refine wpS_bind (wpS_lift (wpAny_rule ⟨rfl,?_⟩))
 refine wpS_bind (wpS_mono (wpS_forRange (I:=fun _ c st'=>Mg st st'/\LY r a b N c) (Q:=fun c st'=>Mg st st'/\(HS r a b c\/LY r a b N c)) ?step ?fin ⟨.refl st,_,_,_,_,_,_,rfl,M,h1,h2,hN⟩) ?post)
 case fin =>
  rintro c st' ⟨hm,q⟩
  exact ⟨hm,.inr q⟩
 case step =>
  rintro y c1 st1 _ _ ⟨hm,out,ia,ib,mg,ac,bc,rfl,M,h1,h2,hN⟩
  unfold loG
  dsimp only
  split <;> exact Cr c (hm.kind.trans hk) M h1 h2 hN (fun st' g c q=>⟨hm.trans g,.inl q⟩) fun st' g c q=>⟨⟨hm.trans g,.inr q⟩,hm.trans g,q⟩
 case post =>
  rintro c st' ⟨hm,⟨o,rest,rfl,hM⟩ | ⟨out,ia,ib,mg,ac,bc,rfl,M,h1,h2,hN⟩⟩
  ·exact wpS_pure (D _ hm _ ⟨_,_,rfl,hM⟩)
  ·exact wpS_bind (ik (wpS_pure (Y _ (hm.set _) _ _ _ _ M h1 h2 hN)))
theorem Ei (c:MC prog w A s κ r P a b) (hk:kindOf st=κ) (M:MI r a b out ia ib) (h1:ia+1<a.size) (h2:ib<b.size) (hN:N<=ia+ib) (D:∀ st',Mg st st'->∀ c,HS r a b c->Q (.done c) st')
  (Y:∀ st',Mg st st'->∀ out ia ib mg,MI r a b out ia ib->ia+1<a.size->ib<b.size->N+1<=ia+ib->Q (.yield (none,out,ia,ib,mg)) st'):wpS (model prog w) A E s (loO a b x (none,out,ia,ib,mg)) Q st:=by
 refine wpS_bind (wpS_mono (wpS_forRange (I:=fun y c st'=>st'=st/\LI r a b (N+y) c) (Q:=fun c st'=>st'=st/\(HS r a b c\/LI r a b (N+1) c)) ?step ?fin ⟨rfl,_,_,_,_,_,rfl,M,h1,h2,hN⟩) ?post)
 case fin =>
  rintro c st' ⟨rfl,o,ia',ib',ac,bc,rfl,M',q1,q2,q3⟩
  exact ⟨rfl,.inr ⟨_,_,_,_,_,rfl,M',q1,q2,by lia⟩⟩
 case step =>
  rintro y c1 st1 _ hy ⟨rfl,o,ia',ib',ac,bc,rfl,M',q1,q2,q3⟩
  exact Dc (N:=N+y+1) c hk M' q1 q2 (by lia) (fun c q=>⟨rfl,.inl q⟩) fun c q=>by
   obtain ⟨o,ia,ib,ac,bc,rfl,M,h1,h2,h3⟩:=q
   exact ⟨⟨rfl,.inr ⟨_,_,_,_,_,rfl,M,h1,h2,by lia⟩⟩,rfl,_,_,_,_,_,rfl,M,h1,h2,by lia⟩
 case post =>
  rintro c1 st' ⟨rfl,⟨o,rest,rfl,hM⟩ | ⟨o,ia,ib,ac,bc,rfl,M',q1,q2,q3⟩⟩
  ·exact wpS_pure (D _ (.refl _) _ ⟨_,_,rfl,hM⟩)
  ·exact Ep c hk M' q1 q2 q3 D Y
theorem rT {st:SortSt} {a b:Array Keyed} {Q:Array Keyed->SortSt->Prop} (C:Cmp prog w A s κ r P) (hk:kindOf st=κ) (hPa:AllP P a) (hPb:AllP P b) (hA:Up r a 0 a.size) (hB:Up r b 0 b.size) (na:1<=a.size) (nb:1<=b.size)
  (h0:R r b 0<=R r a 0) (hg:∀ j,j<b.size->R r b j<=R r a (a.size - 1)) (h:∀ out st',cz r a b out->Mg st st'->Q out st'):wpS (model prog w) A E s (tO a b) Q st:=by
 have c:MC prog w A s κ r P a b:=⟨C,hPa,hPb,hA,hB,fun i hi=>xa2 h0 (hA 0 i (xah _) (xar _) hi),hg⟩
 rw [uw]
 refine wpS_bind (wpS_lift (wpAny_rule ⟨rfl,?_⟩))
 refine wpS_bind (aJ nb fun y0 e0=>?_)
 have M1:MI r a b #[y0] 0 1:=(MI.start hA hB).pG hA hB e0 fun _=>h0
 by_cases c1:1=b.size
 ·rw [if_pos (by simpa using c1)]
  exact wpS_pure (h _ _ (M1.endB hA hB c1) (.refl st))
 ·rw [if_neg (by simpa using c1)]
  by_cases c2:0+1=a.size
  ·rw [if_pos (by simpa using c2)]
   exact wpS_pure (h _ _ (c.last M1 c2) (.refl st))
  ·rw [if_neg (by simpa using c2)]
   refine wpS_bind (wpS_get ?_)
   refine wpS_bind (wpS_mono (wpS_forRange (I:=fun x c st'=>Mg st st'/\∃ out ia ib mg,c=(none,out,ia,ib,mg)/\MI r a b out ia ib/\ia+1<a.size/\ib<b.size/\x+1<=ia+ib)
    (Q:=fun c st'=>Mg st st'/\HS r a b c) ?step ?fin ⟨.refl st,_,_,_,_,rfl,M1,by lia,by lia,by exact xbm _⟩) ?post)
   case fin =>
    rintro c st' ⟨_,out,ia,ib,mg,rfl,M,h1,h2,h3⟩
    lia
   case post =>
    rintro c st' ⟨hm,out,rest,rfl,hM⟩
    exact wpS_pure (h out st' hM hm)
   case step =>
    rintro x c1 st1 _ hx ⟨hm1,out,ia,ib,mg,rfl,M,h1,h2,h3⟩
    exact Ei (N:=x+1) c (hm1.kind.trans hk) M h1 h2 h3 (fun st' g c q=>⟨hm1.trans g,q⟩) fun st' g out ia ib mg M h1 h2 h3=>⟨hm1.trans g,_,_,_,_,rfl,M,h1,h2,h3⟩
end
abbrev Ge (r:Value->Int) (x y:Keyed):Prop:=r y.1<=r x.1
structure MH (r:Value->Int) (a b out:Array Keyed) (na nb:Nat):Prop where
 ha:na<=a.size
 hb:nb<=b.size
 perm:out.toList.Perm (a.toList.drop na++b.toList.drop nb)
 down:out.toList.Pairwise (Ge r)
 ga:∀ x∈out.toList,∀ i,i<na->R r a i<=r x.1
 gb:∀ x∈out.toList,∀ j,j<nb->R r b j<=r x.1
section
variable {r:Value->Int} {a b out:Array Keyed} {na nb:Nat}
theorem qu {α:Type} {l:List α} {i:Nat} {x:α} (h0:0<i) (h:l[i - 1]? = some x):l.drop (i - 1)=x :: l.drop i:=by
 obtain ⟨hi,e⟩:=xaw.mp h
 rw [xa1 hi,e,show i - 1+1=i by exact Nat.sub_add_cancel ‹_›]
theorem MH.pZ (M:MH r a b out na nb) (hA:Up r a 0 a.size) (hB:Up r b 0 b.size) (h0:0<na) (e:a[na - 1]? = some y) (hl:0<nb->R r b (nb - 1)<=R r a (na - 1)):MH r a b (out.push y) (na - 1) nb:=by
 have ey:=R_at (r:=r) e
 have ha:=M.ha
 have hb:=M.hb
 refine ⟨by lia,M.hb,?_,?_,?_,?_⟩
 ·rw [xaD,qu (x:=y) h0 (by simpa using e)]
  refine (M.perm.append_right [y]).trans ?_
  exact xbZ
 ·rw [xaD,xbE]
  refine ⟨M.down,by simp,fun x hx z hz=>?_⟩
  have:z=y:=by simpa using hz
  subst this
  show r z.1<=r x.1
  rw [<- ey]
  exact M.ga x hx (na - 1) (by lia)
 ·intro x hx i hi
  rw [xaD] at hx
  rcases xaf.mp hx with hx | hx
  ·exact M.ga x hx i (by lia)
  ·have:x=y:=by simpa using hx
   subst this
   rw [<- ey]
   exact hA i (na - 1) (xar _) (by lia) (by lia)
 ·intro x hx j hj
  rw [xaD] at hx
  rcases xaf.mp hx with hx | hx
  ·exact M.gb x hx j hj
  ·have:x=y:=by simpa using hx
   subst this
   rw [<- ey]
   exact xa2 (hB j (nb - 1) (xar _) (by lia) (by lia)) (hl (by lia))
theorem MH.pG (M:MH r a b out na nb) (hA:Up r a 0 a.size) (hB:Up r b 0 b.size) (h0:0<nb) (e:b[nb - 1]? = some y) (hl:0<na->R r a (na - 1)<=R r b (nb - 1)):MH r a b (out.push y) na (nb - 1):=by
 have ey:=R_at (r:=r) e
 have ha:=M.ha
 have hb:=M.hb
 refine ⟨M.ha,by lia,?_,?_,?_,?_⟩
 ·rw [xaD,qu (x:=y) h0 (by simpa using e)]
  refine (M.perm.append_right [y]).trans ?_
  rw [xa0]
  exact List.Perm.append_left _ xbZ
 ·rw [xaD,xbE]
  refine ⟨M.down,by simp,fun x hx z hz=>?_⟩
  have:z=y:=by simpa using hz
  subst this
  show r z.1<=r x.1
  rw [<- ey]
  exact M.gb x hx (nb - 1) (by lia)
 ·intro x hx i hi
  rw [xaD] at hx
  rcases xaf.mp hx with hx | hx
  ·exact M.ga x hx i hi
  ·have:x=y:=by simpa using hx
   subst this
   rw [<- ey]
   exact xa2 (hA i (na - 1) (xar _) (by lia) (by lia)) (hl (by lia))
 ·intro x hx j hj
  rw [xaD] at hx
  rcases xaf.mp hx with hx | hx
  ·exact M.gb x hx j (by lia)
  ·have:x=y:=by simpa using hx
   subst this
   rw [<- ey]
   exact hB j (nb - 1) (xar _) (by lia) (by lia)
theorem jY {xs:Array Keyed} {i n:Nat} (h:i<n) (hn:n<=xs.size):(xs.extract i n).reverse = #[xs[n - 1]'(by lia)]++(xs.extract i (n - 1)).reverse:=by
 obtain ⟨k,rfl⟩:∃ k,n=i+(k+1):=⟨n - 1 - i,by lia⟩
 have e3:i+(k+1) - 1=i+k:=by rfl
 simp only [e3]
 rw [fj (by assumption),Array.reverse_push]
theorem MH.addA (hA:Up r a 0 a.size) (hB:Up r b 0 b.size):∀ (k:Nat) {out:Array Keyed} {na p:Nat},MH r a b out na nb->p+k=na->(0<nb->∀ i,p<=i->i<na->R r b (nb - 1)<=R r a i)->MH r a b (out++(a.extract p na).reverse) p nb
 | 0,out,na,p,M,h1,h2=>by
  have:a.extract p na = #[]:=xaX (by simp only [xbb]; lia)
  have e:na=p:=by walk_at "s1"
  subst e
  rw [this]
  simpa using M
 | k+1,out,na,p,M,h1,h2=>by
  have ha:=M.ha
  have e:a[na - 1]? = some (a[na - 1]'(by lia)):=getElem?_pos a (na - 1) (by lia)
  have q:=M.pZ hA hB (by lia) e fun hb=>h2 hb _ (by lia) (by lia)
  have z:=MH.addA hA hB k (p:=p) q (by lia) fun hb i hi1 hi2=>h2 hb i hi1 (by walk_at "s4")
  rw [jY (by lia) ha,<- xbi]
  simpa using z
theorem MH.addB (hA:Up r a 0 a.size) (hB:Up r b 0 b.size):∀ (k:Nat) {out:Array Keyed} {nb p:Nat},MH r a b out na nb->p+k=nb->(0<na->∀ i,p<=i->i<nb->R r a (na - 1)<=R r b i)->MH r a b (out++(b.extract p nb).reverse) na p
 | 0,out,nb,p,M,h1,h2=>by
  have:b.extract p nb = #[]:=xaX (by simp only [xbb]; lia)
  have e:nb=p:=by walk_at "s1"
  subst e
  rw [this]
  simpa using M
 | k+1,out,nb,p,M,h1,h2=>by
  have hb:=M.hb
  have e:b[nb - 1]? = some (b[nb - 1]'(by lia)):=getElem?_pos b (nb - 1) (by lia)
  have q:=M.pG hA hB (by lia) e fun ha=>h2 ha _ (by lia) (by lia)
  have z:=MH.addB hA hB k (p:=p) q (by lia) fun ha i hi1 hi2=>h2 ha i hi1 (by walk_at "s4")
  rw [jY (by lia) hb,<- xbi]
  simpa using z
theorem MH.whole (M:MH r a b out 0 0):cz r a b out.reverse:=by
 refine ⟨?_,?_⟩
 ·have h:=M.perm
  rw [List.drop_zero,List.drop_zero] at h
  rw [Array.toList_reverse]
  exact (List.reverse_perm _).trans h
 ·rw [Array.toList_reverse,List.pairwise_reverse]
  exact M.down
theorem ou (x y:Array Keyed):(x++y.reverse).reverse=y++x.reverse:=by
 apply xb0.mp
 simp
theorem MH.endA (M:MH r a b out na nb) (hA:Up r a 0 a.size) (hB:Up r b 0 b.size) (e:na=0):cz r a b (a.extract 0 na++b.extract 0 nb++out.reverse):=by
 subst e
 have z:=MH.addB hA hB nb (p:=0) M (by exact xca ..) fun ha=>absurd ha (xaO _)
 have q:=z.whole
 rw [ou] at q
 have e2:a.extract 0 0 = #[]:=by simp
 rw [e2,Array.empty_append]
 exact q
theorem MH.endB (M:MH r a b out na nb) (hA:Up r a 0 a.size) (hB:Up r b 0 b.size) (e:nb=0):cz r a b (a.extract 0 na++b.extract 0 nb++out.reverse):=by
 subst e
 have z:=MH.addA hA hB na (p:=0) M (by exact xca ..) fun hb=>absurd hb (xaO _)
 have q:=z.whole
 rw [ou] at q
 have e2:b.extract 0 0 = #[]:=by simp
 rw [e2,xcf]
 exact q
theorem MH.tQ (M:MH r a b out na nb) (hA:Up r a 0 a.size) (hB:Up r b 0 b.size) (e:nb=1) (hl:∀ i,i<a.size->R r b 0<=R r a i):cz r a b (b.extract 0 nb++a.extract 0 na++out.reverse):=by
 subst e
 have ha:=M.ha
 have z:=MH.addA hA hB na (p:=0) M (by exact xca ..) fun _ i _ hi=>hl i (by walk_at "s1")
 have z2:=MH.addB hA hB 1 (p:=0) z (by exact xca ..) fun h=>absurd h (xaO _)
 have q:=z2.whole
 rw [ou,ou] at q
 rw [xbi]
 exact q
theorem MH.start:MH r a b #[] a.size b.size:=⟨xah _,xah _,by simp,by simp,fun x hx=>by simp at hx,fun x hx=>by simp at hx⟩
end
abbrev S1:=Option (Array Keyed) × Nat × Nat × Array Keyed × Nat
abbrev S2:=Option (Array Keyed) × Nat × Nat × Array Keyed × Nat × Nat
abbrev S3:=Option (Array Keyed) × Nat × Nat × Array Keyed × Nat × Nat × Nat
def hiE (a b out:Array Keyed) (na nb:Nat):Array Keyed:=a.extract 0 na++b.extract 0 nb++out.reverse
def hiF (a b out:Array Keyed) (na nb:Nat):Array Keyed:=b.extract 0 nb++a.extract 0 na++out.reverse
def hi3 (a b:Array Keyed) (mg ac bc na nb:Nat) (out:Array Keyed):SM (ForInStep S3):=elem' a (na - 1) >>= fun p =>
 if (na - 1 == 0)=true then pure (.done (some (hiE a b (out.push p) (na - 1) nb),na - 1,nb,out.push p,mg,ac,bc))
 else if (decide (ac<7) && decide (bc<7))=true then pure (.done (none,na - 1,nb,out.push p,mg,ac,bc)) else pure (.yield (none,na - 1,nb,out.push p,mg,ac,bc))
def hi2 (a b:Array Keyed) (mg ac bc na nb:Nat) (out:Array Keyed):SM (ForInStep S3):=elem' a (na - 1) >>= fun p=>jH true p b 0 nb (nb - 1) >>= fun x=>match x with
 | some k=>if nb - k>0 then
   if (k == 1)=true then pure (.done (some (hiF a b (out++(b.extract k nb).reverse) na k),na,k,out++(b.extract k nb).reverse,mg,ac,nb - k))
   else if (k == 0)=true then pure (.done (some (hiE a b (out++(b.extract k nb).reverse) na k),na,k,out++(b.extract k nb).reverse,mg,ac,nb - k))
   else hi3 a b mg ac (nb - k) na k (out++(b.extract k nb).reverse)
  else hi3 a b mg ac (nb - k) na nb out
 | _=>pure (.done (some (hiE a b out na nb),na,nb,out,mg,ac,bc))
def hi1 (a b:Array Keyed) (mg ac bc na nb:Nat) (out:Array Keyed):SM (ForInStep S3):=elem' b (nb - 1) >>= fun p =>
 if (nb - 1 == 1)=true then pure (.done (some (hiF a b (out.push p) na (nb - 1)),na,nb - 1,out.push p,mg,ac,bc)) else hi2 a b mg ac bc na (nb - 1) (out.push p)
def hi0 (a b:Array Keyed) (mg ac bc na nb:Nat) (out:Array Keyed):SM (ForInStep S3):=bH mg >>= fun _=>elem' b (nb - 1) >>= fun p=>jH false p a 0 na (na - 1) >>= fun x=>match x with
 | some k=>if na - k>0 then
   if (k == 0)=true then pure (.done (some (hiE a b (out++(a.extract k na).reverse) k nb),k,nb,out++(a.extract k na).reverse,mg,na - k,bc))
   else hi1 a b mg (na - k) bc k nb (out++(a.extract k na).reverse)
  else hi1 a b mg (na - k) bc na nb out
 | _=>pure (.done (some (hiE a b out na nb),na,nb,out,mg,ac,bc))
def hiG (a b:Array Keyed) (_:Nat) (s:S3):SM (ForInStep S3) :=
 if s.2.2.2.2.1>1 then hi0 a b (s.2.2.2.2.1 - 1) s.2.2.2.2.2.1 s.2.2.2.2.2.2 s.2.1 s.2.2.1 s.2.2.2.1 else hi0 a b s.2.2.2.2.1 s.2.2.2.2.2.1 s.2.2.2.2.2.2 s.2.1 s.2.2.1 s.2.2.2.1
def hiA (a b:Array Keyed) (mg ac na nb:Nat) (out:Array Keyed):SM (ForInStep S2):=elem' a (na - 1) >>= fun p =>
 if (na - 1 == 0)=true then pure (.done (some (hiE a b (out.push p) (na - 1) nb),na - 1,nb,out.push p,ac+1,0))
 else if ac+1 >= mg then pure (.done (none,na - 1,nb,out.push p,ac+1,0)) else pure (.yield (none,na - 1,nb,out.push p,ac+1,0))
def hiB (a b:Array Keyed) (mg bc na nb:Nat) (out:Array Keyed):SM (ForInStep S2):=elem' b (nb - 1) >>= fun p =>
 if (nb - 1 == 1)=true then pure (.done (some (hiF a b (out.push p) na (nb - 1)),na,nb - 1,out.push p,0,bc+1))
 else if bc+1 >= mg then pure (.done (none,na,nb - 1,out.push p,0,bc+1)) else pure (.yield (none,na,nb - 1,out.push p,0,bc+1))
def hiI (a b:Array Keyed) (mg:Nat) (_:Nat) (s:S2):SM (ForInStep S2):=elem' b (s.2.2.1 - 1) >>= fun pb=>elem' a (s.2.1 - 1) >>= fun pa=>lt' pb pa >>= fun x=>match x with
 | some w=>if w=true then hiA a b mg s.2.2.2.2.1 s.2.1 s.2.2.1 s.2.2.2.1 else hiB a b mg s.2.2.2.2.2 s.2.1 s.2.2.1 s.2.2.2.1
 | _=>pure (.done (some (hiE a b s.2.2.2.1 s.2.1 s.2.2.1),s.2.1,s.2.2.1,s.2.2.2.1,s.2.2.2.2.1,s.2.2.2.2.2))
def hiP (a b:Array Keyed) (mg:Nat) (t:S2):SM (ForInStep S1):=(liftM (rule "list.sort.gallop"):SM Unit) >>= fun _ =>
 forIn [:a.size+b.size] ((none,t.2.1,t.2.2.1,t.2.2.2.1,mg+1,t.2.2.2.2.1,t.2.2.2.2.2):S3) (hiG a b) >>= fun u=>match u.1 with
 | some r=>pure (.done (some r,u.2.1,u.2.2.1,u.2.2.2.1,u.2.2.2.2.1))
 | none=>bH (u.2.2.2.2.1+1) >>= fun _=>pure (.yield (none,u.2.1,u.2.2.1,u.2.2.2.1,u.2.2.2.2.1+1))
def hiO (a b:Array Keyed) (_:Nat) (s:S1):SM (ForInStep S1):=forIn [:a.size+b.size] ((none,s.2.1,s.2.2.1,s.2.2.2.1,0,0):S2) (hiI a b s.2.2.2.2) >>= fun t=>match t.1 with
 | some r=>pure (.done (some r,t.2.1,t.2.2.1,t.2.2.2.1,s.2.2.2.2))
 | none=>hiP a b s.2.2.2.2 t
def hiM (a b:Array Keyed):SM (Array Keyed):=(liftM (rule "list.sort.merge-hi"):SM Unit) >>= fun _=>elem' a (a.size - 1) >>= fun y =>
 if (a.size - 1 == 0)=true then pure (hiE a b #[y] (a.size - 1) b.size)
 else if (b.size == 1)=true then pure (hiF a b #[y] (a.size - 1) b.size)
 else get >>= fun st=>forIn [:a.size+b.size] ((none,a.size - 1,b.size,#[y],gallopOf st):S1) (hiO a b) >>= fun t=>match t.1 with
 | some r=>pure r
 | none=>(liftM (unsupported (α:=Array Keyed) "internal:list.sort.merge-bound"):SM (Array Keyed))
set_option smartUnfolding false in
theorem uf:sE=hiM:=rfl
section
variable {prog:Program} {w:World} {A:Around} {E:Value->Shared->Prop} {s:Shared} {κ:SortKind} {r:Value->Int} {P:Value->Prop} {a b out:Array Keyed} {mg ac bc na nb N:Nat} {st:SortSt} {Q:ForInStep S3->SortSt->Prop}
def HD (r:Value->Int) (a b:Array Keyed) (Q:ForInStep S3->SortSt->Prop) (st:SortSt):Prop:=∀ o rest,cz r a b o->Q (.done (some o,rest)) st
def HY (r:Value->Int) (a b:Array Keyed) (N:Nat) (Q:ForInStep S3->SortSt->Prop) (st:SortSt):Prop :=
 ∀ o na nb mg ac bc,MH r a b o na nb->1<=na->2<=nb->na+nb<=N->Q (.done (none,na,nb,o,mg,ac,bc)) st/\Q (.yield (none,na,nb,o,mg,ac,bc)) st
theorem zm (c:MC prog w A s κ r P a b) (M:MH r a b out na nb) (h1:0<na) (lt:R r b (nb - 1)<=R r a (na - 1)) (h2:2<=nb) (hN:na+nb<=N) (D:HD r a b Q st) (Y:HY r a b N Q st):wpS (model prog w) A E s (hi3 a b mg ac bc na nb out) Q st:=by
 have ha:=M.ha
 refine wpS_bind (aJ (by lia) fun p e=>?_)
 have M2:=M.pZ c.hA c.hB h1 e fun _=>lt
 by_cases z:na - 1=0
 ·rw [if_pos (by simpa using z)]
  exact wpS_pure (D _ _ (M2.endA c.hA c.hB z))
 ·rw [if_neg (by simpa using z)]
  have y:=Y _ _ _ mg ac bc M2 (by lia) h2 (by lia)
  split
  ·exact wpS_pure y.1
  ·exact wpS_pure y.2
theorem De (c:MC prog w A s κ r P a b) (hk:kindOf st=κ) (M:MH r a b out na nb) (h1:0<na) (h2:2<=nb) (hN:na+nb<=N) (D:HD r a b Q st) (Y:HY r a b N Q st):wpS (model prog w) A E s (hi2 a b mg ac bc na nb out) Q st:=by
 have ha:=M.ha
 have hb:=M.hb
 refine wpS_bind (aJ (by lia) fun p e=>wpS_bind (cY c.C hk c.pb (c.pa.at e) (by lia) (by lia) (fun i j u v w=>c.hB i j u v (by lia)) fun l hl1 hl2 hl3=>?_))
 have ra:=R_at (r:=r) e
 dsimp only
 have lt:0<l->R r b (l - 1)<=R r a (na - 1):=fun z=>by have:=Bl (hl2 (l - 1) (by exact xcd ‹_› xb1)); rw [xcb] at this; lia
 by_cases l0:nb - l>0
 ·have M5:=MH.addB c.hA c.hB (nb - l) (p:=l) M (by exact xbc ‹_›) fun _ i hi1 hi2=>by have:=tU (hl3 i hi1 hi2); rw [xcb] at this; lia
  rw [if_pos l0]
  by_cases z4:l=1
  ·rw [if_pos (by simpa using z4)]
   exact wpS_pure (D _ _ (M5.tQ c.hA c.hB z4 c.hl))
  ·rw [if_neg (by simpa using z4)]
   by_cases z6:l=0
   ·rw [if_pos (by simpa using z6)]
    exact wpS_pure (D _ _ (M5.endB c.hA c.hB z6))
   ·rw [if_neg (by simpa using z6)]
    exact zm c M5 h1 (lt (by lia)) (by lia) (by lia) D Y
 ·rw [if_neg l0]
  obtain rfl:l=nb:=by lia
  exact zm c M h1 (lt (by exact xbR ‹_›)) h2 hN D Y
theorem zj (c:MC prog w A s κ r P a b) (hk:kindOf st=κ) (M:MH r a b out na nb) (h1:0<na) (h2:2<=nb) (lt:R r a (na - 1)<=R r b (nb - 1)) (hN:na+nb<=N) (D:HD r a b Q st) (Y:HY r a b N Q st):wpS (model prog w) A E s (hi1 a b mg ac bc na nb out) Q st:=by
 have hb:=M.hb
 refine wpS_bind (aJ (by lia) fun p e=>?_)
 have M4:=M.pG c.hA c.hB (by exact xbR ‹_›) e fun _=>lt
 by_cases z:nb - 1=1
 ·rw [if_pos (by simpa using z)]
  exact wpS_pure (D _ _ (M4.tQ c.hA c.hB z c.hl))
 ·rw [if_neg (by simpa using z)]
  exact De c hk M4 h1 (by lia) (by lia) D Y
theorem DN (c:MC prog w A s κ r P a b) (hk:kindOf st=κ) (M:MH r a b out na nb) (h1:0<na) (h2:2<=nb) (hN:na+nb<=N) (D:∀ st',Mg st st'->HD r a b Q st') (Y:∀ st',Mg st st'->HY r a b N Q st'):wpS (model prog w) A E s (hi0 a b mg ac bc na nb out) Q st:=by
 have ha:=M.ha
 have hb:=M.hb
 have g:=(Mg.refl st).set mg
 refine wpS_bind (ik ?_)
 refine wpS_bind (aJ (by lia) fun p e=>wpS_bind (cY c.C (g.kind.trans hk) c.pa (c.pb.at e) (by lia) (by exact xcd ‹_› xb1) (fun i j u v w=>c.hA i j u v (by lia)) fun k hk1 hk2 hk3=>?_))
 have rb:=R_at (r:=r) e
 dsimp only
 have lt:0<k->R r a (k - 1)<=R r b (nb - 1):=fun z=>by have:=yE (hk2 (k - 1) (by exact xcd ‹_› xb1)); rw [xcb] at this; lia
 by_cases k0:na - k>0
 ·have M3:=MH.addA c.hA c.hB (na - k) (p:=k) M (by exact xbc ‹_›) fun _ i hi1 hi2=>by have:=wM (hk3 i hi1 hi2); rw [xcb] at this; lia
  rw [if_pos k0]
  by_cases z:k=0
  ·rw [if_pos (by simpa using z)]
   exact wpS_pure (D _ g _ _ (M3.endA c.hA c.hB z))
  ·rw [if_neg (by simpa using z)]
   exact zj c (g.kind.trans hk) M3 (by lia) h2 (lt (by lia)) (by lia) (D _ g) (Y _ g)
 ·rw [if_neg k0]
  obtain rfl:k=na:=by lia
  exact zj c (g.kind.trans hk) M h1 h2 (lt h1) hN (D _ g) (Y _ g)
def HI (r:Value->Int) (a b:Array Keyed) (N:Nat) (c:S2):Prop:=∃ na nb out ac bc,c=(none,na,nb,out,ac,bc)/\MH r a b out na nb/\1<=na/\2<=nb/\na+nb<=N
theorem CP {Q:ForInStep S2->SortSt->Prop} (c:MC prog w A s κ r P a b) (M:MH r a b out na nb) (h1:0<na) (lt:R r b (nb - 1)<=R r a (na - 1)) (h2:2<=nb) (hN:na+nb<=N+1) (D:∀ c,HS r a b c->Q (.done c) st) (Y:∀ c,HI r a b N c->Q (.done c) st/\Q (.yield c) st):wpS (model prog w) A E s (hiA a b mg ac na nb out) Q st:=by
 have ha:=M.ha
 refine wpS_bind (aJ (by lia) fun p e=>?_)
 have M2:=M.pZ c.hA c.hB h1 e fun _=>lt
 by_cases z:na - 1=0
 ·rw [if_pos (by simpa using z)]
  exact wpS_pure (D _ ⟨_,_,rfl,M2.endA c.hA c.hB z⟩)
 ·rw [if_neg (by simpa using z)]
  have y:=Y _ ⟨_,_,_,ac+1,0,rfl,M2,by lia,h2,by lia⟩
  split
  ·exact wpS_pure y.1
  ·exact wpS_pure y.2
theorem CW {Q:ForInStep S2->SortSt->Prop} (c:MC prog w A s κ r P a b) (M:MH r a b out na nb) (h1:0<na) (lt:R r a (na - 1)<=R r b (nb - 1)) (h2:2<=nb) (hN:na+nb<=N+1) (D:∀ c,HS r a b c->Q (.done c) st) (Y:∀ c,HI r a b N c->Q (.done c) st/\Q (.yield c) st):wpS (model prog w) A E s (hiB a b mg bc na nb out) Q st:=by
 have hb:=M.hb
 refine wpS_bind (aJ (by lia) fun p e=>?_)
 have M2:=M.pG c.hA c.hB (by exact xbR ‹_›) e fun _=>lt
 by_cases z:nb - 1=1
 ·rw [if_pos (by simpa using z)]
  exact wpS_pure (D _ ⟨_,_,rfl,M2.tQ c.hA c.hB z c.hl⟩)
 ·rw [if_neg (by simpa using z)]
  have y:=Y _ ⟨_,_,_,0,bc+1,rfl,M2,h1,by lia,by lia⟩
  split
  ·exact wpS_pure y.1
  ·exact wpS_pure y.2
theorem D_ {Q:ForInStep S2->SortSt->Prop} {x:Nat} (c:MC prog w A s κ r P a b) (hk:kindOf st=κ) (M:MH r a b out na nb) (h1:0<na) (h2:2<=nb) (hN:na+nb<=N+1) (D:∀ c,HS r a b c->Q (.done c) st) (Y:∀ c,HI r a b N c->Q (.done c) st/\Q (.yield c) st):wpS (model prog w) A E s (hiI a b mg x (none,na,nb,out,ac,bc)) Q st:=by
 have ha:=M.ha
 have hb:=M.hb
 refine wpS_bind (aJ (show nb - 1<b.size by lia) fun pb eb=>wpS_bind (aJ (show na - 1<a.size by lia) fun pa ea=>wpS_bind (pY c.C hk (c.pb.at eb) (c.pa.at ea) ?_)))
 have rb:R r b (nb - 1)=r pb.1:=R_at eb
 have ra:R r a (na - 1)=r pa.1:=R_at ea
 dsimp only
 by_cases hw:r pb.1<r pa.1
 ·rw [if_pos (decide_eq_true hw)]
  exact CP c M h1 (by lia) h2 hN D Y
 ·rw [if_neg (by simpa using hw)]
  exact CW c M h1 (by lia) h2 hN D Y
theorem CT {Q:ForInStep S1->SortSt->Prop} (c:MC prog w A s κ r P a b) (hk:kindOf st=κ) (M:MH r a b out na nb) (h1:0<na) (h2:2<=nb) (hN:na+nb<=N) (D:∀ st',Mg st st'->∀ c,HS r a b c->Q (.done c) st')
  (Y:∀ st',Mg st st'->∀ out na nb mg,MH r a b out na nb->1<=na->2<=nb->na+nb<=N->Q (.yield (none,na,nb,out,mg)) st'):wpS (model prog w) A E s (hiP a b mg (none,na,nb,out,ac,bc)) Q st:=by
 refine wpS_bind (wpS_lift (wpAny_rule ⟨rfl,?_⟩))
 refine wpS_bind (wpS_mono (wpS_forRange (I:=fun _ c st'=>Mg st st'/\∃ na nb out mg ac bc,c=(none,na,nb,out,mg,ac,bc)/\MH r a b out na nb/\1<=na/\2<=nb/\na+nb<=N)
  (Q:=fun c st'=>Mg st st'/\(HS r a b c\/∃ na nb out mg ac bc,c=(none,na,nb,out,mg,ac,bc)/\MH r a b out na nb/\1<=na/\2<=nb/\na+nb<=N)) ?step ?fin ⟨.refl st,_,_,_,_,_,_,rfl,M,h1,h2,hN⟩) ?post)
 case fin =>
  rintro c st' ⟨hm,q⟩
  exact ⟨hm,.inr q⟩
 case step =>
  rintro y c1 st1 _ _ ⟨hm,na,nb,out,mg,ac,bc,rfl,M,h1,h2,hN⟩
  unfold hiG
  dsimp only
  split <;> exact DN c (hm.kind.trans hk) M h1 h2 hN (fun st' g o rest hM=>⟨hm.trans g,.inl ⟨o,rest,rfl,hM⟩⟩) fun st' g o na nb mg ac bc M h1 h2 hN=>⟨⟨hm.trans g,.inr ⟨_,_,_,_,_,_,rfl,M,h1,h2,hN⟩⟩,hm.trans g,_,_,_,_,_,_,rfl,M,h1,h2,hN⟩
 case post =>
  rintro c st' ⟨hm,⟨o,rest,rfl,hM⟩ | ⟨na,nb,out,mg,ac,bc,rfl,M,h1,h2,hN⟩⟩
  ·exact wpS_pure (D _ hm _ ⟨_,_,rfl,hM⟩)
  ·exact wpS_bind (ik (wpS_pure (Y _ (hm.set _) _ _ _ _ M h1 h2 hN)))
theorem CJ {Q:ForInStep S1->SortSt->Prop} {x:Nat} (c:MC prog w A s κ r P a b) (hk:kindOf st=κ) (M:MH r a b out na nb) (h1:0<na) (h2:2<=nb) (hN:na+nb<=N+1) (D:∀ st',Mg st st'->∀ c,HS r a b c->Q (.done c) st')
  (Y:∀ st',Mg st st'->∀ out na nb mg,MH r a b out na nb->1<=na->2<=nb->na+nb<=N->Q (.yield (none,na,nb,out,mg)) st'):wpS (model prog w) A E s (hiO a b x (none,na,nb,out,mg)) Q st:=by
 have ha:=M.ha
 have hb:=M.hb
 refine wpS_bind (wpS_mono (wpS_forRange (I:=fun y c st'=>st'=st/\HI r a b (N+1 - y) c) (Q:=fun c st'=>st'=st/\(HS r a b c\/HI r a b N c)) ?step ?fin ⟨rfl,_,_,_,_,_,rfl,M,h1,h2,hN⟩) ?post)
 case fin =>
  rintro c st' ⟨rfl,na',nb',o,ac,bc,rfl,M',q1,q2,q3⟩
  exact ⟨rfl,.inr ⟨_,_,_,_,_,rfl,M',q1,q2,by lia⟩⟩
 case step =>
  rintro y c1 st1 _ hy ⟨rfl,na',nb',o,ac,bc,rfl,M',q1,q2,q3⟩
  exact D_ (N:=N - y) c hk M' q1 q2 (by lia) (fun c q=>⟨rfl,.inl q⟩) fun c q=>by
   obtain ⟨na,nb,o,ac,bc,rfl,M,h1,h2,h3⟩:=q
   exact ⟨⟨rfl,.inr ⟨_,_,_,_,_,rfl,M,h1,h2,by walk_at "s4"⟩⟩,rfl,_,_,_,_,_,rfl,M,h1,h2,by lia⟩
 case post =>
  rintro c1 st' ⟨rfl,⟨o,rest,rfl,hM⟩ | ⟨na,nb,o,ac,bc,rfl,M',q1,q2,q3⟩⟩
  ·exact wpS_pure (D _ (.refl _) _ ⟨_,_,rfl,hM⟩)
  ·exact CT c hk M' q1 q2 q3 D Y
theorem qY {st:SortSt} {a b:Array Keyed} {Q:Array Keyed->SortSt->Prop} (C:Cmp prog w A s κ r P) (hk:kindOf st=κ) (hPa:AllP P a) (hPb:AllP P b) (hA:Up r a 0 a.size) (hB:Up r b 0 b.size) (na:1<=a.size) (nb:1<=b.size)
  (h0:R r b 0<=R r a 0) (hg:∀ j,j<b.size->R r b j<=R r a (a.size - 1)) (h:∀ out st',cz r a b out->Mg st st'->Q out st'):wpS (model prog w) A E s (sE a b) Q st:=by
 have c:MC prog w A s κ r P a b:=⟨C,hPa,hPb,hA,hB,fun i hi=>xa2 h0 (hA 0 i (xah _) (xar _) hi),hg⟩
 rw [uf]
 refine wpS_bind (wpS_lift (wpAny_rule ⟨rfl,?_⟩))
 refine wpS_bind (aJ (by exact xcd ‹_› xb1) fun y0 e0=>?_)
 have M1:MH r a b #[y0] (a.size - 1) b.size:=MH.start.pZ hA hB na e0 fun _=>hg _ (by exact xcd ‹_› xb1)
 by_cases c1:a.size - 1=0
 ·rw [if_pos (by simpa using c1)]
  exact wpS_pure (h _ _ (M1.endA hA hB c1) (.refl st))
 ·rw [if_neg (by simpa using c1)]
  by_cases c2:b.size=1
  ·rw [if_pos (by simpa using c2)]
   exact wpS_pure (h _ _ (M1.tQ hA hB c2 c.hl) (.refl st))
  ·rw [if_neg (by simpa using c2)]
   refine wpS_bind (wpS_get ?_)
   refine wpS_bind (wpS_mono (wpS_forRange (I:=fun x c st'=>Mg st st'/\∃ na nb out mg,c=(none,na,nb,out,mg)/\MH r a b out na nb/\1<=na/\2<=nb/\na+nb<=a.size+b.size - x)
    (Q:=fun c st'=>Mg st st'/\HS r a b c) ?step ?fin ⟨.refl st,_,_,_,_,rfl,M1,by lia,by lia,by lia⟩) ?post)
   case fin =>
    rintro c st' ⟨_,na,nb,out,mg,rfl,M,h1,h2,h3⟩
    lia
   case post =>
    rintro c st' ⟨hm,out,rest,rfl,hM⟩
    exact wpS_pure (h out st' hM hm)
   case step =>
    rintro x c1 st1 _ hx ⟨hm1,na,nb,out,mg,rfl,M,h1,h2,h3⟩
    exact CJ (N:=a.size+b.size - (x+1)) c (hm1.kind.trans hk) M h1 h2 (by lia) (fun st' g c q=>⟨hm1.trans g,q⟩) fun st' g out na nb mg M h1 h2 h3=>⟨hm1.trans g,_,_,_,_,rfl,M,h1,h2,h3⟩
end
def wr (p:Nat) (m:List Keyed) (n:Nat) (xs:Array Keyed):Array Keyed:=(m.zipIdx n).foldl (fun a (q:Keyed × Nat)=>a.setIfInBounds (p+q.2) q.1) xs
theorem vN (p:Nat):∀ (m:List Keyed) (n:Nat) (xs:Array Keyed),p+n+m.length<=xs.size->∀ k:Nat,(wr p m n xs)[k]? = if p+n<=k/\k<p+n+m.length then m[k - (p+n)]? else xs[k]?
 | [],n,xs,h,k=>by
  rw [if_neg (by simp only [List.length_nil]; lia)]; rfl
 | q :: m,n,xs,h,k=>by
  have ih:=vN p m (n+1) (xs.setIfInBounds (p+n) q) (by rw [Array.size_setIfInBounds]; simp only [xaK] at h; lia) k
  have e:wr p (q :: m) n xs=wr p m (n+1) (xs.setIfInBounds (p+n) q):=by unfold wr; rw [List.zipIdx_cons,List.foldl_cons]
  simp only [xaK] at h ⊢
  rw [e,ih]
  by_cases h1:p+(n+1)<=k/\k<p+(n+1)+m.length
  ·rw [if_pos h1,if_pos (by lia),show k - (p+n)=(k - (p+(n+1)))+1 by lia,List.getElem?_cons_succ]
  ·rw [if_neg h1]
   by_cases h2:k=p+n
   ·subst h2
    rw [if_pos (by walk_at "s4"),Nat.sub_self,List.getElem?_cons_zero,Array.getElem?_setIfInBounds_self_of_lt (by lia)]
   ·rw [if_neg (by lia),Array.getElem?_setIfInBounds_ne (by walk_at "s1")]
theorem zB (h:p+m.length<=xs.size):(wr p m 0 xs).toList=xs.toList.take p++m++xs.toList.drop (p+m.length):=by
 have hl:xs.toList.length=xs.size:=by simp
 apply xbC
 intro k
 have e:=vN p m 0 xs h k
 rw [xcq] at e
 rw [xaQ,e]
 by_cases h1:k<p
 ·rw [if_neg (by lia),xa0,xbo (by rw [xaC]; lia),List.getElem?_take_of_lt h1,xaQ]
 ·by_cases h2:k<p+m.length
  ·rw [if_pos (by lia),xa0,xaU (by rw [xaC]; lia),xaC,show min p xs.toList.length=p by lia,xbo (by lia)]
  ·rw [if_neg (by lia),xa0,xaU (by rw [xaC]; lia),xaC,show min p xs.toList.length=p by lia,xaU (by lia),List.getElem?_drop,
    show p+m.length+(k - p - m.length)=k by lia,xaQ]
theorem Ce {p q:Nat} {xs:Array Keyed} (h:p<=q) (h2:q<=xs.size):xs.toList=xs.toList.take p++(xs.extract p q).toList++xs.toList.drop q:=by
 rw [xb6,xbL]
 have e1:xs.toList.take p++(xs.toList.drop p).take (q - p)=xs.toList.take q:=by
  rw [<- xb2 p (xs.toList.take q),List.take_take,List.drop_take,Nat.min_eq_left h]
 rw [e1,xb2]
theorem BV {p q:Nat} {m:List Keyed} {xs:Array Keyed} (h:p<=q) (h2:q<=xs.size) (hm:m.Perm (xs.extract p q).toList):(wr p m 0 xs).Perm xs:=by
 have hl:m.length=q - p:=by rw [hm.length_eq]; simp; lia
 rw [xbI,zB (by lia),show p+m.length=q by lia]
 have e:=Ce (xs:=xs) h h2
 exact (List.Perm.append_right _ (List.Perm.append_left _ hm)).trans (by rw [<- e])
def Runs (r:Value->Int) (xs:Array Keyed):List (Nat × Nat × Nat)->Nat->Nat->Prop
 | [],a,b=>a=b
 | (s,n,_) :: rest,a,b=>s=a/\1<=n/\Up r xs s (s+n)/\Runs r xs rest (s+n) b
section
variable {r:Value->Int} {xs ys:Array Keyed}
theorem Runs.le:∀ {ps:List (Nat × Nat × Nat)} {a b:Nat},Runs r xs ps a b->a+ps.length<=b
 | [],a,b,h=>by simp only [Runs] at h; simp; lia
 | (s,n,p) :: rest,a,b,h=>by
  obtain ⟨rfl,h1,_,h3⟩:=h
  have:=Runs.le h3
  simp only [xaK]; lia
theorem Runs.append:∀ {ps qs:List (Nat × Nat × Nat)} {a b:Nat},Runs r xs (ps++qs) a b↔∃ c,Runs r xs ps a c/\Runs r xs qs c b
 | [],qs,a,b=>by simp [Runs]
 | (s,n,p) :: rest,qs,a,b=>by
  simp only [xbW,Runs]
  constructor
  ·rintro ⟨h1,h2,h3,h4⟩
   obtain ⟨c,h5,h6⟩:=Runs.append.mp h4
   exact ⟨c,⟨h1,h2,h3,h5⟩,h6⟩
  ·rintro ⟨c,⟨h1,h2,h3,h5⟩,h6⟩
   exact ⟨h1,h2,h3,Runs.append.mpr ⟨c,h5,h6⟩⟩
theorem Up.congr (h:Up r xs a b) (e:∀ k,a<=k->k<b->ys[k]? = xs[k]?):Up r ys a b:=fun i j h1 h2 h3=>by
 rw [cZ (e i h1 (by lia)),cZ (e j (by lia) h3)]; exact h i j h1 h2 h3
theorem Runs.congr:∀ {ps:List (Nat × Nat × Nat)} {a b:Nat},Runs r xs ps a b->(∀ k,a<=k->k<b->ys[k]? = xs[k]?)->Runs r ys ps a b
 | [],a,b,h,_=>h
 | (s,n,p) :: rest,a,b,h,e=>by
  obtain ⟨rfl,h1,h2,h3⟩:=h
  have l:=h3.le
  exact ⟨rfl,h1,h2.congr fun k u v=>e k u (by lia),Runs.congr h3 fun k u v=>e k (by walk_at "s4") v⟩
theorem Up.glue (h1:Up r xs a b) (h2:Up r xs b c) (h:∀ i j,a<=i->i<b->b<=j->j<c->R r xs i<=R r xs j):Up r xs a c:=fun i j u v w=>by
 by_cases hj:j<b
 ·exact h1 i j u v hj
 ·by_cases hi:i<b
  ·exact h i j u hi (by lia) w
  ·exact h2 i j (by lia) v w
end
section
variable {prog:Program} {w:World} {A:Around} {E:Value->Shared->Prop} {s:Shared} {κ:SortKind} {r:Value->Int} {P:Value->Prop}
theorem AllP.extract (h:AllP P xs) (i j:Nat):AllP P (xs.extract i j):=fun p hp=>h p (by
 rw [xb6,xbL] at hp
 exact xbF (xbG hp))
theorem dR (h:i+k<j) (hj:j<=xs.size):R r (xs.extract i j) k=R r xs (i+k):=by
 apply cZ
 rw [xbz,if_pos (by lia)]
theorem Up.extract (h:Up r xs i j) (hij:i<=j) (hj:j<=xs.size):Up r (xs.extract i j) 0 (xs.extract i j).size:=fun a b _ h2 h3=>by
 have e:(xs.extract i j).size=j - i:=by simp only [xbb]; lia
 rw [e] at h3
 rw [dR (by lia) hj,dR (by lia) hj]
 exact h _ _ (by lia) (by lia) (by lia)
theorem vR (hz:sa+na+nb<=xs.size) (hk:k<na) (hnb:nb'<=nb) (hA:Up r xs sa (sa+na)) (hB:Up r xs (sa+na) (sa+na+nb))
  (lo1:∀ i,i<k->R r xs (sa+i)<=R r xs (sa+na)) (lo2:R r xs (sa+na)<R r xs (sa+k)) (hi1:∀ i,i<nb'->R r xs (sa+na+i)<R r xs (sa+na - 1)) (hi2:∀ i,nb'<=i->i<nb->R r xs (sa+na - 1)<=R r xs (sa+na+i))
  (hm:cz r (xs.extract (sa+k) (sa+na)) (xs.extract (sa+na) (sa+na+nb')) m) :
  Up r (wr (sa+k) m.toList 0 xs) sa (sa+na+nb)/\(wr (sa+k) m.toList 0 xs).Perm xs/\∀ j,j<sa\/sa+na+nb<=j->(wr (sa+k) m.toList 0 xs)[j]? = xs[j]? := by
 obtain ⟨mp,mu⟩:=hm
 have eab:(xs.extract (sa+k) (sa+na)).toList++(xs.extract (sa+na) (sa+na+nb')).toList=(xs.extract (sa+k) (sa+na+nb')).toList:=by
  rw [<- Array.toList_append,Array.extract_append_extract,show min (sa+k) (sa+na)=sa+k by lia,show max (sa+na) (sa+na+nb')=sa+na+nb' by lia]
 rw [eab] at mp
 have ml:m.toList.length=na+nb' - k:=by rw [mp.length_eq]; simp; lia
 have hw:sa+k+m.toList.length<=xs.size:=by lia
 have get:=vN (sa+k) m.toList 0 xs (by lia)
 rw [xcq,ml] at get
 -- every merged item is one of the window's
 have mem:∀ (j:Nat) (p:Keyed),m.toList[j]? = some p->∃ i,sa+k<=i/\i<sa+na+nb'/\r p.1=R r xs i:=fun j p e=>by
  have hp:p∈(xs.extract (sa+k) (sa+na+nb')).toList:=mp.mem_iff.mp (xaL e)
  obtain ⟨i,hi⟩:=List.getElem?_of_mem hp
  rw [xaQ,xbz] at hi
  split at hi
  ·exact ⟨sa+k+i,by lia,by lia,(R_at hi).symm⟩
  ·cases hi
 have low:∀ i,sa+k<=i->i<sa+na+nb'->R r xs (sa+na)<=R r xs i:=fun i h1 h2=>by
  by_cases h3:i<sa+na
  ·exact xa2 (xbd lo2) (hA (sa+k) i (by lia) h1 h3)
  ·exact hB (sa+na) i (xah _) (by lia) (by lia)
 have high:∀ i,sa+k<=i->i<sa+na+nb'->R r xs i<=R r xs (sa+na - 1):=fun i h1 h2=>by
  by_cases h3:i<sa+na
  ·exact hA i (sa+na - 1) (by lia) (by lia) (by lia)
  ·have:=hi1 (i - (sa+na)) (by lia)
   rw [show sa+na+(i - (sa+na))=i by lia] at this
   lia
 have Rin:∀ j,j<na+nb' - k->∃ i,sa+k<=i/\i<sa+na+nb'/\R r (wr (sa+k) m.toList 0 xs) (sa+k+j)=R r xs i:=fun j hj=>by
  have e:=get (sa+k+j)
  rw [if_pos (by lia),show sa+k+j - (sa+k)=j by lia] at e
  have hj':j<m.toList.length:=by lia
  obtain ⟨i,h1,h2,h3⟩:=mem j m.toList[j] (xa4 hj')
  rw [xa4 hj'] at e
  exact ⟨i,h1,h2,(R_at e).trans h3⟩
 have Rout:∀ j,j<sa+k\/sa+na+nb'<=j->(wr (sa+k) m.toList 0 xs)[j]? = xs[j]? := fun j hj=>by
  have e:=get j
  rw [if_neg (by lia)] at e
  exact e
 refine ⟨?_,BV (by lia) (by lia) mp,fun j hj=>Rout j (by lia)⟩
 have U1:Up r (wr (sa+k) m.toList 0 xs) sa (sa+k):=Up.congr (xs:=xs) (fun i j h1 h2 h3=>hA i j h1 h2 (by lia)) fun j h1 h2=>Rout j (.inl h2)
 have U2:Up r (wr (sa+k) m.toList 0 xs) (sa+k) (sa+na+nb'):=fun i j h1 h2 h3=>by
  have ei:=get i
  have ej:=get j
  rw [if_pos (by lia)] at ei ej
  have li:i - (sa+k)<m.toList.length:=by lia
  have lj:j - (sa+k)<m.toList.length:=by lia
  rw [xa4 li] at ei
  rw [xa4 lj] at ej
  rw [R_at ei,R_at ej]
  by_cases hij:i=j
  ·subst hij; exact xa6 _
  ·exact (xa9.mp mu) _ _ li lj (by lia)
 have U3:Up r (wr (sa+k) m.toList 0 xs) (sa+na+nb') (sa+na+nb):=Up.congr (xs:=xs) (fun i j h1 h2 h3=>hB i j (by lia) h2 h3) fun j h1 h2=>Rout j (.inr h1)
 refine (U1.glue U2 fun i j h1 h2 h3 h4=>?_).glue U3 fun i j h1 h2 h3 h4=>?_
 ·obtain ⟨q,q1,q2,q3⟩:=Rin (j - (sa+k)) (by lia)
  rw [show sa+k+(j - (sa+k))=j by lia] at q3
  rw [q3,cZ (Rout i (.inl h2))]
  have:=lo1 (i - sa) (by lia)
  rw [show sa+(i - sa)=i by lia] at this
  exact xa2 this (low q q1 q2)
 ·have e2:=hi2 (j - (sa+na)) (by lia) (by lia)
  rw [show sa+na+(j - (sa+na))=j by lia] at e2
  rw [cZ (Rout j (.inr h3))]
  by_cases hi:i<sa+k
  ·rw [cZ (Rout i (.inl hi))]
   have:=lo1 (i - sa) (by lia)
   rw [show sa+(i - sa)=i by lia] at this
   have:=low (sa+na - 1) (by lia) (by lia)
   lia
  ·obtain ⟨q,q1,q2,q3⟩:=Rin (i - (sa+k)) (by lia)
   rw [show sa+k+(i - (sa+k))=i by lia] at q3
   rw [q3]
   exact xa2 (high q q1 q2) e2
structure St (r:Value->Int) (κ:SortKind) (a₀:Array Keyed) (st:SortSt) (ps:List (Nat × Nat × Nat)) (lo:Nat):Prop where
 kind:kindOf st=κ
 failed:failedOf st=none
 perm:(arrOf st).Perm a₀
 pend:pendingOf st=ps.toArray
 runs:Runs r (arrOf st) ps 0 lo
theorem St.size {a₀:Array Keyed} {st:SortSt} {ps:List (Nat × Nat × Nat)} {lo:Nat} (h:St r κ a₀ st ps lo):(arrOf st).size=a₀.size:=h.perm.size_eq
theorem yD {ps:List (Nat × Nat × Nat)} (h:i+1<ps.length):∃ pre x y post,ps=pre++x :: y :: post/\pre.length=i:=by
 refine ⟨ps.take i,ps[i],ps[i+1],ps.drop (i+2),?_,by rw [xaC]; lia⟩
 rw [<- xa1 (by lia),<- xa1 (by lia),xb2]
theorem jt {st:SortSt} {a₀:Array Keyed} {ps:List (Nat × Nat × Nat)} {lo i:Nat} {Q:Bool->SortSt->Prop} (C:Cmp prog w A s κ r P) (hP:AllP P a₀) (H:St r κ a₀ st ps lo) (hlo:lo<=a₀.size) (hi:i+1<ps.length)
  (h:∀ st' ps',St r κ a₀ st' ps' lo->ps'.length+1=ps.length->ps'≠[]->(∀ k,lo<=k->(arrOf st')[k]? = (arrOf st)[k]?)->Q true st'):wpS (model prog w) A E s (mergeAt' i) Q st:=by
 obtain ⟨pre,⟨sa,na,pa⟩,⟨sb,nb,pb⟩,post,rfl,hpre⟩:=yD hi
 have hz:=H.size
 have hP':AllP P (arrOf st):=hP.perm H.perm
 obtain ⟨c,hr1,hr2⟩:=Runs.append.mp H.runs
 obtain ⟨rfl,n1,u1,rfl,n2,u2,hr3⟩:=hr2
 have le3:=hr3.le
 have le1:=hr1.le
 -- the new pending list
 have epend:((pendingOf st).setIfInBounds i (sa,na+nb,pa)).eraseIdxIfInBounds (i+1)=(pre++(sa,na+nb,pa) :: post).toArray:=by
  rw [H.pend]
  apply xb0.mp
  simp [<- hpre,List.eraseIdx_append_of_length_le]
 have new:∀ (xs:Array Keyed) (g:Nat),xs.Perm (arrOf st)->(∀ j,j<sa\/sa+na+nb<=j->xs[j]? = (arrOf st)[j]?)->Up r xs sa (sa+(na+nb)) ->
   St r κ a₀ (SortSt.mk' (kindOf st) xs (pre++(sa,na+nb,pa) :: post).toArray g (failedOf st)) (pre++(sa,na+nb,pa) :: post) lo:=fun xs g hp ho hu =>
  ⟨H.kind,H.failed,hp.trans H.perm,rfl,Runs.append.mpr ⟨sa,hr1.congr fun k _ hk=>ho k (.inl hk),rfl,by walk_at "s4",hu,by
   rw [show sa+(na+nb)=sa+na+nb by exact (xbK ..).symm]
   exact hr3.congr fun k hk _=>ho k (.inr hk)⟩⟩
 have len:(pre++(sa,na+nb,pa) :: post).length+1=(pre++(sa,na,pa) :: (sa+na,nb,pb) :: post).length:=by simp; exact xbK ..
 have e0:(pendingOf st)[i]? = some (sa,na,pa):=by rw [H.pend,<- hpre]; simp
 have e1:(pendingOf st)[i+1]? = some (sa+na,nb,pb):=by rw [H.pend,<- hpre]; simp
 refine wpS_bind (wpS_get ?_)
 rw [e0,e1]
 dsimp only
 refine wpS_bind (wpS_modify (f:=fun _=>SortSt.mk' (kindOf st) (arrOf st) (((pendingOf st).setIfInBounds i (sa,na+nb,pa)).eraseIdxIfInBounds (i+1)) (gallopOf st) (failedOf st)) ?_)
 rw [epend]
 refine wpS_bind (aJ (xs:=arrOf st) (by lia) fun kb ekb=>wpS_bind (cY (arr:=arrOf st) C H.kind hP' (hP'.at ekb) (by lia) (by assumption) u1 fun k hk1 hk2 hk3=>?_))
 have rkb:=R_at (r:=r) ekb
 dsimp only
 by_cases z:na - k=0
 ·rw [if_pos (by simpa using z)]
  refine wpS_pure (h _ _ (new (arrOf st) (gallopOf st) (Array.Perm.refl _) (fun _ _=>rfl) ?_) len (by simp) fun _ _=>rfl)
  rw [show sa+(na+nb)=sa+na+nb by exact (xbK ..).symm]
  refine u1.glue u2 fun i j h1 h2 h3 h4=>?_
  have:=yE (hk2 (i - sa) (by lia))
  rw [show sa+(i - sa)=i by exact xbc ‹_›] at this
  have:=u2 (sa+na) j (xah _) h3 h4
  lia
 ·rw [if_neg (by simpa using z)]
  refine wpS_bind (aJ (xs:=arrOf st) (by lia) fun ka eka=>wpS_bind (cY (arr:=arrOf st) C H.kind hP' (hP'.at eka) (by lia) (by exact xcd ‹_› xb1) u2 fun l hl1 hl2 hl3=>?_))
  have rka:=R_at (r:=r) eka
  rw [show sa+k+(na - k) - 1=sa+na - 1 by lia] at rka
  dsimp only
  by_cases z2:l=0
  ·rw [if_pos (by simpa using z2)]
   refine wpS_pure (h _ _ (new (arrOf st) (gallopOf st) (Array.Perm.refl _) (fun _ _=>rfl) ?_) len (by simp) fun _ _=>rfl)
   rw [show sa+(na+nb)=sa+na+nb by exact (xbK ..).symm]
   refine u1.glue u2 fun i j h1 h2 h3 h4=>?_
   have:=tU (hl3 (j - (sa+na)) (by lia) (by lia))
   rw [show sa+na+(j - (sa+na))=j by exact xbc ‹_›] at this
   have:=u1 i (sa+na - 1) h1 (by lia) (by lia)
   lia
  ·rw [if_neg (by simpa using z2)]
   have lo1:∀ i,i<k->R r (arrOf st) (sa+i)<=R r (arrOf st) (sa+na):=fun i hi=>by have:=yE (hk2 i hi); lia
   have lo2:R r (arrOf st) (sa+na)<R r (arrOf st) (sa+k):=by have:=wM (hk3 k (xah _) (by lia)); lia
   have hi1:∀ i,i<l->R r (arrOf st) (sa+na+i)<R r (arrOf st) (sa+na - 1):=fun i hi=>by have:=Bl (hl2 i hi); lia
   have hi2:∀ i,l<=i->i<nb->R r (arrOf st) (sa+na - 1)<=R r (arrOf st) (sa+na+i):=fun i h1 h2=>by have:=tU (hl3 i h1 h2); lia
   have sx:((arrOf st).extract (sa+k) (sa+na)).size=na - k:=by simp only [xbb]; lia
   have sy:((arrOf st).extract (sa+na) (sa+na+l)).size=l:=by simp only [xbb]; lia
   have ux:Up r ((arrOf st).extract (sa+k) (sa+na)) 0 ((arrOf st).extract (sa+k) (sa+na)).size:=Up.extract (fun i j h1 h2 h3=>u1 i j (by lia) h2 h3) (by lia) (by lia)
   have uy:Up r ((arrOf st).extract (sa+na) (sa+na+l)) 0 ((arrOf st).extract (sa+na) (sa+na+l)).size:=Up.extract (fun i j h1 h2 h3=>u2 i j h1 h2 (by walk_at "s4")) (by exact xbe _ _) (by lia)
   have h00:R r ((arrOf st).extract (sa+na) (sa+na+l)) 0<=R r ((arrOf st).extract (sa+k) (sa+na)) 0:=by
    rw [dR (by lia) (by lia),dR (by lia) (by lia)]
    exact xbd lo2
   have hgg:∀ j,j<((arrOf st).extract (sa+na) (sa+na+l)).size->R r ((arrOf st).extract (sa+na) (sa+na+l)) j<=R r ((arrOf st).extract (sa+k) (sa+na)) (((arrOf st).extract (sa+k) (sa+na)).size - 1):=fun j hj=>by
    rw [sx,dR (by lia) (by lia),dR (by lia) (by lia),show sa+k+(na - k - 1)=sa+na - 1 by lia]
    exact xbd (hi1 j (by lia))
   have fin:∀ out st',cz r ((arrOf st).extract (sa+k) (sa+na)) ((arrOf st).extract (sa+na) (sa+na+l)) out->Mg (SortSt.mk' (kindOf st) (arrOf st) (pre++(sa,na+nb,pa) :: post).toArray (gallopOf st) (failedOf st)) st' ->
     Q true (SortSt.mk' (kindOf st') (wr (sa+k) out.toList 0 (arrOf st')) (pendingOf st') (gallopOf st') (failedOf st')):=fun out st' hm hg=>by
    obtain ⟨g,rfl⟩:=hg
    obtain ⟨m1,m2,m3⟩:=vR (by lia) (by lia) hl1 u1 u2 lo1 lo2 hi1 hi2 hm
    exact h _ _ (new _ g m2 m3 (by rw [show sa+(na+nb)=sa+na+nb by exact (xbK ..).symm]; exact m1)) len (by simp) fun k hk=>m3 k (.inr (by lia))
   have fin2:∀ out st',cz r ((arrOf st).extract (sa+k) (sa+na)) ((arrOf st).extract (sa+na) (sa+na+l)) out->Mg (SortSt.mk' (kindOf st) (arrOf st) (pre++(sa,na+nb,pa) :: post).toArray (gallopOf st) (failedOf st)) st' ->
     failedOf st'=none:=fun out st' _ hg=>by
    obtain ⟨g,rfl⟩:=hg
    exact H.failed
   by_cases z3:na - k<=l
   ·rw [if_pos z3]
    refine wpS_bind (rT (a:=(arrOf st).extract (sa+k) (sa+na)) (b:=(arrOf st).extract (sa+na) (sa+na+l)) C H.kind (hP'.extract _ _) (hP'.extract _ _) ux uy (by lia) (by lia) h00 hgg fun out st' hm hg=>?_)
    refine wpS_bind (wpS_modify (wpS_bind (wpS_get ?_)))
    have f:=fin out st' hm hg
    have f2:=fin2 out st' hm hg
    refine wpS_pure ?_
    show Q (failedOf st').isNone _
    rw [f2]
    exact f
   ·rw [if_neg z3]
    refine wpS_bind (qY (a:=(arrOf st).extract (sa+k) (sa+na)) (b:=(arrOf st).extract (sa+na) (sa+na+l)) C H.kind (hP'.extract _ _) (hP'.extract _ _) ux uy (by lia) (by lia) h00 hgg fun out st' hm hg=>?_)
    refine wpS_bind (wpS_modify (wpS_bind (wpS_get ?_)))
    have f:=fin out st' hm hg
    have f2:=fin2 out st' hm hg
    refine wpS_pure ?_
    show Q (failedOf st').isNone _
    rw [f2]
    exact f
end
section
variable {prog:Program} {w:World} {A:Around} {E:Value->Shared->Prop} {s:Shared} {κ:SortKind} {r:Value->Int} {P:Value->Prop}
theorem Runs.modify (hf:∀ x,(f x).1=x.1/\(f x).2.1=x.2.1):∀ {ps:List (Nat × Nat × Nat)} {i a b:Nat},Runs r xs ps a b->Runs r xs (ps.modify i f) a b
 | [],_,_,_,h=>by simpa using h
 | (s,n,p) :: rest,0,a,b,h=>by
  obtain ⟨h1,h2⟩:=hf (s,n,p)
  rw [List.modify_zero_cons]
  have e:f (s,n,p)=(s,n,(f (s,n,p)).2.2):=Prod.ext h1 (Prod.ext h2 rfl)
  rw [e]
  exact h
 | (s,n,p) :: rest,i+1,a,b,h=>by
  rw [List.modify_succ_cons]
  obtain ⟨h1,h2,h3,h4⟩:=h
  exact ⟨h1,h2,h3,Runs.modify hf h4⟩
theorem St.win {a₀:Array Keyed} {st st':SortSt} {ps:List (Nat × Nat × Nat)} {lo hi:Nat} (H:St r κ a₀ st ps lo) (hw:Win lo hi st st'):St r κ a₀ st' ps lo :=
 ⟨hw.kind.trans H.kind,hw.failed.trans H.failed,hw.perm.trans H.perm,hw.pend.trans H.pend,H.runs.congr fun k _ hk=>hw.out k (.inl hk)⟩
theorem wpS_sortRuns {st:SortSt} {Q:Unit->SortSt->Prop} (C:Cmp prog w A s κ r P) (hk:kindOf st=κ) (hP:AllP P (arrOf st)) (hp:pendingOf st = #[]) (hf:failedOf st=none)
  (h:∀ st',(arrOf st').Perm (arrOf st)->failedOf st'=none->Up r (arrOf st') 0 (arrOf st).size->Q () st'):wpS (model prog w) A E s sortRuns' Q st:=by
 rw [sortRuns'_eq]
 refine wpS_bind (wpS_get ?_)
 dsimp only
 generalize ha:arrOf st=a₀ at *
 have H0:St r κ a₀ st [] 0:=⟨hk,hf,by rw [ha],by rw [hp],rfl⟩
 refine wpS_bind (wpS_mono (wpS_forRange (I:=fun x c st'=>∃ ps lo,c=(none,lo)/\St r κ a₀ st' ps lo/\lo<=a₀.size/\x<=lo)
  (Q:=fun c st'=>∃ ps,c=(none,a₀.size)/\St r κ a₀ st' ps a₀.size) ?step ?fin ⟨[],0,rfl,H0,xar _,xah _⟩) ?post)
 case fin =>
  rintro c st' ⟨ps,lo,rfl,H,h1,h2⟩
  have:lo=a₀.size:=by lia
  subst this
  exact ⟨ps,rfl,H⟩
 case post =>
  rintro c st' ⟨ps,rfl,H⟩
  dsimp only
  have l0:=H.runs.le
  refine wpS_bind (wpS_mono (wpS_forRange (I:=fun y c st'=>c=(none,())/\∃ ps',St r κ a₀ st' ps' a₀.size/\ps'.length+y<=a₀.size)
   (Q:=fun c st'=>c=(none,())/\∃ ps',St r κ a₀ st' ps' a₀.size/\ps'.length<=1) ?step3 ?fin3 ⟨rfl,ps,H,by lia⟩) ?post3)
  case fin3 =>
   rintro c st' ⟨rfl,ps',H',hl⟩
   exact ⟨rfl,ps',H',by lia⟩
  case post3 =>
   rintro c st' ⟨rfl,ps',H',hl⟩
   refine wpS_pure (h st' H'.perm H'.failed ?_)
   have q:=H'.runs
   match ps',hl,q with
   | [],_,q =>
    have q:0=a₀.size:=q
    intro i j _ _ hj
    lia
   | [(s',n',p')],_,q =>
    obtain ⟨rfl,_,hu,e⟩:=q
    have e:0+n'=a₀.size:=e
    rw [<- e]
    exact hu
  case step3 =>
   rintro y c st1 _ hy ⟨rfl,ps',H',hl⟩
   refine wpS_bind (wpS_get ?_)
   have ep:(pendingOf st1).size=ps'.length:=by rw [H'.pend]; simp
   by_cases z:(pendingOf st1).size<=1
   ·rw [if_pos z]
    exact wpS_pure ⟨rfl,ps',H',by lia⟩
   ·rw [if_neg z]
    refine wpS_bind (jt C hP H' (xah _) (by (repeat' split) <;> lia) fun st2 ps2 H2 hlen _ _=>?_)
    rw [if_neg (by simp)]
    exact wpS_pure ⟨rfl,ps2,H2,by lia⟩
 case step =>
  rintro x c st1 _ hx ⟨ps,lo,rfl,H,h1,h2⟩
  dsimp only
  by_cases z:lo >= a₀.size
  ·rw [if_pos z]
   have:lo=a₀.size:=by lia
   subst this
   exact wpS_pure ⟨ps,rfl,H⟩
  ·rw [if_neg z]
   have hz:=H.size
   refine wpS_bind (wpS_countRun C H.kind (hP.perm H.perm) (by lia) (by lia) fun m st2 hw hm1 hm2 hu=>?_)
   have H2:=H.win hw
   dsimp only
   refine zu (K:=?K) ?pk fun key=>?main
   case main =>
    by_cases z2:m<minRun' a₀.size a₀.size 0
    ·rw [if_pos z2]
     refine wpS_bind (wpS_lift (wpAny_rule ⟨rfl,?_⟩))
     refine wpS_bind (wpS_binarySort C H2.kind (hP.perm H2.perm) (by clear key; have:=H2.size; lia) (by clear key; lia) hu fun st3 hw3 hu3=>?_)
     have H3:=H2.win hw3
     rw [if_neg (by simp)]
     have b1:1<=min (a₀.size - lo) (minRun' a₀.size a₀.size 0):=by clear key; lia
     have b2:lo+min (a₀.size - lo) (minRun' a₀.size a₀.size 0)<=a₀.size:=by clear key; lia
     clear hw3
     generalize min (a₀.size - lo) (minRun' a₀.size a₀.size 0)=nn at *
     revert nn st3
     exact key
    ·rw [if_neg z2]
     exact key _ H2 _ hu hm1 (by lia)
   intro st3 H3 nn hu3 b1 b2
   refine wpS_bind (wpS_get ?_)
   have push:∀ (st':SortSt) (ps':List (Nat × Nat × Nat)),St r κ a₀ st' ps' lo->Up r (arrOf st') lo (lo+nn)->∃ ps lo',((none:Option Unit),lo+nn)=(none,lo')/\St r κ a₀ (setPending st' ((pendingOf st').push (lo,nn,0))) ps lo'/\lo'<=a₀.size/\x+1<=lo':=fun st' ps' G u =>
    ⟨ps'++[(lo,nn,0)],lo+nn,rfl,⟨G.kind,G.failed,G.perm,by show (pendingOf st').push _=_; rw [G.pend]; simp,Runs.append.mpr ⟨lo,G.runs,rfl,b1,u,rfl⟩⟩,b2,by lia⟩
   cases hb:(pendingOf st3).back? with
   | none =>
    dsimp only
    exact wpS_bind (wpS_modify (wpS_pure (push st3 ps H3 hu3)))
   | some t =>
    obtain ⟨s1,n1,p1⟩:=t
    dsimp only
    generalize power' a₀.size (2 * s1+n1) (2 * s1+n1+n1+nn) a₀.size=pw
    refine wpS_bind (wpS_mono (wpS_forRange (I:=fun y c st'=>c=(none,())/\∃ ps',St r κ a₀ st' ps' lo/\Up r (arrOf st') lo (lo+nn))
     (Q:=fun c st'=>c=(none,())/\∃ ps',St r κ a₀ st' ps' lo/\Up r (arrOf st') lo (lo+nn)) ?_ (fun _ _ q=>q) ⟨rfl,ps,H3,hu3⟩) ?_)
    ·rintro y c st4 _ hy ⟨rfl,ps',H4,hu4⟩
     refine wpS_bind (wpS_get ?_)
     have ep:(pendingOf st4).size=ps'.length:=by rw [H4.pend]; simp
     by_cases z3:(pendingOf st4).size>1
     ·rw [if_pos z3]
      have e4:(pendingOf st4)[(pendingOf st4).size - 2]? = some ((pendingOf st4)[(pendingOf st4).size - 2]'(by lia)):=getElem?_pos _ _ (by lia)
      rw [e4]
      generalize (pendingOf st4)[(pendingOf st4).size - 2]'(by lia)=tt
      obtain ⟨t1,t2,older⟩:=tt
      dsimp only
      by_cases z4:older<=pw
      ·rw [if_pos z4]
       exact wpS_pure ⟨rfl,ps',H4,hu4⟩
      ·rw [if_neg z4]
       refine wpS_bind (jt C hP H4 h1 (by lia) fun st5 ps5 H5 hlen _ hout=>?_)
       rw [if_neg (by simp)]
       exact wpS_pure ⟨rfl,ps5,H5,hu4.congr fun k hk _=>hout k hk⟩
     ·rw [if_neg z3]
      exact wpS_pure ⟨rfl,ps',H4,hu4⟩
    ·rintro c st4 ⟨rfl,ps',H4,hu4⟩
     dsimp only
     refine wpS_bind (wpS_modify (wpS_bind (wpS_modify (wpS_pure ?_))))
     refine push _ (ps'.modify (ps'.length - 1) fun x=>(x.1,x.2.1,pw)) ⟨H4.kind,H4.failed,H4.perm,?_,Runs.modify (f:=fun x=>(x.1,x.2.1,pw)) (fun _=>⟨rfl,rfl⟩) H4.runs⟩ hu4
     show (pendingOf st4).modify ((pendingOf st4).size - 1) (fun x=>(x.1,x.2.1,pw))=_
     rw [H4.pend]
     simp
end
section
variable {prog:Program} {w:World} {A:Around} {E:Value->Shared->Prop} {s:Shared} {κ:SortKind} {r:Value->Int} {P:Value->Prop}
def eE (h:Heap) (a:Addr) (vs:List Value):Heap:=((h.update a (Obj.mapSeq fun _=>#[])).push (seqObj "tuple" vs.toArray 0)).push (seqObj "list" #[] 0)
theorem rN (hb:b≠a) (hlt:b<h.objs.size):(eE h a vs).get? b=h.get? b:=by
 unfold eE
 rw [xbs _ _ _ (by rw [size_push',xbu]; exact xaA (xaZ hlt)),
  xbs _ _ _ (by rw [xbu]; exact xaA hlt),Heap.get?_update_ne _ _ _ _ hb]
theorem rB (hp:xs.Perm (pairsOf vs)) (hs:Up r xs 0 vs.length):(xs.map (·.2)).toList.Perm vs/\(xs.map (·.2)).toList.Pairwise fun x y=>r x<=r y:=by
 have hl:xs.toList.Perm (vs.zip vs):=by rw [<- pairsOf_toList]; exact xbI.mp hp
 have hmem:∀ p,p∈xs.toList->p.1=p.2:=fun p hp'=>(mem_zip_self (hl.mem_iff.mp hp')).1
 have e:(xs.map (·.2)).toList=xs.toList.map (·.1):=by
  rw [Array.toList_map]; exact xbv fun p hp'=>(hmem p hp').symm
 have hsz:xs.size=vs.length:=by rw [hp.size_eq,pairsOf_size]
 rw [e]
 refine ⟨?_,?_⟩
 ·have h1:=hl.map (·.1)
  rwa [xb3 (xah _)] at h1
 ·rw [xa9]
  intro i j hi hj hij
  have hi':i<xs.size:=by simpa using hi
  have hj':j<xs.size:=by simpa using hj
  have h1:=hs i j (xar _) (xaT hij) (by lia)
  rw [DX hi',DX hj'] at h1
  simpa using h1
theorem pI {F:PySem.Fin->Shared->Prop} (ho:s.heap.get? a=some (seqObj "list" vs.toArray n)) (hsz:vs.length<=sizeLine) (hP:∀ v∈vs,P v)
  (hk:2<=vs.length->∀ (Q:SortKind->Shared->Prop),Q κ { s with heap:=eE s.heap a vs }->wpAny (model prog w) A (keyKind' vs.toArray) Q E { s with heap:=eE s.heap a vs })
  (C:2<=vs.length->Cmp prog w A { s with heap:=eE s.heap a vs } κ r P)
  (h:∀ out:Array Value,out.toList.Perm vs->(out.toList.Pairwise fun x y=>r x<=r y)->F (.done (.ret .none)) { s with heap:=sortedHeap s.heap a vs out }) :
  wpAny (model prog w) A (Builtin.«list.sort» ⟨[.ref a],[]⟩) F E s:=by
 rw [list_sort_plain]
 have ha:a<s.heap.objs.size:=xao ho
 refine xaa (listItems_at ho rfl ?_)
 refine xaa (listUpdate_at ho rfl ?_ (by simpa using hsz) (xar _))
 obtain ⟨e1,ho1⟩:∃ e1,(s.heap.update a (Obj.mapSeq fun _=>#[])).get? a=some (seqObj "list" #[] e1):=⟨_,get?_update_seq ho (fun _=>#[])⟩
 refine xaa (seqEpoch_at ho1 rfl ?_)
 refine xaa (wpAny_newTuple ?_ (by simpa using hsz))
 refine xaa (wpAny_newList ?_ (xar _))
 refine wpAny_holding ?_
 have ho6:(eE s.heap a vs).get? a=some (seqObj "list" #[] e1):=by
  unfold eE
  rw [xbs _ _ _ (by rw [size_push',xbu]; exact xaA (xaZ ha)),xbs _ _ _ (by rw [xbu]; exact xaA ha)]
  exact ho1
 show wpAny (model prog w) A _ F E { s with heap:=eE s.heap a vs }
 dsimp only
 have hvz:vs.toArray.size=vs.length:=by simp
 have fin:∀ st':SortSt,(arrOf st').Perm (pairsOf vs)->Up r (arrOf st') 0 vs.length->F (.done (.ret .none)) { s with heap:=sortedHeap s.heap a vs ((arrOf st').map (·.2)) }:=by
  intro st' hp hs
  obtain ⟨h1,h2⟩:=rB hp hs
  exact h _ h1 h2
 by_cases h2:vs.toArray.size<2
 ·rw [if_pos h2,if_pos h2]
  refine xaa (xae ?_)
  rw [StateT.run_pure]
  refine xaa (xae ?_)
  dsimp only
  refine xaa (seqEpoch_at ho6 rfl ?_)
  refine xaa (listUpdate_at ho6 rfl ?_ (xar _) (by rw [Array.size_map]; show (pairsOf vs).size<=_; rw [pairsOf_size]; lia))
  simp only [bne_self_eq_false,xat,if_false]
  refine xae (fin (SortSt.mk' general' (vs.toArray.zip vs.toArray) #[] 7 none) (Array.Perm.refl _) ?_)
  intro i j _ hij hj
  have:i=j:=by lia
  subst this; exact xa6 _
 ·rw [if_neg h2,if_neg h2]
  refine xaa (hk (by lia) _ ?_)
  refine xaa (xaM (wpS_sortRuns (st:=SortSt.mk' κ (vs.toArray.zip vs.toArray) #[] 7 none)
   (Q:=fun _ st'=>(arrOf st').Perm (pairsOf vs)/\failedOf st'=none/\Up r (arrOf st') 0 vs.length)
   (C (by lia)) rfl (fun p hp=>?_) rfl rfl fun st' a1 a2 a3=>⟨a1,a2,?_⟩) ?_ fun _ _ e=>e)
  ·have hp':p∈(pairsOf vs).toList:=hp
   rw [pairsOf_toList] at hp'
   exact hP _ (mem_zip_self hp').2
  ·have e:(arrOf (SortSt.mk' κ (vs.toArray.zip vs.toArray) #[] 7 none)).size=vs.length:=pairsOf_size vs
   rw [e] at a3
   exact a3
  ·rintro ⟨⟨⟩,st'⟩ s' ⟨rfl,hp,hf,hs⟩
   dsimp only
   refine xaa (seqEpoch_at ho6 rfl ?_)
   refine xaa (listUpdate_at ho6 rfl ?_ (xar _) (by refine xaz (xcp ((Array.size_map ..).trans (hp.size_eq.trans (pairsOf_size _)))) ?_; lia))
   rw [hf]
   simp only [bne_self_eq_false,xat,if_false]
   exact xae (fin st' hp hs)
def gC (h:Heap) (vs:List Value):Heap:=((h.push (seqObj "list" #[] 0)).update h.objs.size (Obj.mapSeq (· ++ vs.toArray))).push (seqObj "list" vs.toArray 0)
theorem jy (hb:h.get? b=some o):(eE (gC h vs) (h.objs.size+1) vs).get? b=some o:=by
 have hlt:b<h.objs.size:=xao hb
 have e:(gC h vs).get? b=some o:=by
  unfold gC
  rw [xbs _ _ _ (by rw [xbu,size_push']; exact xaA (xaZ hlt)),Heap.get?_update_ne _ _ _ _ (xaA hlt),xbs _ _ _ (xaA hlt)]
  exact hb
 rw [rN (xaA (xaZ hlt)) (xao e)]
 exact e
theorem vH (hl:s.heap.IsList l vs.toArray) (hsz:vs.length<=sizeLine) (hP:∀ v∈vs,P v)
  (hk:2<=vs.length->∀ (A':Around) (E':Value->Shared->Prop) (s':Shared),(∀ b o,s.heap.get? b=some o->s'.heap.get? b=some o)->∀ (Q:SortKind->Shared->Prop),Q κ s'->wpAny (model prog w) A' (keyKind' vs.toArray) Q E' s')
  (C:2<=vs.length->∀ (s':Shared),(∀ b o,s.heap.get? b=some o->s'.heap.get? b=some o)->Cmp prog w A.in1.in1 s' κ r P)
  (h:∀ (h':Heap) (out:List Value) (n:Nat),out.Perm vs->(out.Pairwise fun x y=>r x<=r y)->(∀ b o,s.heap.get? b=some o->h'.get? b=some o)->h'.get? (s.heap.objs.size+1)=some (seqObj "list" out.toArray n)->Q (.ref (s.heap.objs.size+1)) { s with heap:=h' }) :
  wpAny (model prog w) A (call (.builtin "sorted") [.ref l]) Q E s:=by
 refine Calls.call_function_entry kind_sorted plain_sorted entry_sorted (args_sorted1 _) ?_
 unfold Builtin.«sorted»
 refine xaa (m:=checkCount "sorted" 1 1 _) (xae ?_)
 refine xaa (collect_list hl ?_ hsz)
 refine xaa (wpAny_newList ?_ (by simpa using hsz))
 have hsz2:((s.heap.push (seqObj "list" #[] 0)).update s.heap.objs.size (Obj.mapSeq (· ++ vs.toArray))).objs.size=s.heap.objs.size+1:=by
  rw [xbu,size_push']
 have hoL:(gC s.heap vs).get? (s.heap.objs.size+1)=some (seqObj "list" vs.toArray 0):=by
  unfold gC
  rw [<- hsz2]; exact xaI _ rfl
 show wpAny _ _ _ _ _ { s with heap:=gC s.heap vs }
 rw [hsz2]
 refine xaa (wpAny_holding (wpAny_call_entry slot_list_sort ⟨_,hoL,rfl⟩ entry_list_sort (pI (r:=r) (s:={ s with heap:=gC s.heap vs }) hoL hsz hP
  (fun h2=>hk h2 _ _ _ fun b o e=>jy e) (fun h2=>?_) fun out a1 a2=>⟨_,rfl,?_⟩) (args_list_sort _)))
 ·exact C h2 _ fun b o e=>jy e
 ·obtain ⟨n,e⟩:=sortedAll_at s.heap vs out
  refine xae ⟨_,rfl,h (sortedAll s.heap vs out) out.toList n a1 a2 (fun b o e=>sortedAll_old e) (by rw [Array.toArray_toList]; exact e)⟩
end
end Tim
namespace L2
open PySem PySem.Spec PyProof.Rows
def lt1:Key->Key->Bool
 | .inl i,.inl j=>decide (i<j)
 | .inr x,.inr y=>ltS x y
 | _,_=>false
def ltK:List Key->List Key->Bool
 | a :: as,b :: bs=>if a=b then ltK as bs else lt1 a b
 | _,_=>false
def isI:Key->Bool
 | .inl _=>true
 | .inr _=>false
def shOf (k:List Key):List Bool:=k.map isI
theorem Br (x:Str):ltS x x=false:=by unfold ltS; simp [List.lt_irrefl]
theorem DW (h:ltS x y=true) (g:ltS y z=true):ltS x z=true:=by
 unfold ltS at *
 simp only [decide_eq_true_eq] at *
 exact List.lt_trans h g
theorem vX {x y:Str} (h:x.cps.toList=y.cps.toList):x=y:=by
 cases x; cases y
 simp only at h
 rw [xb0.mp h]
theorem zH {x y:Str} (h:ltS x y=false) (g:ltS y x=false):x=y:=by
 unfold ltS at *
 simp only [decide_eq_false_iff_not] at *
 apply vX
 exact List.le_antisymm (List.not_lt.mp g) (List.not_lt.mp h)
theorem zT (a:Key):lt1 a a=false:=by cases a with | inl i=>simp [lt1] | inr x=>exact Br x
theorem Dt (h:lt1 a b=true) (g:lt1 b c=true):lt1 a c=true:=by
 cases a <;> cases b <;> cases c <;> simp only [lt1,decide_eq_true_eq] at * <;> first | lia | contradiction | exact DW h g
theorem BX (e:isI a=isI b) (h:lt1 a b=false) (g:lt1 b a=false):a=b:=by
 cases a <;> cases b <;> simp only [lt1,isI,decide_eq_false_iff_not] at *
 ·congr 1; lia
 ·cases e
 ·cases e
 ·congr 1; exact zH h g
theorem vB:∀ a:List Key,ltK a a=false
 | []=>rfl
 | a :: as=>by unfold ltK; rw [if_pos rfl]; exact vB as
theorem v_:∀ {a b c:List Key},ltK a b=true->ltK b c=true->ltK a c=true
 | [],_,_,h,_=>by simp [ltK] at h
 | _ :: _,[],_,h,_=>by simp [ltK] at h
 | _ :: _,_ :: _,[],_,g=>by simp [ltK] at g
 | a :: as,b :: bs,c :: cs,h,g=>by
  unfold ltK at h g ⊢
  by_cases e1:a=b
  ·subst e1
   rw [if_pos rfl] at h
   by_cases e2:a=c
   ·subst e2
    rw [if_pos rfl] at g ⊢
    exact v_ h g
   ·rw [if_neg e2] at g ⊢
    exact g
  ·rw [if_neg e1] at h
   by_cases e2:b=c
   ·subst e2
    rw [if_neg e1]
    exact h
   ·rw [if_neg e2] at g
    have t:=Dt h g
    have ne:a≠c:=fun e=>by subst e; rw [zT] at t; cases t
    rw [if_neg ne]
    exact t
theorem rC:∀ {a b:List Key},shOf a=shOf b->ltK a b=false->ltK b a=false->a=b
 | [],[],_,_,_=>rfl
 | [],_ :: _,e,_,_=>by simp [shOf] at e
 | _ :: _,[],e,_,_=>by simp [shOf] at e
 | a :: as,b :: bs,e,h,g=>by
  simp only [shOf,xaq,List.cons.injEq] at e
  unfold ltK at h g
  by_cases e1:a=b
  ·subst e1
   rw [if_pos rfl] at h g
   rw [rC (show shOf as=shOf bs from e.2) h g]
  ·rw [if_neg e1] at h
   rw [if_neg (Ne.symm e1)] at g
   exact absurd (BX e.1 h g) e1
theorem count_le {α:Type} (p q:α->Bool):∀ (l:List α),(∀ x∈l,p x=true->q x=true)->l.countP p<=l.countP q
 | [],_=>xah _
 | x :: l,h=>by
  have ih:=count_le p q l fun y hy=>h y (xab _ hy)
  have h1:=h x xac
  rw [xb4,xb4]
  cases hp:p x <;> cases hq:q x <;> simp_all <;> exact Nat.le_succ_of_le ‹_›
theorem sZ {α:Type} (p q:α->Bool) (a:α) (ha:p a=false) (hb:q a=true):∀ (l:List α),a∈l->(∀ x∈l,p x=true->q x=true)->l.countP p<l.countP q
 | [],m,_=>by cases m
 | x :: l,m,h=>by
  rw [xb4,xb4]
  rcases xak.mp m with rfl | m
  ·have:=count_le p q l fun y hy=>h y (xab _ hy)
   rw [ha,hb]; simp; exact Nat.lt_succ_of_le ‹_›
  ·have ih:=sZ p q a ha hb l m fun y hy=>h y (xab _ hy)
   have h1:=h x xac
   cases hp:p x <;> cases hq:q x <;> simp_all <;> exact xaZ ‹_›
def rkK (L:List (List Key)) (k:List Key):Int:=(L.countP fun j=>ltK j k:Nat)
theorem yK (e:shOf a=shOf b) (ma:a∈L):decide (rkK L a<rkK L b)=ltK a b:=by
 unfold rkK
 cases h:ltK a b with
 | true =>
  have:=sZ (fun j=>ltK j a) (fun j=>ltK j b) a (vB a) h L ma fun x _ hx=>v_ hx h
  exact decide_eq_true (by lia)
 | false =>
  apply decide_eq_false
  cases g:ltK b a with
  | false=>rw [rC e h g]; lia
  | true =>
   have:=count_le (fun j=>ltK j b) (fun j=>ltK j a) L fun x _ hx=>v_ hx g
   lia
def unV:V->Option Key
 | .int i=>some (.inl i)
 | .str x=>some (.inr x)
 | _=>none
theorem Fv (k:Key):unV (kV k)=some k:=by cases k <;> rfl
theorem yJ:∀ k:List Key,(k.map kV).filterMap unV=k
 | []=>rfl
 | a :: as=>by rw [xaq,xaP,Fv,yJ as]
def rA (H:Hp):Value->List Key
 | .ref b=>match H b with
  | some (.tup xs)=>xs.filterMap unV
  | _=>[]
 | _=>[]
theorem gf (h:H b=some (.tup (k.map kV))):rA H (.ref b)=k:=by
 simp only [rA,h]; exact yJ k
section
variable {prog:Program} {w:World} {A:Around} {E:Value->Shared->Prop} {s:Shared} {Q:Bool->Shared->Prop}
theorem Df (ru:RelV (kV a) u) (rv:RelV (kV b) v) (e:isI a=isI b) (q:Q (lt1 a b) s):wpAny (model prog w) A (oneLt' false u v) Q E s:=by
 refine PySem.W.kat_one u v ?_
 cases a with
 | inl i =>
  cases b with
  | inr x=>cases e
  | inl j =>
   obtain ⟨t,rfl⟩:=ru
   obtain ⟨t',rfl⟩:=rv
   exact lt_int q
 | inr x =>
  cases b with
  | inl j=>cases e
  | inr y =>
   obtain ⟨t,rfl⟩:=ru
   obtain ⟨t',rfl⟩:=rv
   exact PySem.P.lt_str q
theorem Dm (ru:RelV (kV a) u) (rv:RelV (kV b) v) (e:isI a=isI b) (q:Q (decide (a=b)) s):wpAny (model prog w) A (eqBool u v) Q E s:=by
 cases a with
 | inl i =>
  cases b with
  | inr x=>cases e
  | inl j =>
   obtain ⟨t,rfl⟩:=ru
   obtain ⟨t',rfl⟩:=rv
   refine wpAny_eqBool_int ?_
   rw [<- key_ll]; exact q
 | inr x =>
  cases b with
  | inl j=>cases e
  | inr y =>
   obtain ⟨t,rfl⟩:=ru
   obtain ⟨t',rfl⟩:=rv
   refine wpAny_eqBool_str ?_
   rw [<- key_rr]; exact q
theorem xj (k m:List Key) (us vs:List Value) (i:Nat) (ha:Vals (k.map kV) us) (hb:Vals (m.map kV) vs) (e:shOf k=shOf m) (hf:fin=false) (q:Q (ltK k m) s) :
  PySem.W.KatLex prog w A true fin Q (us.zip vs) i s:=by
 induction k generalizing m us vs i with
 | nil =>
  cases m with
  | cons b m=>simp [shOf] at e
  | nil =>
   rw [Paired.n0 ha,Paired.n0 hb]
   subst hf
   exact PySem.W.kat_nil q
 | cons a k ih =>
  cases m with
  | nil=>simp [shOf] at e
  | cons b m =>
   obtain ⟨u,us,rfl,ra,rk⟩:=Paired.c ha
   obtain ⟨v,vs,rfl,rb,rm⟩:=Paired.c hb
   simp only [shOf,xaq,List.cons.injEq] at e
   rw [xbj]
   refine PySem.W.kat_cons (Dm ra rb e.1 (PySem.W.kat_go (fun h=>PySem.W.kat_yes ?_) (fun h=>PySem.W.kat_no ?_)))
   ·have h:=of_decide_eq_true h
    subst h
    unfold ltK at q
    rw [if_pos rfl] at q
    exact ih m _ _ (i+1) rk rm e.2 q
   ·have h:=of_decide_eq_false h
    unfold ltK at q
    rw [if_neg h] at q
    by_cases h0:i=0
    ·subst h0
     cases a with
     | inr x =>
      cases b with
      | inl j=>cases e.1
      | inr y =>
       obtain ⟨t,rfl⟩:=ra
       obtain ⟨t',rfl⟩:=rb
       exact oneLt_str q
     | inl i =>
      cases b with
      | inr x=>cases e.1
      | inl j =>
       obtain ⟨t,rfl⟩:=ra
       obtain ⟨t',rfl⟩:=rb
       exact oneLt_int q
    ·rw [show (true && i == 0)=false by simp [h0]]
     exact Df ra rb e.1 q
end
section
variable {X:Cx} {pins:List (Addr × Obj)} {σ:St} {H:Hp} {s:Shared}
theorem Inv.tup (I:Inv X pins σ H s) (h:H b=some (.tup xs)):∃ its:List Value,Vals xs its/\IsTup s.heap b its.toArray:=(I.hok b _ h).2
theorem xY (I:Inv X pins σ H s) (kp:∀ b o,s.heap.get? b=some o->s'.heap.get? b=some o) :
  Tim.Cmp X.prog X.w A s' (tuples' true) (fun v=>rkK L (rA H v)) (fun v=>∃ b k,v=.ref b/\H b=some (.tup (k.map kV))/\shOf k=b0 :: sh/\k∈L):=by
 rintro x y ⟨b,k,rfl,hb,hk,mk⟩ ⟨c,m,rfl,hc,hm,mm⟩ Q E q
 obtain ⟨us,ru,o,e1,c1,n1,d1⟩:=I.tup hb
 obtain ⟨vs,rv,o',e2,c2,n2,d2⟩:=I.tup hc
 have sh':shOf k=shOf m:=hk.trans hm.symm
 simp only [gf hb,gf hc] at q
 rw [yK sh' mk] at q
 refine PySem.W.kat_lt (kp _ _ e1) d1 (kp _ _ e2) d2 (xj k m us vs 0 ru rv sh' ?_ q)
 ·have h1:=ru.length
  have h2:=rv.length
  have h3:k.length=m.length:=by
   have:=congrArg List.length sh'
   simpa [shOf] using this
  simp only [xad] at h1 h2
  exact decide_eq_false (by simp only [xav]; lia)
theorem kat_tups (I:Inv X pins σ H s) {s':Shared} (kp:∀ b o,s.heap.get? b=some o->s'.heap.get? b=some o) {b0:Bool} {sh:List Bool} {ys:List V} {ks:List (List Key)} {vs:List Value} (ht:cT H ys ks) (hv:Vals ys vs) (hs:∀ k∈ks,shOf k=b0 :: sh) :
  ∃ fs:List Value,PySem.W.KatTups s'.heap vs fs/\fs.length=vs.length/\∀ f∈fs,(b0=true->∃ i t,f=Value.int i t)/\(b0=false->∃ x t,f=Value.str x t):=by
 induction ys generalizing ks vs with
 | nil =>
  rw [Paired.n0 hv]
  exact ⟨[],.nil,rfl,by simp⟩
 | cons y ys ih =>
  obtain ⟨k,ks,rfl,⟨b,rfl,hb⟩,t⟩:=Paired.c ht
  obtain ⟨v,vs,rfl,rfl,rs⟩:=Paired.c hv
  obtain ⟨fs,f1,f2,f3⟩:=ih t rs fun j hj=>hs j (xab _ hj)
  have hk:=hs k xac
  obtain ⟨us,ru,o,e1,c1,n1,d1⟩:=I.tup hb
  cases k with
  | nil=>simp [shOf] at hk
  | cons a k =>
   obtain ⟨u,us,rfl,ra,rr⟩:=Paired.c ru
   simp only [shOf,xaq,List.cons.injEq] at hk
   refine ⟨u :: fs,.cons (kp _ _ e1) c1 d1 rfl f1,by simp [f2],fun f hf=>?_⟩
   rcases xak.mp hf with rfl | hf
   ·cases a with
    | inr x =>
     obtain ⟨tk,rfl⟩:=ra
     exact ⟨(fun z=>by rw [<- hk.1] at z; cases z),fun _=>⟨_,_,rfl⟩⟩
    | inl i =>
     obtain ⟨tk,rfl⟩:=ra
     exact ⟨fun _=>⟨_,_,rfl⟩,fun z=>by rw [<- hk.1] at z; cases z⟩
   ·exact f3 f hf
end
def tL (K:PySem.W.Frag):List V->Hp->VK->Prop:=fun xs H Q=>match xs with
 | [.ref p]=>∃ ys ks sh,SqL K H p ys/\cT H ys ks/\(∀ k∈ks,shOf k=true :: sh) /\
   ∀ zs ms l,cT H zs ms->ms.Perm ks->(ms.Pairwise fun a b=>ltK b a=false)->H l=none->Q (.ref l) (upd H l (.lst zs))
 | _=>False
theorem cT.mem (h:cT H ys ks) (y:V) (hy:y∈ys):∃ b k,y=.ref b/\H b=some (.tup (k.map kV))/\k∈ks:=by
 induction ys generalizing ks with
 | nil=>cases hy
 | cons z ys ih =>
  obtain ⟨k,ks,rfl,⟨b,rfl,g⟩,t⟩:=Paired.c h
  rcases xak.mp hy with rfl | hy
  ·exact ⟨b,_,rfl,g,xac⟩
  ·obtain ⟨b,k,e,g,m⟩:=ih t hy
   exact ⟨b,k,e,g,xab _ m⟩
theorem cT.keys (h:cT H ys ks) (hv:Vals ys vs):vs.map (rA H)=ks/\∀ v∈vs,∃ b k,v=.ref b/\H b=some (.tup (k.map kV))/\k∈ks:=by
 induction ys generalizing ks vs with
 | nil=>rw [Paired.n0 hv,show ks=[] from Paired.n0 h]; exact ⟨rfl,by simp⟩
 | cons y ys ih =>
  obtain ⟨k,ks,rfl,⟨b,rfl,g⟩,t⟩:=Paired.c h
  obtain ⟨v,vs,rfl,rfl,rs⟩:=Paired.c hv
  obtain ⟨e,m⟩:=ih t rs
  refine ⟨by rw [xaq,gf g,e],fun v hv=>?_⟩
  rcases xak.mp hv with rfl | hv
  ·exact ⟨b,k,rfl,g,xac⟩
  ·obtain ⟨b',k',e1,e2,e3⟩:=m v hv
   exact ⟨b',k',e1,e2,xab _ e3⟩
theorem cT.of {H:Hp} {ks:List (List Key)} (vs:List Value) (h:∀ v∈vs,∃ b k,v=Value.ref b/\H b=some (.tup (k.map kV))/\k∈ks):∃ zs,cT H zs (vs.map (rA H))/\Vals zs vs:=by
 induction vs with
 | nil=>exact ⟨[],.nil,.nil⟩
 | cons v vs ih =>
  obtain ⟨zs,a,c⟩:=ih fun u hu=>h u (xab _ hu)
  obtain ⟨b,k,rfl,e,_⟩:=h v xac
  exact ⟨.ref b :: zs,.cons ⟨b,rfl,by rw [gf e]; exact e⟩ a,.cons rfl c⟩
section
variable {X:Cx}
theorem ud:CallR X (.builtin "sorted") (tL X.K):=by
 intro pins s σ H xs us Q I r h
 unfold tL at h
 split at h
 ·rename_i p
  obtain ⟨ys,ks,sh,hl,ht,hs,q⟩:=h
  obtain ⟨u,rfl,ru⟩:=Vals.one r
  cases ru
  obtain ⟨vs,rv,pl,hz⟩:=I.list hl
  obtain ⟨ek,mem⟩:=ht.keys rv
  have hlen:=rv.length
  refine Tim.vH (κ:=tuples' true) (r:=fun v=>rkK ks (rA H v)) (P:=fun v=>∃ b k,v=.ref b/\H b=some (.tup (k.map kV))/\shOf k=true :: sh/\k∈ks) pl.isList (by lia) (fun v hv=>?_) (fun h2 A' E' s' kp Q' q'=>?_) (fun h2 s' kp=>xY I kp) fun h' out n pm pw kp eo=>?_
  ·obtain ⟨b,k,e1,e2,e3⟩:=mem v hv
   exact ⟨b,k,e1,e2,hs k e3,e3⟩
  ·obtain ⟨fs,f1,f2,f3⟩:=kat_tups I kp ht rv hs
   refine PySem.W.kat_kind (T:=.type "int") f1 (by lia) (fun f hf=>?_) (by decide) q'
   obtain ⟨i,t,rfl⟩:=(f3 f hf).1 rfl
   exact .now
  ·obtain ⟨zs,z1,z2⟩:=cT.of (H:=H) (ks:=ks) out fun v hv=>mem v (pm.mem_iff.mp hv)
   have zl:=z2.length
   have ol:=pm.length_eq
   have pms:(out.map (rA H)).Perm ks:=by rw [<- ek]; exact pm.map _
   refine ⟨.ref (s.heap.objs.size+1),_,I.laid (a:=s.heap.objs.size+1) (t':=s.toks) kp (Nat.le_succ _) (show ObjOk X.prog X.w _ h' _ (.lst zs) from ⟨by lia,out,n,z2,eo⟩),rfl,
    q zs _ _ z1 pms ?_ (I.hok.fresh (Nat.le_succ _))⟩
   rw [xaR]
   refine pw.imp_of_mem fun {x y} mx my hle=>?_
   obtain ⟨b,k,rfl,hb,kk⟩:=mem x (pm.mem_iff.mp mx)
   obtain ⟨c,m,rfl,hc,km⟩:=mem y (pm.mem_iff.mp my)
   rw [gf hb,gf hc] at *
   have:=yK (L:=ks) ((hs m km).trans (hs k kk).symm) km
   rw [<- this]
   exact decide_eq_false (by lia)
 ·exact h.elim
end
end L2
namespace Tim
open PySem PyProof.Rows
end Tim
namespace L2
open PySem PySem.Spec PyProof.Rows
end L2
namespace L2.Q
open PySem PySem.Spec PyProof.Rows
inductive D where
 | non | bl (b:Bool) | int (i:Int) | str (x:Str)
 | list (xs:List D) | tup (xs:List D) | dK (kvs:List (Key × D)) | dT (kvs:List (List Key × D))
mutual
/-- nothing in it can be changed -/
def D.flat:D->Bool
 | .list _=>false
 | .dK _=>false
 | .dT _=>false
 | .tup xs=>flats xs
 | _=>true
def flats:List D->Bool
 | []=>true
 | x :: xs=>x.flat && flats xs
end
theorem jR:∀ {xs:List D},flats xs=true↔∀ x∈xs,x.flat=true
 | []=>by simp [flats]
 | x :: xs=>by simp [flats,jR (xs:=xs)]
theorem iT:flats (xs++ys)=(flats xs && flats ys):=by
 induction xs with
 | nil=>simp [flats]
 | cons x xs ih=>simp [flats,ih,Bool.and_assoc]
def kOk:Key->Bool
 | .inl _=>true
 | .inr x=>decide (x.length<=sizeLine)
def KsOk (kvs:List (Key × D)):Prop:=kvs.length<=sizeLine/\∀ p∈kvs,kOk p.1=true
def KtOk (kvs:List (List Key × D)):Prop:=kvs.length<=sizeLine/\∀ p∈kvs,p.1.length<=sizeLine/\∀ k∈p.1,kOk k=true
mutual
inductive Rep (K:PySem.W.Frag) (H:Hp):D->V->Prop
 | non:Rep K H .non .non
 | bl (b:Bool):Rep K H (.bl b) (.bl b)
 | int (i:Int):Rep K H (.int i) (.int i)
 | str {x:Str}:x.length<=sizeLine->Rep K H (.str x) (.str x)
 | list {a:Addr} {vs:List V} {ds:List D}:vs.length<=sizeLine->SqL K H a vs->Reps K H ds vs->Rep K H (.list ds) (.ref a)
 | tup {a:Addr} {vs:List V} {ds:List D}:vs.length<=sizeLine->H a=some (.tup vs)->Reps K H ds vs->Rep K H (.tup ds) (.ref a)
 | dK {a:Addr} {vs:List V} {kvs:List (Key × D)}:KsOk kvs->Rd H a (.dK ((kvs.map (·.1)).zip vs))->Reps K H (kvs.map (·.2)) vs->Rep K H (.dK kvs) (.ref a)
 | dT {a:Addr} {vs:List V} {kvs:List (List Key × D)}:KtOk kvs->Rd H a (.dT ((kvs.map (·.1)).zip vs))->Reps K H (kvs.map (·.2)) vs->Rep K H (.dT kvs) (.ref a)
inductive Reps (K:PySem.W.Frag) (H:Hp):List D->List V->Prop
 | nil:Reps K H [] []
 | cons {d:D} {v:V} {ds:List D} {vs:List V}:Rep K H d v->Reps K H ds vs->Reps K H (d :: ds) (v :: vs)
end
theorem Rep.ind {K:PySem.W.Frag} {H:Hp} {m1:D->V->Prop} {m2:List D->List V->Prop} (h0:m1 .non .non) (hb:∀ b,m1 (.bl b) (.bl b)) (hi:∀ i,m1 (.int i) (.int i)) (hs:∀ x,x.length<=sizeLine->m1 (.str x) (.str x))
  (hl:∀ a vs ds,vs.length<=sizeLine->SqL K H a vs->Reps K H ds vs->m2 ds vs->m1 (.list ds) (.ref a)) (ht:∀ a vs ds,vs.length<=sizeLine->H a=some (.tup vs)->Reps K H ds vs->m2 ds vs->m1 (.tup ds) (.ref a))
  (hk:∀ a vs kvs,KsOk kvs->Rd H a (.dK ((kvs.map (·.1)).zip vs))->Reps K H (kvs.map (·.2)) vs->m2 (kvs.map (·.2)) vs->m1 (.dK kvs) (.ref a)) (hT:∀ a vs kvs,KtOk kvs->Rd H a (.dT ((kvs.map (·.1)).zip vs))->Reps K H (kvs.map (·.2)) vs->m2 (kvs.map (·.2)) vs->m1 (.dT kvs) (.ref a))
  (hn:m2 [] []) (hc:∀ d v ds vs,Rep K H d v->Reps K H ds vs->m1 d v->m2 ds vs->m2 (d :: ds) (v :: vs)):(∀ {d v},Rep K H d v->m1 d v)/\∀ {ds vs},Reps K H ds vs->m2 ds vs :=
 ⟨fun r=>Rep.rec (motive_1:=fun d v _=>m1 d v) (motive_2:=fun ds vs _=>m2 ds vs) h0 hb hi (fun h=>hs _ h) (fun z s r ih=>hl _ _ _ z s r ih) (fun z s r ih=>ht _ _ _ z s r ih) (fun z s r ih=>hk _ _ _ z s r ih) (fun z s r ih=>hT _ _ _ z s r ih) hn (fun r s a b=>hc _ _ _ _ r s a b) r,
  fun r=>Reps.rec (motive_1:=fun d v _=>m1 d v) (motive_2:=fun ds vs _=>m2 ds vs) h0 hb hi (fun h=>hs _ h) (fun z s r ih=>hl _ _ _ z s r ih) (fun z s r ih=>ht _ _ _ z s r ih) (fun z s r ih=>hk _ _ _ z s r ih) (fun z s r ih=>hT _ _ _ z s r ih) hn (fun r s a b=>hc _ _ _ _ r s a b) r⟩
theorem DGet.k' (e:Rd H a (.dK kvs)):DGet H a (kV k) (valV kvs k):=.inl ⟨kvs,k,e,rfl,rfl⟩
theorem DGet.t' (e:Rd H a (.dT kvs)) (eb:H b=some (.tup (k.map kV))):DGet H a (.ref b) (valV kvs k):=.inr ⟨kvs,k,b,e,rfl,eb,rfl⟩
theorem Same.rd (s:Same H H') (h:Rd H a u):Rd H' a u:=h.imp (s _ _) fun ⟨o,e⟩=>⟨o,s _ _ e⟩
theorem Rep.Eb {K:PySem.W.Frag} (s:Same H H'):(∀ {d:D} {v:V},Rep K H d v->Rep K H' d v)/\∀ {ds:List D} {vs:List V},Reps K H ds vs->Reps K H' ds vs :=
 Rep.ind .non .bl .int (fun _ h=>.str h) (fun _ _ _ z h _ ih=>.list z (s.lst h) ih) (fun _ _ _ z h _ ih=>.tup z (s _ _ h) ih) (fun _ _ _ kk h _ ih=>.dK kk (Same.rd s h) ih) (fun _ _ _ kk h _ ih=>.dT kk (Same.rd s h) ih) .nil fun _ _ _ _ _ _ a b=>.cons a b
theorem Rep.same {K:PySem.W.Frag} (s:Same H H') (r:Rep K H d v):Rep K H' d v:=(Rep.Eb s).1 r
theorem Reps.same {K:PySem.W.Frag} (s:Same H H') (r:Reps K H ds vs):Reps K H' ds vs:=(Rep.Eb s).2 r
theorem Reps.ind {K:PySem.W.Frag} {H:Hp} {m:List D->List V->Prop} (hn:m [] []) (hc:∀ d v ds vs,Rep K H d v->Reps K H ds vs->m ds vs->m (d :: ds) (v :: vs)):∀ {ds vs},Reps K H ds vs->m ds vs :=
 fun r=>(Rep.ind (m1:=fun _ _=>True) (m2:=m) trivial (fun _=>trivial) (fun _=>trivial) (fun _ _=>trivial) (fun _ _ _ _ _ _ _=>trivial) (fun _ _ _ _ _ _ _=>trivial) (fun _ _ _ _ _ _ _=>trivial) (fun _ _ _ _ _ _ _=>trivial) hn fun d v ds vs r s _ b=>hc d v ds vs r s b).2 r
theorem Reps.length {K:PySem.W.Frag} (r:Reps K H ds vs):ds.length=vs.length :=
 Reps.ind (m:=fun ds vs=>ds.length=vs.length) rfl (fun _ _ _ _ _ _ ih=>by rw [xaK,xaK,ih]) r
theorem Reps.append {K:PySem.W.Frag} (r:Reps K H ds vs) (t:Reps K H es ws):Reps K H (ds++es) (vs++ws) :=
 Reps.ind (m:=fun ds vs=>Reps K H (ds++es) (vs++ws)) t (fun _ _ _ _ h _ ih=>.cons h ih) r
theorem Reps.get {K:PySem.W.Frag} {H:Hp} {ds:List D} {vs:List V} {i:Nat} {d:D} (r:Reps K H ds vs) (e:ds[i]? = some d):∃ v,vs[i]? = some v/\Rep K H d v :=
 Reps.ind (m:=fun ds vs=>∀ i d,ds[i]? = some d->∃ v,vs[i]? = some v/\Rep K H d v) (fun i d e=>by simp at e) (fun _ _ _ _ h _ ih i d e=>by
  cases i with
  | zero=>simp at e; subst e; exact ⟨_,rfl,h⟩
  | succ i =>
   obtain ⟨v,e1,r⟩:=ih i d (by simpa using e)
   exact ⟨v,by simpa using e1,r⟩) r i d e
theorem Reps.getV {K:PySem.W.Frag} {H:Hp} {ds:List D} {vs:List V} {i:Nat} {v:V} (r:Reps K H ds vs) (e:vs[i]? = some v):∃ d,ds[i]? = some d/\Rep K H d v :=
 Reps.ind (m:=fun ds vs=>∀ i v,vs[i]? = some v->∃ d,ds[i]? = some d/\Rep K H d v) (fun i d e=>by simp at e) (fun _ _ _ _ h _ ih i d e=>by
  cases i with
  | zero=>simp at e; subst e; exact ⟨_,rfl,h⟩
  | succ i =>
   obtain ⟨v,e1,r⟩:=ih i d (by simpa using e)
   exact ⟨v,by simpa using e1,r⟩) r i v e
theorem Reps.drop {K:PySem.W.Frag} (n:Nat) (r:Reps K H ds vs):Reps K H (ds.drop n) (vs.drop n) :=
 Reps.ind (m:=fun ds vs=>∀ n,Reps K H (ds.drop n) (vs.drop n)) (fun n=>by rw [List.drop_nil,List.drop_nil]; exact .nil) (fun _ _ _ _ h hs ih n=>by
  cases n with
  | zero=>exact .cons h hs
  | succ n=>exact ih n) r n
theorem Reps.n0 {K:PySem.W.Frag} (h:Reps K H [] vs):vs=[]:=by cases h; rfl
theorem Reps.c {K:PySem.W.Frag} (h:Reps K H (d :: ds) vs):∃ u us,vs=u :: us/\Rep K H d u/\Reps K H ds us:=by
 cases h with
 | cons r rs=>exact ⟨_,_,rfl,r,rs⟩
theorem Reps.take {K:PySem.W.Frag} (n:Nat) (r:Reps K H ds vs):Reps K H (ds.take n) (vs.take n) :=
 Reps.ind (m:=fun ds vs=>∀ n,Reps K H (ds.take n) (vs.take n)) (fun n=>by rw [List.take_nil,List.take_nil]; exact .nil) (fun _ _ _ _ h hs ih n=>by
  cases n with
  | zero=>exact .nil
  | succ n=>exact .cons h (ih n)) r n
mutual
/-- what is owned: a tree whose lists and dicts stand at As,nobody else's; its leaves shared (fl: and flat) -/
inductive RepO (K:PySem.W.Frag) (Hs H:Hp) (fl:Bool):D->V->List Addr->Prop
 | sh {d:D} {v:V}:(fl=true->d.flat=true)->Rep K Hs d v->RepO K Hs H fl d v []
 | list {a:Addr} {vs:List V} {ds:List D} {As:List Addr}:vs.length<=sizeLine->H a=some (.lst vs)->az K Hs H fl ds vs As->RepO K Hs H fl (.list ds) (.ref a) (a :: As)
 | tup {a:Addr} {vs:List V} {ds:List D} {As:List Addr}:vs.length<=sizeLine->Hs a=some (.tup vs)->flats ds=false->az K Hs H fl ds vs As->RepO K Hs H fl (.tup ds) (.ref a) As
 | dK {a:Addr} {vs:List V} {kvs:List (Key × D)} {As:List Addr}:KsOk kvs->H a=some (.dK ((kvs.map (·.1)).zip vs))->az K Hs H fl (kvs.map (·.2)) vs As->RepO K Hs H fl (.dK kvs) (.ref a) (a :: As)
 | dT {a:Addr} {vs:List V} {kvs:List (List Key × D)} {As:List Addr}:KtOk kvs->H a=some (.dT ((kvs.map (·.1)).zip vs))->az K Hs H fl (kvs.map (·.2)) vs As->RepO K Hs H fl (.dT kvs) (.ref a) (a :: As)
inductive az (K:PySem.W.Frag) (Hs H:Hp) (fl:Bool):List D->List V->List Addr->Prop
 | nil:az K Hs H fl [] [] []
 | cons {d:D} {v:V} {ds:List D} {vs:List V} {As Bs:List Addr}:RepO K Hs H fl d v As->az K Hs H fl ds vs Bs->az K Hs H fl (d :: ds) (v :: vs) (As++Bs)
end
def Own (H:Hp) (a:Addr):Prop:=(∃ vs,H a=some (.lst vs))\/(∃ kvs,H a=some (.dK kvs))\/∃ kvs,H a=some (.dT kvs)
section
variable {K:PySem.W.Frag} {Hs Hs' H H':Hp} {fl:Bool}
theorem Own.ne (h:Own H a):H a≠none:=by
 rcases h with ⟨_,e⟩ | ⟨_,e⟩ | ⟨_,e⟩ <;> rw [e] <;> exact fun z=>nomatch z
theorem Own.yP (h:Own H a):H a≠some (.tup vs):=by
 rcases h with ⟨_,e⟩ | ⟨_,e⟩ | ⟨_,e⟩ <;> rw [e] <;> exact fun z=>nomatch z
theorem RepO.ind {m1:D->V->List Addr->Prop} {m2:List D->List V->List Addr->Prop} (hs:∀ d v,(fl=true->d.flat=true)->Rep K Hs d v->m1 d v [])
  (hl:∀ a vs ds As,vs.length<=sizeLine->H a=some (.lst vs)->az K Hs H fl ds vs As->m2 ds vs As->m1 (.list ds) (.ref a) (a :: As)) (ht:∀ a vs ds As,vs.length<=sizeLine->Hs a=some (.tup vs)->flats ds=false->az K Hs H fl ds vs As->m2 ds vs As->m1 (.tup ds) (.ref a) As)
  (hk:∀ a vs kvs As,KsOk kvs->H a=some (.dK ((kvs.map (·.1)).zip vs))->az K Hs H fl (kvs.map (·.2)) vs As->m2 (kvs.map (·.2)) vs As->m1 (.dK kvs) (.ref a) (a :: As)) (hT:∀ a vs kvs As,KtOk kvs->H a=some (.dT ((kvs.map (·.1)).zip vs))->az K Hs H fl (kvs.map (·.2)) vs As->m2 (kvs.map (·.2)) vs As->m1 (.dT kvs) (.ref a) (a :: As))
  (hn:m2 [] [] []) (hc:∀ d v ds vs As Bs,RepO K Hs H fl d v As->az K Hs H fl ds vs Bs->m1 d v As->m2 ds vs Bs->m2 (d :: ds) (v :: vs) (As++Bs)):(∀ {d v As},RepO K Hs H fl d v As->m1 d v As)/\∀ {ds vs As},az K Hs H fl ds vs As->m2 ds vs As :=
 ⟨fun r=>RepO.rec (motive_1:=fun d v As _=>m1 d v As) (motive_2:=fun ds vs As _=>m2 ds vs As) (fun f r=>hs _ _ f r) (fun z s r ih=>hl _ _ _ _ z s r ih) (fun z s n r ih=>ht _ _ _ _ z s n r ih) (fun z s r ih=>hk _ _ _ _ z s r ih) (fun z s r ih=>hT _ _ _ _ z s r ih) hn (fun r s a b=>hc _ _ _ _ _ _ r s a b) r,
  fun r=>az.rec (motive_1:=fun d v As _=>m1 d v As) (motive_2:=fun ds vs As _=>m2 ds vs As) (fun f r=>hs _ _ f r) (fun z s r ih=>hl _ _ _ _ z s r ih) (fun z s n r ih=>ht _ _ _ _ z s n r ih) (fun z s r ih=>hk _ _ _ _ z s r ih) (fun z s r ih=>hT _ _ _ _ z s r ih) hn (fun r s a b=>hc _ _ _ _ _ _ r s a b) r⟩
theorem mem0 {a:Addr} {p:Prop} (h:a∈([]:List Addr)):p:=absurd h xbf
theorem RepO.own2:(∀ {d:D} {v:V} {As:List Addr},RepO K Hs H fl d v As->∀ a∈As,Own H a)/\∀ {ds:List D} {vs:List V} {As:List Addr},az K Hs H fl ds vs As->∀ a∈As,Own H a :=
 RepO.ind (m1:=fun _ _ As=>∀ a∈As,Own H a) (m2:=fun _ _ As=>∀ a∈As,Own H a) (fun _ _ _ _ a h=>mem0 h) (fun _ _ _ _ _ e _ ih a h=>(xak.mp h).elim (fun z=>z ▸ .inl ⟨_,e⟩) (ih a)) (fun _ _ _ _ _ _ _ _ ih=>ih)
  (fun _ _ _ _ _ e _ ih a h=>(xak.mp h).elim (fun z=>z ▸ .inr (.inl ⟨_,e⟩)) (ih a)) (fun _ _ _ _ _ e _ ih a h=>(xak.mp h).elim (fun z=>z ▸ .inr (.inr ⟨_,e⟩)) (ih a)) (fun a h=>mem0 h) fun _ _ _ _ _ _ _ _ i1 i2 a h=>(xaf.mp h).elim (i1 a) (i2 a)
theorem RepO.own (r:RepO K Hs H fl d v As):∀ a∈As,Own H a:=RepO.own2.1 r
theorem az.own (r:az K Hs H fl ds vs As):∀ a∈As,Own H a:=RepO.own2.2 r
theorem RepO.Dj (s:Same Hs Hs'):(∀ {d:D} {v:V} {As:List Addr},RepO K Hs H fl d v As->(∀ a∈As,H' a=H a)->RepO K Hs' H' fl d v As)/\∀ {ds:List D} {vs:List V} {As:List Addr},az K Hs H fl ds vs As->(∀ a∈As,H' a=H a)->az K Hs' H' fl ds vs As :=
 RepO.ind (m1:=fun d v As=>(∀ a∈As,H' a=H a)->RepO K Hs' H' fl d v As) (m2:=fun ds vs As=>(∀ a∈As,H' a=H a)->az K Hs' H' fl ds vs As) (fun _ _ f r _=>.sh f (r.same s))
  (fun _ _ _ _ z e _ ih k=>.list z ((k _ xac).trans e) (ih fun a h=>k a (xab _ h))) (fun _ _ _ _ z e n _ ih k=>.tup z (s _ _ e) n (ih k)) (fun _ _ _ _ z e _ ih k=>.dK z ((k _ xac).trans e) (ih fun a h=>k a (xab _ h)))
  (fun _ _ _ _ z e _ ih k=>.dT z ((k _ xac).trans e) (ih fun a h=>k a (xab _ h))) (fun _=>.nil) fun _ _ _ _ _ _ _ _ i1 i2 k=>.cons (i1 fun a h=>k a (xap _ h)) (i2 fun a h=>k a (xag _ h))
theorem RepO.stay (s:Same Hs Hs') (r:RepO K Hs H fl d v As) (k:∀ a∈As,H' a=H a):RepO K Hs' H' fl d v As:=(RepO.Dj s).1 r k
theorem az.stay (s:Same Hs Hs') (r:az K Hs H fl ds vs As) (k:∀ a∈As,H' a=H a):az K Hs' H' fl ds vs As:=(RepO.Dj s).2 r k
theorem RepO.grow (s:Same Hs Hs') (t:Same H H') (r:RepO K Hs H fl d v As):RepO K Hs' H' fl d v As :=
 r.stay s fun a h=>by
  cases e:H a with
  | none=>exact absurd e (r.own a h).ne
  | some o=>exact t a o e
theorem az.grow (s:Same Hs Hs') (t:Same H H') (r:az K Hs H fl ds vs As):az K Hs' H' fl ds vs As :=
 r.stay s fun a h=>by
  cases e:H a with
  | none=>exact absurd e (r.own a h).ne
  | some o=>exact t a o e
theorem RepO.rep2 {G:Hp} (s:Same Hs G):(∀ {d:D} {v:V} {As:List Addr},RepO K Hs H fl d v As->(∀ a∈As,G a=H a)->Rep K G d v)/\∀ {ds:List D} {vs:List V} {As:List Addr},az K Hs H fl ds vs As->(∀ a∈As,G a=H a)->Reps K G ds vs :=
 RepO.ind (m1:=fun d v As=>(∀ a∈As,G a=H a)->Rep K G d v) (m2:=fun ds vs As=>(∀ a∈As,G a=H a)->Reps K G ds vs) (fun _ _ _ r _=>r.same s)
  (fun _ _ _ _ z e _ ih k=>.list z (.inl (.inl ((k _ xac).trans e))) (ih fun a h=>k a (xab _ h))) (fun _ _ _ _ z e n _ ih k=>.tup z (s _ _ e) (ih k)) (fun _ _ _ _ z e _ ih k=>.dK z (.inl ((k _ xac).trans e)) (ih fun a h=>k a (xab _ h)))
  (fun _ _ _ _ z e _ ih k=>.dT z (.inl ((k _ xac).trans e)) (ih fun a h=>k a (xab _ h))) (fun _=>.nil) fun _ _ _ _ _ _ _ _ i1 i2 k=>.cons (i1 fun a h=>k a (xap _ h)) (i2 fun a h=>k a (xag _ h))
theorem RepO.rep (s:Same Hs G) (r:RepO K Hs H fl d v As) (k:∀ a∈As,G a=H a):Rep K G d v:=(RepO.rep2 s).1 r k
theorem az.reps (s:Same Hs G) (r:az K Hs H fl ds vs As) (k:∀ a∈As,G a=H a):Reps K G ds vs:=(RepO.rep2 s).2 r k
theorem Rep.uO (t:∀ a vs,H a=some (.tup vs)->G a=some (.tup vs)):(∀ {d:D} {v:V},Rep K H d v->d.flat=true->Rep K G d v)/\∀ {ds:List D} {vs:List V},Reps K H ds vs->flats ds=true->Reps K G ds vs :=
 Rep.ind (m1:=fun d v=>d.flat=true->Rep K G d v) (m2:=fun ds vs=>flats ds=true->Reps K G ds vs) (fun _=>.non) (fun b _=>.bl b) (fun i _=>.int i) (fun _ h _=>.str h) (fun _ _ _ _ _ _ _ f=>by simp [D.flat] at f) (fun _ _ _ z e _ ih f=>.tup z (t _ _ e) (ih (by simpa [D.flat] using f)))
  (fun _ _ _ _ _ _ _ f=>by simp [D.flat] at f) (fun _ _ _ _ _ _ _ f=>by simp [D.flat] at f) (fun _=>.nil) fun _ _ _ _ _ _ i1 i2 f=>by
   simp only [flats,xay] at f
   exact .cons (i1 f.1) (i2 f.2)
theorem Rep.iW (t:∀ a vs,H a=some (.tup vs)->G a=some (.tup vs)) (r:Rep K H d v) (f:d.flat=true):Rep K G d v:=(Rep.uO t).1 r f
theorem Reps.iW (t:∀ a vs,H a=some (.tup vs)->G a=some (.tup vs)) (r:Reps K H ds vs) (f:flats ds=true):Reps K G ds vs:=(Rep.uO t).2 r f
theorem Reps.owned (r:Reps K Hs ds vs) (f:flats ds=true):az K Hs H fl ds vs [] :=
 Reps.ind (m:=fun ds vs=>flats ds=true->az K Hs H fl ds vs []) (fun _=>.nil) (fun _ _ _ _ h _ ih f=>by
  simp only [flats,xay] at f
  exact .cons (As:=[]) (.sh (fun _=>f.1) h) (ih f.2)) r f
theorem Reps.Dn (r:Reps K Hs ds vs):az K Hs H false ds vs [] :=
 Reps.ind (m:=fun ds vs=>az K Hs H false ds vs []) .nil (fun _ _ _ _ h _ ih=>.cons (As:=[]) (.sh (fun z=>Bool.noConfusion z) h) ih) r
theorem RepO.fls2:(∀ {d:D} {v:V} {As:List Addr},RepO K Hs H fl d v As->RepO K Hs H false d v As)/\∀ {ds:List D} {vs:List V} {As:List Addr},az K Hs H fl ds vs As->az K Hs H false ds vs As :=
 RepO.ind (fun _ _ _ r=>.sh (fun z=>Bool.noConfusion z) r) (fun _ _ _ _ z e _ ih=>.list z e ih) (fun _ _ _ _ z e n _ ih=>.tup z e n ih) (fun _ _ _ _ z e _ ih=>.dK z e ih) (fun _ _ _ _ z e _ ih=>.dT z e ih) .nil fun _ _ _ _ _ _ _ _ a b=>.cons a b
theorem RepO.fls (r:RepO K Hs H fl d v As):RepO K Hs H false d v As:=RepO.fls2.1 r
theorem az.fls (r:az K Hs H fl ds vs As):az K Hs H false ds vs As:=RepO.fls2.2 r
theorem RepO.By (t:∀ a vs,Hs a=some (.tup vs)->G a=some (.tup vs)):(∀ {d:D} {v:V} {As:List Addr},RepO K Hs H true d v As->RepO K G H true d v As)/\∀ {ds:List D} {vs:List V} {As:List Addr},az K Hs H true ds vs As->az K G H true ds vs As :=
 RepO.ind (fun _ _ f r=>.sh f (r.iW t (f rfl))) (fun _ _ _ _ z e _ ih=>.list z e ih) (fun _ _ _ _ z e n _ ih=>.tup z (t _ _ e) n ih) (fun _ _ _ _ z e _ ih=>.dK z e ih) (fun _ _ _ _ z e _ ih=>.dT z e ih) .nil fun _ _ _ _ _ _ _ _ a b=>.cons a b
theorem RepO.leaves (t:∀ a vs,Hs a=some (.tup vs)->G a=some (.tup vs)) (r:RepO K Hs H true d v As):RepO K G H true d v As:=(RepO.By t).1 r
theorem az.ind {m:List D->List V->List Addr->Prop} (hn:m [] [] []) (hc:∀ d v ds vs As Bs,RepO K Hs H fl d v As->az K Hs H fl ds vs Bs->m ds vs Bs->m (d :: ds) (v :: vs) (As++Bs)):∀ {ds vs As},az K Hs H fl ds vs As->m ds vs As :=
 fun r=>(RepO.ind (m1:=fun _ _ _=>True) (m2:=m) (fun _ _ _ _=>trivial) (fun _ _ _ _ _ _ _ _=>trivial) (fun _ _ _ _ _ _ _ _ _=>trivial) (fun _ _ _ _ _ _ _ _=>trivial) (fun _ _ _ _ _ _ _ _=>trivial) hn fun d v ds vs As Bs r s _ b=>hc d v ds vs As Bs r s b).2 r
theorem az.append (r:az K Hs H fl ds vs As) (t:az K Hs H fl es ws Bs):az K Hs H fl (ds++es) (vs++ws) (As++Bs) :=
 az.ind (m:=fun ds vs As=>az K Hs H fl (ds++es) (vs++ws) (As++Bs)) t (fun _ _ _ _ _ _ h _ ih=>by
  rw [xa0]
  exact .cons h ih) r
theorem az.n0 (h:az K Hs H fl [] vs As):vs=[]/\As=[]:=by cases h; exact ⟨rfl,rfl⟩
theorem az.c (h:az K Hs H fl (d :: ds) vs As):∃ u us A B,vs=u :: us/\As=A++B/\RepO K Hs H fl d u A/\az K Hs H fl ds us B:=by
 cases h with
 | cons r rs=>exact ⟨_,_,_,_,rfl,rfl,r,rs⟩
theorem az.length (r:az K Hs H fl ds vs As):ds.length=vs.length :=
 az.ind (m:=fun ds vs _=>ds.length=vs.length) rfl (fun _ _ _ _ _ _ _ _ ih=>by rw [xaK,xaK,ih]) r
end
inductive Sl where
 /-- shared; owned; owned and walked by a loop just now (at a) -/
 | sh (d:D) | ow (fl:Bool) (d:D) | lk (a:Addr) (fl:Bool) (d:D)
 /-- an exception,at a -/
 | xc (a:Addr)
abbrev Env:=List (Option Sl)
inductive SR (K:PySem.W.Frag) (Hs H:Hp):Env->St->List Addr->Prop
 | nil:SR K Hs H [] [] []
 | non {ρ:Env} {σ:St} {tot:List Addr} {o:Option V}:SR K Hs H ρ σ tot->SR K Hs H (none :: ρ) (o :: σ) tot
 | sh {ρ:Env} {σ:St} {tot:List Addr} {d:D} {v:V}:Rep K Hs d v->SR K Hs H ρ σ tot->SR K Hs H (some (.sh d) :: ρ) (some v :: σ) tot
 | xc {ρ:Env} {σ:St} {tot:List Addr} {a:Addr}:SR K Hs H ρ σ tot->SR K Hs H (some (.xc a) :: ρ) (some (.ref a) :: σ) tot
 | ow {ρ:Env} {σ:St} {tot As:List Addr} {fl:Bool} {d:D} {v:V}:As≠[]->RepO K Hs H fl d v As->SR K Hs H ρ σ tot->SR K Hs H (some (.ow fl d) :: ρ) (some v :: σ) (As++tot)
 | lk {ρ:Env} {σ:St} {tot As:List Addr} {a:Addr} {fl:Bool} {d:D}:As≠[]->RepO K Hs H fl d (.ref a) As->SR K Hs H ρ σ tot->SR K Hs H (some (.lk a fl d) :: ρ) (some (.ref a) :: σ) (As++tot)
structure Wf (Hs H:Hp):Prop where
 sub:Same Hs H
 tups:∀ a vs,H a=some (.tup vs)->Hs a=some (.tup vs)
structure SRel (K:PySem.W.Frag) (Hs:Hp) (ρ:Env) (σ:St) (H:Hp) (tot:List Addr):Prop where
 sr:SR K Hs H ρ σ tot
 wf:Wf Hs H
 nod:tot.Nodup
 own:∀ a∈tot,Hs a=none
structure Grow (Hs H Hs' H':Hp):Prop where
 all:Same H H'
 sh:Same Hs Hs'
 wf:Wf Hs' H'
 new:∀ a,Hs' a≠none->Hs a≠none\/H a=none
section
variable {K:PySem.W.Frag} {Hs H Hs' H' Hs'' H'':Hp}
theorem Grow.refl (w:Wf Hs H):Grow Hs H Hs H:=⟨Same.refl _,Same.refl _,w,fun _ h=>.inl h⟩
theorem Grow.trans (a:Grow Hs H Hs' H') (b:Grow Hs' H' Hs'' H''):Grow Hs H Hs'' H'' :=
 ⟨a.all.trans b.all,a.sh.trans b.sh,b.wf,fun c h=>by
  rcases b.new c h with h | h
  ·exact a.new c h
  ·exact .inr (a.all.free h)⟩
theorem Grow.hsn (g:Grow Hs H Hs' H') (h:Hs a=none) (h':H a≠none):Hs' a=none:=by
 cases e:Hs' a with
 | none=>rfl
 | some o =>
  rcases g.new a (by rw [e]; exact fun z=>nomatch z) with z | z
  ·exact absurd h z
  ·exact absurd z h'
theorem SR.own {ρ:Env} {σ:St} {tot:List Addr} (s:SR K Hs H ρ σ tot):∀ a∈tot,Own H a:=by
 induction s with
 | nil=>exact fun a h=>mem0 h
 | non _ ih=>exact ih
 | sh _ _ ih=>exact ih
 | xc _ ih=>exact ih
 | ow _ r _ ih=>exact fun a h=>(xaf.mp h).elim (r.own a) (ih a)
 | lk _ r _ ih=>exact fun a h=>(xaf.mp h).elim (r.own a) (ih a)
theorem SR.stay (s:Same Hs Hs') (r:SR K Hs H ρ σ tot):(∀ a∈tot,H' a=H a)->SR K Hs' H' ρ σ tot:=by
 induction r with
 | nil=>exact fun _=>.nil
 | non _ ih=>exact fun k=>.non (ih k)
 | sh h _ ih=>exact fun k=>.sh (h.same s) (ih k)
 | xc _ ih=>exact fun k=>.xc (ih k)
 | ow ne h _ ih=>exact fun k=>.ow ne (h.stay s fun a m=>k a (xap _ m)) (ih fun a m=>k a (xag _ m))
 | lk ne h _ ih=>exact fun k=>.lk ne (h.stay s fun a m=>k a (xap _ m)) (ih fun a m=>k a (xag _ m))
theorem SRel.grow (r:SRel K Hs ρ σ H tot) (g:Grow Hs H Hs' H'):SRel K Hs' ρ σ H' tot :=
 ⟨r.sr.stay g.sh fun a h=>by
  cases e:H a with
  | none=>exact absurd e (r.sr.own a h).ne
  | some o=>exact g.all a o e,g.wf,r.nod,fun a h=>g.hsn (r.own a h) (r.sr.own a h).ne⟩
theorem SR.length (s:SR K Hs H ρ σ tot):ρ.length=σ.length:=by
 induction s with
 | nil=>rfl
 | non _ ih=>exact congrArg (· + 1) ih
 | sh _ _ ih=>exact congrArg (· + 1) ih
 | xc _ ih=>exact congrArg (· + 1) ih
 | ow _ _ _ ih=>exact congrArg (· + 1) ih
 | lk _ _ _ ih=>exact congrArg (· + 1) ih
def yp (K:PySem.W.Frag) (Hs H:Hp) (tot:List Addr) (sl:Sl) (v:V):Prop:=match sl with
 | .sh d=>Rep K Hs d v
 | .ow fl d=>∃ As,As≠[]/\RepO K Hs H fl d v As/\∀ a∈As,a∈tot
 | .lk a fl d=>∃ As,As≠[]/\RepO K Hs H fl d v As/\v=.ref a/\∀ a∈As,a∈tot
 | .xc a=>v=.ref a
theorem yp.mono (h:yp K Hs H tot sl v) (m:∀ a∈tot,a∈tot'):yp K Hs H tot' sl v:=by
 cases sl with
 | sh d=>exact h
 | xc a=>exact h
 | ow fl d =>
  obtain ⟨As,ne,r,q⟩:=h
  exact ⟨As,ne,r,fun a ha=>m a (q a ha)⟩
 | lk a fl d =>
  obtain ⟨As,ne,r,e,q⟩:=h
  exact ⟨As,ne,r,e,fun a ha=>m a (q a ha)⟩
theorem SR.get {ρ:Env} {σ:St} {tot:List Addr} {i:Nat} {sl:Sl} (s:SR K Hs H ρ σ tot) (e:ρ[i]? = some (some sl)):∃ v,σ[i]? = some (some v)/\yp K Hs H tot sl v:=by
 induction s generalizing i with
 | nil=>simp at e
 | non s ih =>
  cases i with
  | zero=>simp at e
  | succ i=>exact ih e
 | sh r s ih =>
  cases i with
  | zero=>simp at e; subst e; exact ⟨_,rfl,r⟩
  | succ i=>exact ih e
 | xc s ih =>
  cases i with
  | zero=>simp at e; subst e; exact ⟨_,rfl,rfl⟩
  | succ i=>exact ih e
 | ow ne r s ih =>
  cases i with
  | zero=>simp at e; subst e; exact ⟨_,rfl,_,ne,r,fun a m=>xap _ m⟩
  | succ i =>
   obtain ⟨v,e1,h⟩:=ih e
   exact ⟨v,e1,h.mono fun a m=>xag _ m⟩
 | lk ne r s ih =>
  cases i with
  | zero=>simp at e; subst e; exact ⟨_,rfl,_,ne,r,rfl,fun a m=>xap _ m⟩
  | succ i =>
   obtain ⟨v,e1,h⟩:=ih e
   exact ⟨v,e1,h.mono fun a m=>xag _ m⟩
end
inductive Md where
 | sh | ow (fl:Bool) | bo
def RM (K:PySem.W.Frag) (Hs H:Hp):Md->D->V->List Addr->Prop
 | .sh,d,v,As=>As=[]/\Rep K Hs d v
 | .ow fl,d,v,As=>RepO K Hs H fl d v As/\As≠[]
 | .bo,d,v,As=>As=[]/\Rep K H d v
inductive RMs (K:PySem.W.Frag) (Hs H:Hp):List (Md × D)->List V->List Addr->Prop
 | nil:RMs K Hs H [] [] []
 | cons {m:Md} {d:D} {v:V} {ps:List (Md × D)} {vs:List V} {As Bs:List Addr}:RM K Hs H m d v As->RMs K Hs H ps vs Bs->RMs K Hs H ((m,d) :: ps) (v :: vs) (As++Bs)
section
variable {K:PySem.W.Frag} {Hs H Hs' H':Hp}
theorem RM.own {m:Md} {d:D} {v:V} {As:List Addr} (r:RM K Hs H m d v As):∀ a∈As,Own H a:=by
 cases m with
 | sh=>obtain ⟨rfl,_⟩:=r; exact fun a h=>mem0 h
 | ow fl=>exact RepO.own r.1
 | bo=>obtain ⟨rfl,_⟩:=r; exact fun a h=>mem0 h
theorem RM.grow (r:RM K Hs H m d v As) (g:Grow Hs H Hs' H'):RM K Hs' H' m d v As:=by
 cases m with
 | sh=>exact ⟨r.1,r.2.same g.sh⟩
 | ow fl=>exact ⟨RepO.grow g.sh g.all r.1,r.2⟩
 | bo=>exact ⟨r.1,r.2.same g.all⟩
theorem RM.rep (w:Wf Hs H) (r:RM K Hs H m d v As):Rep K H d v:=by
 cases m with
 | sh=>exact r.2.same w.sub
 | ow fl=>exact RepO.rep w.sub r.1 fun _ _=>rfl
 | bo=>exact r.2
theorem RM.flat (w:Wf Hs H) (r:RM K Hs H m d v As) (f:d.flat=true):Rep K Hs d v:=(r.rep w).iW w.tups f
theorem RMs.own {ps:List (Md × D)} {vs:List V} {As:List Addr} (r:RMs K Hs H ps vs As):∀ a∈As,Own H a:=by
 induction r with
 | nil=>exact fun a h=>mem0 h
 | cons r _ ih=>exact fun a h=>(xaf.mp h).elim (r.own a) (ih a)
theorem RMs.grow (g:Grow Hs H Hs' H') {ps:List (Md × D)} (r:RMs K Hs H ps vs As):RMs K Hs' H' ps vs As:=by
 induction r with
 | nil=>exact .nil
 | cons r _ ih=>exact .cons (r.grow g) ih
theorem RMs.reps (w:Wf Hs H) {ps:List (Md × D)} (r:RMs K Hs H ps vs As):Reps K H (ps.map (·.2)) vs:=by
 induction r with
 | nil=>exact .nil
 | cons r _ ih=>exact .cons (r.rep w) ih
end
abbrev WE:=Env->(Md->D->Prop)->Prop
abbrev WT:=Env->(Bool->Prop)->Prop
abbrev WA:=Env->(List (Md × D)->Prop)->Prop
structure nJ where
 nx:Env->Prop
 rt:Md->D->Prop
 bk:Env->Prop:=fun _=>False
 ct:Env->Prop:=fun _=>False
abbrev WS:=nJ->Env->Prop
def cL (Hs' H:Hp) (As:List Addr):Prop:=As.Nodup/\∀ a∈As,Hs' a=none/\H a=none
def tpE (K:PySem.W.Frag) (t:WE):TE:=fun σ H Qv=>∃ Hs ρ tot Q,SRel K Hs ρ σ H tot/\t ρ Q /\
 ∀ v H' Hs' m d As,Grow Hs H Hs' H'->RM K Hs' H' m d v As->cL Hs' H As->Q m d->Qv v H'
def tpT (K:PySem.W.Frag) (t:WT):TT:=fun σ H Qv=>∃ Hs ρ tot Q,SRel K Hs ρ σ H tot/\t ρ Q/\∀ b H' Hs',Grow Hs H Hs' H'->Q b->Qv b H'
def tpA (K:PySem.W.Frag) (t:WA):TA:=fun σ H Qv=>∃ Hs ρ tot Q,SRel K Hs ρ σ H tot/\t ρ Q /\
 ∀ vs H' Hs' ps As,Grow Hs H Hs' H'->RMs K Hs' H' ps vs As->cL Hs' H As->Q ps->Qv vs H'
def tpS (K:PySem.W.Frag) (L:Str->Hp->Prop) (t:WS):TS:=fun D σ H=>∃ Hs ρ tot E,SRel K Hs ρ σ H tot/\t E ρ /\
 (∀ σ' H' Hs' ρ' tot',Same Hs Hs'->SRel K Hs' ρ' σ' H' tot'->E.nx ρ'->D.nx σ' H') /\
 (∀ σ' H' Hs' ρ' tot',Same Hs Hs'->SRel K Hs' ρ' σ' H' tot'->E.bk ρ'->D.bk σ' H') /\
 (∀ σ' H' Hs' ρ' tot',Same Hs Hs'->SRel K Hs' ρ' σ' H' tot'->E.ct ρ'->D.ct σ' H') /\
 (∀ v H' Hs' m d As,Same Hs Hs'->Wf Hs' H'->RM K Hs' H' m d v As->As.Nodup->(∀ a∈As,Hs' a=none)->E.rt m d->D.rt v H') /\
 ∀ n H',Same Hs H'->E.rt (.ow false) (.str n)->L n H'
theorem dY {K:PySem.W.Frag} {L:Str->Hp->Prop} {t:WS} {D:Ends} {σ:St} {H:Hp} {G:Prop} (x:tpS K L t D σ H) (k:∀ Hs ρ tot E,SRel K Hs ρ σ H tot->t E ρ ->
 (∀ σ' H' Hs' ρ' tot',Same Hs Hs'->SRel K Hs' ρ' σ' H' tot'->E.nx ρ'->D.nx σ' H') ->
 (∀ σ' H' Hs' ρ' tot',Same Hs Hs'->SRel K Hs' ρ' σ' H' tot'->E.bk ρ'->D.bk σ' H') ->
 (∀ σ' H' Hs' ρ' tot',Same Hs Hs'->SRel K Hs' ρ' σ' H' tot'->E.ct ρ'->D.ct σ' H') ->
 (∀ v H' Hs' m d As,Same Hs Hs'->Wf Hs' H'->RM K Hs' H' m d v As->As.Nodup->(∀ a∈As,Hs' a=none)->E.rt m d->D.rt v H') ->
 (∀ n H',Same Hs H'->E.rt (.ow false) (.str n)->L n H')->G):G :=
 by
 obtain ⟨Hs,ρ,tot,E,sr,h,k1,k2,k3,k4,kx⟩:=x
 exact k Hs ρ tot E sr h k1 k2 k3 k4 kx
theorem fK {K:PySem.W.Frag} {L:Str->Hp->Prop} {t:WS} {D:Ends} {σ:St} {H:Hp} {G:Prop} (x:tpS K L t D σ H) (k:∀ Hs ρ tot E,SRel K Hs ρ σ H tot->t E ρ ->
 (∀ σ' H' Hs' ρ' tot',Same Hs Hs'->SRel K Hs' ρ' σ' H' tot'->E.nx ρ'->D.nx σ' H') ->
 (∀ σ' H' Hs' ρ' tot',Same Hs Hs'->SRel K Hs' ρ' σ' H' tot'->E.bk ρ'->D.bk σ' H') ->
 (∀ σ' H' Hs' ρ' tot',Same Hs Hs'->SRel K Hs' ρ' σ' H' tot'->E.ct ρ'->D.ct σ' H') ->
 (∀ v H' Hs' m d As,Same Hs Hs'->Wf Hs' H'->RM K Hs' H' m d v As->As.Nodup->(∀ a∈As,Hs' a=none)->E.rt m d->D.rt v H')->G):G :=
 dY x fun Hs ρ tot E sr h k1 k2 k3 k4 _=>k Hs ρ tot E sr h k1 k2 k3 k4
theorem ex4 {α β γ δ:Type _} {A B C:α->β->γ->δ->Prop} {G:Prop} (x:∃ a b c d,A a b c d/\B a b c d/\C a b c d) (k:∀ a b c d,A a b c d->B a b c d->C a b c d->G):G :=
 by
 obtain ⟨a,b,c,d,p,q,r⟩:=x
 exact k a b c d p q r
abbrev QE (X:Cx) (K:PySem.W.Frag) (e:Expr) (t:WE):Prop:=PE X e (tpE K t)
abbrev QT (X:Cx) (K:PySem.W.Frag) (e:Expr) (t:WT):Prop:=PT X e (tpT K t)
abbrev QW (X:Cx) (K:PySem.W.Frag) (e:Expr) (t:WT):Prop:=PW X e (tpT K t)
abbrev QA (X:Cx) (K:PySem.W.Frag) (es:List Expr) (t:WA):Prop:=PA X es (tpA K t)
abbrev QS (X:Cx) (K:PySem.W.Frag) (L:Str->Hp->Prop) (st:Stmt) (t:WS):Prop:=PS X st (tpS K L t)
abbrev QSs (X:Cx) (K:PySem.W.Frag) (L:Str->Hp->Prop) (st:List Stmt) (t:WS):Prop:=PSs X st (tpS K L t)
abbrev L0:Str->Hp->Prop:=fun _ _=>True
end L2.Q
namespace L2.Q
open PySem PySem.Spec PyProof.Rows
structure Kt {α:Type} (f:α->Prop):Type where
def onK {α:Type} (a:α) {f:α->Prop} (_:Kt f):Prop:=f a
mutual
def D.py:D->PyData
 | .non=>.none
 | .bl b=>.bool b
 | .int i=>.int i
 | .str x=>.str x
 | .list xs=>.list (pys xs)
 | .tup xs=>.tuple (pys xs)
 | .dK _=>.none
 | .dT _=>.none
def pys:List D->List PyData
 | []=>[]
 | x :: xs=>x.py :: pys xs
end
def okD:Nat->D->Bool
 | _,.non=>true
 | _,.bl _=>true
 | _,.int _=>true
 | _,.str x=>PyData.strOk x
 | n+1,.list xs=>xs.all (okD n)
 | n+1,.tup xs=>xs.all (okD n)
 | _,_=>false
def eqD (x y:D):Bool:=PyData.eqv x.py y.py
def D.ty:D->String
 | .non => "NoneType"
 | .bl _ => "bool"
 | .int _ => "int"
 | .str _ => "str"
 | .list _ => "list"
 | .tup _ => "tuple"
 | .dK _ => "dict"
 | .dT _ => "dict"
def D.key1:D->Option Key
 | .int i=>some (.inl i)
 | .str x=>some (.inr x)
 | _=>none
def dM:List D->Option (List Key)
 | []=>some []
 | x :: xs=>match x.key1,dM xs with
  | some k,some ks=>some (k :: ks)
  | _,_=>none
section
variable {κ:Type} [DecidableEq κ] {β:Type}
def getG (kvs:List (κ × β)) (k:κ):Option β:=(kvs.find? fun kv=>decide (kv.1=k)).map (·.2)
def putG (kvs:List (κ × β)) (k:κ) (v:β):List (κ × β) :=
 if (kvs.any fun kv=>decide (kv.1=k))=true then kvs.map (fun kv=>if kv.1=k then (kv.1,v) else kv) else kvs++[(k,v)]
end
theorem Rep.l22 {K:PySem.W.Frag}:(∀ {d:D} {v:V},Rep K H d v->∀ n,okD n d=true->L2.Rep K H d.py v)/\∀ {ds:List D} {vs:List V},Reps K H ds vs->∀ n,(∀ d∈ds,okD n d=true)->L2.Reps K H (pys ds) vs :=
 Rep.ind (m1:=fun d v=>∀ n,okD n d=true->L2.Rep K H d.py v) (m2:=fun ds vs=>∀ n,(∀ d∈ds,okD n d=true)->L2.Reps K H (pys ds) vs) (fun _ _=>.none) (fun b _ _=>.bool b) (fun i _ _=>.int i) (fun _ _ _ _=>.str _)
  (fun _ _ _ _ h _ ih n o=>by
   cases n with
   | zero=>simp [okD] at o
   | succ n=>exact .list h (ih n (by simpa [okD] using o)))
  (fun _ _ _ _ h _ ih n o=>by
   cases n with
   | zero=>simp [okD] at o
   | succ n=>exact .tuple (.inl (.inl h)) (ih n (by simpa [okD] using o)))
  (fun _ _ _ _ _ _ _ n o=>by cases n <;> simp [okD] at o) (fun _ _ _ _ _ _ _ n o=>by cases n <;> simp [okD] at o) (fun _ _=>.nil)
  fun _ _ _ _ _ _ i1 i2 n o=>.cons (i1 n (o _ xac)) (i2 n fun d m=>o d (xab _ m))
theorem Rep.l2 {K:PySem.W.Frag} (r:Rep K H d v) (o:okD n d=true):L2.Rep K H d.py v:=Rep.l22.1 r n o
theorem wg (ih:∀ d,okD n d=true->d.py.canLay0=true/\d.py.depth<=n) (xs:List D) (h:∀ x∈xs,okD n x=true):PyData.canLayAll0 (pys xs)=true/\PyData.depthAll (pys xs)<=n:=by
 induction xs with
 | nil=>exact ⟨rfl,xar _⟩
 | cons x xs ih2 =>
  have h1:=ih x (h x xac)
  have h2:=ih2 fun y hy=>h y (xab _ hy)
  simp only [pys,PyData.canLayAll0,PyData.depthAll,h1.1,h2.1,Bool.and_self,true_and]
  lia
theorem su (n:Nat):∀ (d:D),okD n d=true->d.py.canLay0=true/\d.py.depth<=n:=by
 have st:∀ (n:Nat) (x:Str),okD n (.str x)=true->(D.str x).py.canLay0=true/\(D.str x).py.depth<=n:=fun n x h=>by
  have h:PyData.strOk x=true:=by cases n <;> simpa [okD] using h
  exact ⟨by simpa [D.py,PyData.canLay0] using h,xar _⟩
 induction n with
 | zero =>
  intro d h
  cases d with
  | str x=>exact st _ x h
  | non=>exact ⟨rfl,xar _⟩
  | bl _=>exact ⟨rfl,xar _⟩
  | int _=>exact ⟨rfl,xar _⟩
  | _=>simp [okD] at h
 | succ n ih =>
  intro d h
  cases d with
  | str x=>exact st _ x h
  | non=>exact ⟨rfl,xar _⟩
  | bl _=>exact ⟨rfl,xar _⟩
  | int _=>exact ⟨rfl,xar _⟩
  | list xs =>
   have h:∀ x∈xs,okD n x=true:=by simpa [okD] using h
   have:=wg ih xs h
   simp only [D.py,PyData.canLay0,PyData.depth]
   exact ⟨this.1,by lia⟩
  | tup xs =>
   have h:∀ x∈xs,okD n x=true:=by simpa [okD] using h
   have:=wg ih xs h
   simp only [D.py,PyData.canLay0,PyData.depth]
   exact ⟨this.1,by lia⟩
  | dK _=>simp [okD] at h
  | dT _=>simp [okD] at h
mutual
def D.nb:D->Bool
 | .bl _=>false
 | .list xs=>nbs xs
 | .tup xs=>nbs xs
 | .dK _=>false
 | .dT _=>false
 | _=>true
def nbs:List D->Bool
 | []=>true
 | x :: xs=>x.nb && nbs xs
end
mutual
theorem oh:∀ (x y:D),x.nb=true->y.nb=true->(eqD x y=true↔x=y)
 | .non,y,_,hy=>by cases y <;> simp_all [eqD,D.py,PyData.eqv,D.nb]
 | .bl _,y,hx,_=>by simp [D.nb] at hx
 | .int i,y,_,hy=>by cases y <;> simp_all [eqD,D.py,PyData.eqv,D.nb]
 | .str i,y,_,hy=>by cases y <;> simp_all [eqD,D.py,PyData.eqv,D.nb]
 | .dK _,y,hx,_=>by simp [D.nb] at hx
 | .dT _,y,hx,_=>by simp [D.nb] at hx
 | .list xs,y,hx,hy=>by
  cases y with
  | list ys =>
   have:=mQ xs ys (by simpa [D.nb] using hx) (by simpa [D.nb] using hy)
   simp only [eqD,D.py,PyData.eqv,D.list.injEq]
   exact this
  | _=>simp_all [eqD,D.py,PyData.eqv,D.nb]
 | .tup xs,y,hx,hy=>by
  cases y with
  | tup ys =>
   have:=mQ xs ys (by simpa [D.nb] using hx) (by simpa [D.nb] using hy)
   simp only [eqD,D.py,PyData.eqv,D.tup.injEq]
   exact this
  | _=>simp_all [eqD,D.py,PyData.eqv,D.nb]
theorem mQ:∀ (xs ys:List D),nbs xs=true->nbs ys=true->(PyData.eqvAll (pys xs) (pys ys)=true↔xs=ys)
 | [],[],_,_=>by simp [pys,PyData.eqvAll]
 | [],_ :: _,_,_=>by simp [pys,PyData.eqvAll]
 | _ :: _,[],_,_=>by simp [pys,PyData.eqvAll]
 | x :: xs,y :: ys,hx,hy=>by
  simp only [nbs,xay] at hx hy
  have h1:=oh x y hx.1 hy.1
  have h2:=mQ xs ys hx.2 hy.2
  simp only [pys,PyData.eqvAll,xay,List.cons.injEq]
  exact and_congr h1 h2
end
section
variable {K:PySem.W.Frag} {H:Hp}
theorem Rep.key (r:Rep K H d v) (h:d.key1=some k):v=kV k:=by
 cases r <;> simp [D.key1] at h <;> subst h <;> rfl
theorem Reps.keys (r:Reps K H ds vs) (h:dM ds=some ks):vs=ks.map kV:=by
 induction ds generalizing vs ks with
 | nil=>simp [dM] at h; subst h; exact r.n0
 | cons d ds ih =>
  obtain ⟨u,us,rfl,r,rs⟩:=r.c
  unfold dM at h
  cases e1:d.key1 with
  | none=>rw [e1] at h; simp at h
  | some k =>
   cases e2:dM ds with
   | none=>rw [e1,e2] at h; simp at h
   | some ks' =>
    rw [e1,e2] at h
    simp at h
    subst h
    rw [xaq,r.key e1,ih rs e2]
theorem Rep.keyT (r:Rep K H (.tup ds) v) (h:dM ds=some ks):∃ b,v=.ref b/\H b=some (.tup (ks.map kV)):=by
 cases r with
 | tup _ e rs=>exact ⟨_,rfl,by rw [e,rs.keys h]⟩
end
section
variable {κ:Type} [DecidableEq κ] {K:PySem.W.Frag} {H:Hp}
theorem zip_get {k:κ} {kvs:List (κ × D)} {vs:List V} (h:Reps K H (kvs.map (·.2)) vs):match getG kvs k with
  | some d=>∃ v,valV ((kvs.map (·.1)).zip vs) k=some v/\Rep K H d v
  | none=>valV ((kvs.map (·.1)).zip vs) k=none:=by
 induction kvs generalizing vs with
 | nil=>rfl
 | cons p kvs ih =>
  obtain ⟨u,us,rfl,r,rs⟩:=Reps.c (d:=p.2) h
  by_cases e:p.1=k
  ·have e1:getG (p :: kvs) k=some p.2:=by simp [getG,e]
   rw [e1]
   exact ⟨_,by simp only [xaq,xbj]; exact valV_pos e,r⟩
  ·have e1:getG (p :: kvs) k=getG kvs k:=by simp [getG,e]
   rw [e1]
   have:=ih rs
   simp only [xaq,xbj,valV_neg (p:=(p.1,_)) e]
   exact this
theorem Bv {k:κ} {kvs:List (κ × D)} {vs:List V} (h:kvs.length=vs.length):((kvs.map (·.1)).zip vs).any (fun kv=>decide (kv.1=k))=kvs.any fun kv=>decide (kv.1=k):=by
 induction kvs generalizing vs with
 | nil=>rfl
 | cons p kvs ih =>
  cases vs with
  | nil=>simp at h
  | cons v vs =>
   simp only [xaq,xbj,xbq]
   rw [ih (vs:=vs) (by simpa using h)]
end
section
variable {K:PySem.W.Frag} {Hs H:Hp}
theorem newL (w:Wf Hs H) (hp:H p=none) (ho:∀ vs,o≠.tup vs):Grow Hs H Hs (upd H p o) :=
 ⟨(Same.refl H).upd hp,Same.refl _,⟨w.sub.upd hp,fun a vs e=>by
  by_cases h:a=p
  ·subst h; rw [upd_same] at e; exact absurd (Option.some.inj e) (ho vs)
  ·rw [upd_ne h] at e; exact w.tups a vs e⟩,fun _ h=>.inl h⟩
theorem newT (w:Wf Hs H) (hp:H p=none):Grow Hs H (upd Hs p (.tup vs)) (upd H p (.tup vs)) :=
 ⟨(Same.refl H).upd hp,(Same.refl Hs).upd (w.sub.free hp),⟨fun a o e=>by
  by_cases h:a=p
  ·subst h; rw [upd_same] at e ⊢; exact e
  ·rw [upd_ne h] at e ⊢; exact w.sub a o e,fun a vs e=>by
  by_cases h:a=p
  ·subst h; rw [upd_same] at e ⊢; exact e
  ·rw [upd_ne h] at e ⊢; exact w.tups a vs e⟩,fun a h=>by
  by_cases e:a=p
  ·subst e; exact .inr hp
  ·rw [upd_ne e] at h; exact .inl h⟩
theorem cL.nil:cL Hs H []:=⟨xaB,fun a h=>nomatch h⟩
theorem cL.of (s:Same H H') (f:cL Hs H' As):cL Hs H As:=⟨f.1,fun a h=>⟨(f.2 a h).1,s.free (f.2 a h).2⟩⟩
abbrev Fin (K:PySem.W.Frag) (Hs H:Hp) (Qd:Md->D->Prop) (Qv:VK):Prop:=∀ v H' Hs' m d As,Grow Hs H Hs' H'->RM K Hs' H' m d v As->cL Hs' H As->Qd m d->Qv v H'
theorem Fin.after (f:Fin K Hs H Qd Qv) (g:Grow Hs H Hs' H'):Fin K Hs' H' Qd Qv:=fun v H2 Hs2 m d As g2 r fr q=>f v H2 Hs2 m d As (g.trans g2) r (fr.of g.all) q
theorem Fin.sh (f:Fin K Hs H Qd Qv) (w:Wf Hs H) (r:Rep K Hs d v) (q:Qd .sh d):Qv v H:=f v H Hs .sh d [] (Grow.refl w) ⟨rfl,r⟩ cL.nil q
theorem Fin.flat (f:Fin K Hs H Qd Qv) (w:Wf Hs H) (r:Rep K H d v) (hf:d.flat=true) (q:Qd .sh d):Qv v H:=f.sh w (r.iW w.tups hf) q
theorem Fin.bo (f:Fin K Hs H Qd Qv) (w:Wf Hs H) (r:Rep K H d v) (q:Qd .bo d):Qv v H:=f v H Hs .bo d [] (Grow.refl w) ⟨rfl,r⟩ cL.nil q
def itm (m:Md) (d:D):Md:=match m with
 | .sh=>.sh
 | _=>bif d.flat then .sh else .bo
theorem Fin.itm (f:Fin K Hs H Qd Qv) (w:Wf Hs H) (r:Rep K H d v) (rs:m=.sh->Rep K Hs d v) (q:Qd (itm m d) d):Qv v H:=by
 cases m with
 | sh=>exact f.sh w (rs rfl) q
 | ow fl =>
  cases hf:d.flat with
  | true=>exact f.flat w r hf (by simpa [Q.itm,hf] using q)
  | false=>exact f.bo w r (by simpa [Q.itm,hf] using q)
 | bo =>
  cases hf:d.flat with
  | true=>exact f.flat w r hf (by simpa [Q.itm,hf] using q)
  | false=>exact f.bo w r (by simpa [Q.itm,hf] using q)
theorem Fin.lst (f:Fin K Hs H Qd Qv) (w:Wf Hs H) (hz:ds.length<=sizeLine) (r:Reps K H ds vs) (hf:flats ds=true) (q:Qd (.ow true) (.list ds)):∀ p,H p=none->Qv (.ref p) (upd H p (.lst vs)):=fun p hp =>
 f _ _ Hs (.ow true) (.list ds) [p] (newL w hp fun _ z=>nomatch z) ⟨.list (by rw [<- r.length]; exact hz) upd_same ((r.iW w.tups hf).owned hf),by simp⟩ ⟨by simp,fun a h=>by
  obtain rfl:a=p:=by simpa using h
  exact ⟨w.sub.free hp,hp⟩⟩ q
theorem Fin.lstS (f:Fin K Hs H Qd Qv) (w:Wf Hs H) (hz:ds.length<=sizeLine) (r:Reps K Hs ds vs) (q:Qd (.ow false) (.list ds)):∀ p,H p=none->Qv (.ref p) (upd H p (.lst vs)):=fun p hp =>
 f _ _ Hs (.ow false) (.list ds) [p] (newL w hp fun _ z=>nomatch z) ⟨.list (by rw [<- r.length]; exact hz) upd_same r.Dn,by simp⟩ ⟨by simp,fun a h=>by
  obtain rfl:a=p:=by simpa using h
  exact ⟨w.sub.free hp,hp⟩⟩ q
theorem Fin.tup (f:Fin K Hs H Qd Qv) (w:Wf Hs H) (hz:ds.length<=sizeLine) (r:Reps K H ds vs) (hf:flats ds=true) (q:Qd .sh (.tup ds)):∀ p,H p=none->Qv (.ref p) (upd H p (.tup vs)):=fun p hp =>
 f _ _ (upd Hs p (.tup vs)) .sh (.tup ds) [] (newT w hp) ⟨rfl,.tup (by rw [<- r.length]; exact hz) upd_same ((r.iW w.tups hf).same ((Same.refl Hs).upd (w.sub.free hp)))⟩ cL.nil q
end
section
variable {X:Cx} {K:PySem.W.Frag}
theorem PE.imp (h:PE X e te) (i:∀ σ H Q,te' σ H Q->te σ H Q):PE X e te':=fun pins s σ H Q I q=>h pins s σ H Q I (i σ H Q q)
theorem PT.imp (h:PT X e te) (i:∀ σ H Q,te' σ H Q->te σ H Q):PT X e te':=fun pins s σ H Q I q=>h pins s σ H Q I (i σ H Q q)
theorem PW.imp (h:PW X e te) (i:∀ σ H Q,te' σ H Q->te σ H Q):PW X e te':=fun wh pins s σ H Q I q=>h wh pins s σ H Q I (i σ H Q q)
theorem PA.imp (h:PA X e te) (i:∀ σ H Q,te' σ H Q->te σ H Q):PA X e te':=fun p pins s σ H Q I q=>h p pins s σ H Q I (i σ H Q q)
def useS:Option (Option Sl)->(Md->D->Prop)->Prop
 | some (some (.sh d)),Q=>Q .sh d
 | some (some (.ow _ d)),Q=>Q .bo d
 | some (some (.lk _ _ d)),Q=>Q .bo d
 | _,_=>False
def wVar (i:Nat):WE:=fun ρ Q=>useS ρ[i]? Q
theorem GJ (h:PE X e (tVar i)):QE X K e (wVar i):=by
 refine PE.imp h fun σ H Qv hx=>ex4 hx fun Hs ρ tot Q sr h f=>?_
 unfold wVar at h
 cases e:ρ[i]? with
 | none=>rw [e] at h; exact h.elim
 | some o =>
  cases o with
  | none=>rw [e] at h; exact h.elim
  | some sl =>
   obtain ⟨v,e1,r⟩:=sr.sr.get e
   rw [e] at h
   cases sl with
   | sh d=>exact ⟨v,e1,Fin.sh f sr.wf r h⟩
   | xc a=>exact h.elim
   | ow fl d =>
    obtain ⟨As,_,r,_⟩:=r
    exact ⟨v,e1,Fin.bo f sr.wf (r.rep sr.wf.sub fun _ _=>rfl) h⟩
   | lk a fl d =>
    obtain ⟨As,_,r,_⟩:=r
    exact ⟨v,e1,Fin.bo f sr.wf (r.rep sr.wf.sub fun _ _=>rfl) h⟩
theorem qv (i:Nat) (hN:X.N[i]? = some x:=by rfl) (hv:Vis X.env.scope x:=by first | exact Or.inl rfl | exact Or.inr (Or.inl rfl) | exact Or.inr (Or.inr rfl)) (hd:(x == ("__debug__" : Str))=false:=by decide)
  (hcd:(x == ("__classdict__" : Str))=false:=by decide):QE X K (.Name x pos) (wVar i):=GJ (pe_var hN hv hd hcd)
def wC (d:D):WE:=fun _ Q=>Q .sh d
theorem xH (h:PE X e (tC v)) (r:∀ H,Rep K H d v):QE X K e (wC d) :=
 PE.imp h fun σ H Qv hx=>ex4 hx fun Hs ρ tot Q sr h f=>Fin.sh f sr.wf (r _) h
theorem au {i j pos}:QE X K (.Constant (.int i) j pos) (wC (.int i)):=xH pe_int fun _=>.int i
theorem gB {i j pos} (h:i.length<=sizeLine:=by decide):QE X K (.Constant (.str i) j pos) (wC (.str i)):=xH pe_str fun _=>.str h
theorem q_bl {i j pos}:QE X K (.Constant (.bool i) j pos) (wC (.bl i)):=xH pe_bl fun _=>.bl i
theorem zE {j pos}:QE X K (.Constant .none j pos) (wC .non):=xH pe_non fun _=>.non
abbrev W2:=Md->D->Md->D->(Md->D->Prop)->Prop
abbrev W1:=Md->D->(Md->D->Prop)->Prop
def Br2 (K:PySem.W.Frag) (r:R2) (f:W2):Prop:=∀ Hs H m x v As n y u Bs Qd Qv,Wf Hs H->RM K Hs H m x v As->RM K Hs H n y u Bs->f m x n y Qd->Fin K Hs H Qd Qv->r v u H Qv
def Br1 (K:PySem.W.Frag) (r:V->Hp->VK->Prop) (f:W1):Prop:=∀ Hs H m x v As Qd Qv,Wf Hs H->RM K Hs H m x v As->f m x Qd->Fin K Hs H Qd Qv->r v H Qv
def wOp (f:W2) (ta tb:WE):WE:=fun ρ Q=>ta ρ fun m x=>tb ρ fun n y=>f m x n y Q
def wUn (f:W1) (ta:WE):WE:=fun ρ Q=>ta ρ fun m x=>f m x Q
variable {a b:Expr} {ta tb tc:WE} {pos:Pos}
theorem jL (br:Br2 K r f) (σ:St) (H:Hp) (Qv:VK) (h:tpE K (wOp f ta tb) σ H Qv):tOp r (tpE K ta) (tpE K tb) σ H Qv:=by
 obtain ⟨Hs,ρ,tot,Q,sr,h,fin⟩:=h
 refine ⟨Hs,ρ,tot,_,sr,h,fun v H1 Hs1 m x As g1 r1 f1 q1=>⟨Hs1,ρ,tot,_,sr.grow g1,q1,fun u H2 Hs2 n y Bs g2 r2 f2 q2=>?_⟩⟩
 exact br Hs2 H2 m x v As n y u Bs Q Qv g2.wf (r1.grow g2) r2 q2 (Fin.after fin (g1.trans g2))
theorem q_op (ho:OpR X (binaryOp op) r) (br:Br2 K r f) (ha:QE X K a ta) (hb:QE X K b tb):QE X K (.BinOp a op b pos) (wOp f ta tb):=PE.imp (pe_op ho ha hb) (jL br)
theorem q_un (ho:UnR X (unaryOp op) r) (br:Br1 K r f) (ha:QE X K a ta):QE X K (.UnaryOp op a pos) (wUn f ta):=by
 refine PE.imp (pe_un ho ha) fun σ H Qv hx=>ex4 hx fun Hs ρ tot Q sr h fin=>?_
 exact ⟨Hs,ρ,tot,_,sr,h,fun v H1 Hs1 m x As g1 r1 f1 q1=>br Hs1 H1 m x v As Q Qv g1.wf r1 q1 (Fin.after fin g1)⟩
theorem zO (ho:OpR X (compareOp op) r) (br:Br2 K r f) (ha:QE X K a ta) (hb:QE X K b tb) (hm:behindInMarks op b=false):QE X K (.Compare a [op] [b] pos) (wOp f ta tb):=PE.imp (pe_cmpR ho ha hb hm) (jL br)
def wB (t:WE):WT:=fun ρ Q=>t ρ fun _ x=>match x with
 | .bl b=>Q b
 | _=>False
theorem yr (σ:St) (H:Hp) (Qv:Bool->Hp->Prop) (h:tpT K (wB t) σ H Qv):tTest (tpE K t) σ H Qv:=by
 obtain ⟨Hs,ρ,tot,Q,sr,h,fin⟩:=h
 refine ⟨Hs,ρ,tot,_,sr,h,fun v H1 Hs1 m x As g1 r1 f1 q1=>?_⟩
 have r:=r1.rep g1.wf
 cases r with
 | bl b=>exact ⟨b,rfl,fin b H1 Hs1 g1 q1⟩
 | _=>exact q1.elim
theorem sO (h:tpE K t σ H Q) (i:∀ v H',Q v H'->Q' v H'):tpE K t σ H Q':=by
 obtain ⟨Hs,ρ,tot,Qd,sr,h,fin⟩:=h
 exact ⟨Hs,ρ,tot,Qd,sr,h,fun v H1 Hs1 m x As g1 r1 f1 q1=>i _ _ (fin v H1 Hs1 m x As g1 r1 f1 q1)⟩
theorem aO (ho:OpR X (compareOp op) r) (br:Br2 K r f) (ha:QE X K a ta) (hb:QE X K b tb) (hm:behindInMarks op b=false):QT X K (.Compare a [op] [b] pos) (wB (wOp f ta tb)):=by
 refine PT.imp (pt_cmpR ho ha hb hm) fun σ H Qv h=>?_
 obtain ⟨Hs,ρ,tot,Q,sr,h,fin⟩:=h
 refine jL br σ H _ ⟨Hs,ρ,tot,_,sr,h,fun v H1 Hs1 m x As g1 r1 f1 q1=>?_⟩
 have r:=r1.rep g1.wf
 cases r with
 | bl b=>exact ⟨b,rfl,fin b H1 Hs1 g1 q1⟩
 | _=>exact q1.elim
theorem kO (h:QE X K a t) (he:∀ whole,isTrue a X.env whole=(do let v <- whole; standAt a.pos; holding [v] (truthy v)):=by intro _; rfl):QT X K a (wB t):=PT.imp (pt_val h he) yr
def qG (f g:W2) (ta tb tc:WE):WE:=fun ρ Q=>ta ρ fun m x=>tb ρ fun n y=>f m x n y fun _ z=>match z with
 | .bl k=>if k=true then tc ρ fun l w=>g n y l w Q else Q .sh (.bl false)
 | _=>False
end
end L2.Q
namespace L2.Q
open PySem PySem.Spec PyProof.Rows
section
variable {X:Cx} {K:PySem.W.Frag} {a b c:Expr} {ta tb tc:WE} {pos:Pos}
theorem ug (br:Br2 K r f) (br':Br2 K r' g) (σ:St) (H:Hp) (Qv:VK) (h:tpE K (qG f g ta tb tc) σ H Qv):tChain r r' (tpE K ta) (tpE K tb) (tpE K tc) σ H Qv:=by
 obtain ⟨Hs,ρ,tot,Q,sr,h,fin⟩:=h
 refine ⟨Hs,ρ,tot,_,sr,h,fun v H1 Hs1 m x As g1 r1 f1 q1=>⟨Hs1,ρ,tot,_,sr.grow g1,q1,fun u H2 Hs2 n y Bs g2 r2 f2 q2=>?_⟩⟩
 refine br Hs2 H2 m x v As n y u Bs _ _ g2.wf (r1.grow g2) r2 q2 fun z H3 Hs3 m3 d3 As3 g3 r3 f3 q3=>?_
 have rr:=r3.rep g3.wf
 cases rr with
 | bl k =>
  refine ⟨k,rfl,?_⟩
  have fin3:Fin K Hs3 H3 Q Qv:=Fin.after fin ((g1.trans g2).trans g3)
  cases k with
  | false=>exact fin3.sh g3.wf (.bl false) q3
  | true =>
   refine ⟨Hs3,ρ,tot,_,((sr.grow g1).grow g2).grow g3,q3,fun w H4 Hs4 l z As4 g4 r4 f4 q4=>?_⟩
   exact br' Hs4 H4 n y u Bs l z w As4 Q Qv g4.wf ((r2.grow g3).grow g4) r4 q4 (Fin.after fin3 g4)
 | _=>exact q3.elim
theorem xZ (ho:OpR X (compareOp op) r) (ho':OpR X (compareOp op') r') (br:Br2 K r f) (br':Br2 K r' g) (ha:QE X K a ta) (hb:QE X K b tb) (hc:QE X K c tc)
  (hm:lastMarks [op,op'] [b,c]=false:=by with_unfolding_all rfl):QT X K (.Compare a [op,op'] [b,c] pos) (wB (qG f g ta tb tc)):=by
 refine PT.imp (pt_chain ho ho' ha hb hc hm) fun σ H Qv h=>?_
 obtain ⟨Hs,ρ,tot,Q,sr,h,fin⟩:=h
 refine ug br br' σ H _ ⟨Hs,ρ,tot,_,sr,h,fun v H1 Hs1 m x As g1 r1 f1 q1=>?_⟩
 have r:=r1.rep g1.wf
 cases r with
 | bl b=>exact ⟨b,rfl,fin b H1 Hs1 g1 q1⟩
 | _=>exact q1.elim
def wAnd (t u:WT):WT:=fun ρ Q=>t ρ fun c=>if c=true then u ρ Q else Q false
def wOr (t u:WT):WT:=fun ρ Q=>t ρ fun c=>if c=true then Q true else u ρ Q
def wNot (t:WT):WT:=fun ρ Q=>t ρ fun c=>Q (!c)
variable {tA tB:WT} {rest:List Expr}
theorem mR {t u:WT} {f:Bool->TT} {σ:St} {H:Hp} {Qv:Bool->Hp->Prop} {G:Bool->(Bool->Prop)->Env->Prop}
  (h:tpT K (fun ρ Q=>t ρ fun c=>G c Q ρ) σ H Qv)
  (i:∀ c H1 Hs1 ρ tot Q,SRel K Hs1 ρ σ H1 tot->G c Q ρ->(∀ b H' Hs',Grow Hs1 H1 Hs' H'->Q b->Qv b H')->f c σ H1 Qv):tpT K t σ H fun c H1=>f c σ H1 Qv:=by
 obtain ⟨Hs,ρ,tot,Q,sr,h,fin⟩:=h
 exact ⟨Hs,ρ,tot,_,sr,h,fun c H1 Hs1 g1 q1=>i c H1 Hs1 ρ tot Q (sr.grow g1) q1 fun b H' Hs' g2=>fin b H' Hs' (g1.trans g2)⟩
theorem oV (ha:QT X K a tA):QW X K (.BoolOp .And [a] pos) tA:=pw_and1 ha
theorem sW (ha:QT X K a tA):QW X K (.BoolOp .Or [a] pos) tA:=pw_or1 ha
theorem pC (ha:QT X K a tA) (hb:QW X K (.BoolOp .And (b :: rest) pos) tB):QW X K (.BoolOp .And (a :: b :: rest) pos) (wAnd tA tB):=by
 refine PW.imp (pw_and ha hb) fun σ H Qv h=>?_
 refine mR (u:=tB) (f:=fun c σ H1 Q=>if c=true then tpT K tB σ H1 Q else Q false H1) h fun c H1 Hs1 ρ tot Q sr q fin=>?_
 cases c with
 | true=>exact ⟨Hs1,ρ,tot,Q,sr,q,fin⟩
 | false=>exact fin false H1 Hs1 (Grow.refl sr.wf) q
theorem wu (ha:QT X K a tA) (hb:QW X K (.BoolOp .Or (b :: rest) pos) tB):QW X K (.BoolOp .Or (a :: b :: rest) pos) (wOr tA tB):=by
 refine PW.imp (pw_or ha hb) fun σ H Qv h=>?_
 refine mR (u:=tB) (f:=fun c σ H1 Q=>if c=true then Q true H1 else tpT K tB σ H1 Q) h fun c H1 Hs1 ρ tot Q sr q fin=>?_
 cases c with
 | true=>exact fin true H1 Hs1 (Grow.refl sr.wf) q
 | false=>exact ⟨Hs1,ρ,tot,Q,sr,q,fin⟩
theorem qt_w (h:QW X K a tA):QT X K a tA:=h _
theorem qg (ha:QT X K a tA):QT X K (.UnaryOp .Not a pos) (wNot tA):=by
 refine PT.imp (pt_not ha) fun σ H Qv h=>?_
 exact mR (u:=tA) (f:=fun c σ H1 Q=>Q (!c) H1) h fun c H1 Hs1 ρ tot Q sr q fin=>fin _ H1 Hs1 (Grow.refl sr.wf) q
def wIf (t:WT) (ta tb:WE):WE:=fun ρ Q=>t ρ fun c=>if c=true then ta ρ Q else tb ρ Q
theorem q_if (hc:QT X K c tA) (ha:QE X K a ta) (hb:QE X K b tb):QE X K (.IfExp c a b pos) (wIf tA ta tb):=by
 refine PE.imp (pe_ifExp hc ha hb) fun σ H Qv hx=>ex4 hx fun Hs ρ tot Q sr h fin=>?_
 refine ⟨Hs,ρ,tot,_,sr,h,fun k H1 Hs1 g1 q1=>?_⟩
 cases k with
 | true=>exact ⟨Hs1,ρ,tot,Q,sr.grow g1,q1,Fin.after fin g1⟩
 | false=>exact ⟨Hs1,ρ,tot,Q,sr.grow g1,q1,Fin.after fin g1⟩
def truD:D->Option Bool
 | .non=>some false
 | .bl b=>some b
 | .int i=>some (i != 0)
 | .str x=>some ((x.length:Int) != 0)
 | .list xs=>some !xs.isEmpty
 | .tup xs=>some !xs.isEmpty
 | .dK kvs=>none
 | .dT kvs=>none
end
def fAdd:W2:=fun m x n y Q=>match x,y with
 | .int i,.int j=>Q .sh (.int (i+j))
 | .str i,.str j=>i.length+j.length<=sizeLine/\Q .sh (.str (i++j))
 | .list xs,.list ys=>xs.length+ys.length<=sizeLine/\((flats xs=true/\flats ys=true/\Q (.ow true) (.list (xs++ys)))\/(m=.sh/\n=.sh/\Q (.ow false) (.list (xs++ys))))
 | .tup xs,.tup ys=>xs≠[]/\xs.length+ys.length<=sizeLine/\flats xs=true/\flats ys=true/\Q .sh (.tup (xs++ys))
 | _,_=>False
def int2 (P:Int->Int->(Md->D->Prop)->Prop):W2:=fun _ x _ y Q=>match x,y with
 | .int i,.int j=>P i j Q
 | _,_=>False
def is2 (P:Int->Int->(Md->D->Prop)->Prop) (S:Str->Str->(Md->D->Prop)->Prop):W2:=fun _ x _ y Q=>match x,y with
 | .int i,.int j=>P i j Q
 | .str i,.str j=>S i j Q
 | _,_=>False
def fSub:W2:=int2 fun i j Q=>Q .sh (.int (i - j))
def fMul:W2:=int2 fun i j Q=>CMul i j/\Q .sh (.int (i * j))
def fDiv:W2:=int2 fun i j Q=>(0<j/\j<1073741824)/\Q .sh (.int (i / j))
def fMod:W2:=int2 fun i j Q=>0<j/\Q .sh (.int (i % j))
def fPow:W2:=int2 fun i j Q=>CPow i j/\Q .sh (.int (i ^ j.toNat))
def fLt:W2:=is2 (fun i j Q=>Q .sh (.bl (decide (i<j)))) fun i j Q=>Q .sh (.bl (ltS i j))
def fLe:W2:=is2 (fun i j Q=>Q .sh (.bl (decide (i<=j)))) fun i j Q=>Q .sh (.bl (!ltS j i))
def fGe:W2:=int2 fun i j Q=>Q .sh (.bl (decide (j<=i)))
def fEq:W2:=fun _ x _ y Q=>match x,y with
 | .int i,.int j=>Q .sh (.bl (decide (i=j)))
 | .str i,.str j=>Q .sh (.bl (decide (i=j)))
 | .bl i,.bl j=>Q .sh (.bl (decide (i=j)))
 | _,_=>okD 12 x=true/\okD 12 y=true/\Q .sh (.bl (eqD x y))
def fNe:W2:=fun _ x _ y Q=>match x,y with
 | .int i,.int j=>Q .sh (.bl (!decide (i=j)))
 | .str i,.str j=>Q .sh (.bl (!decide (i=j)))
 | .bl i,.bl j=>Q .sh (.bl (!decide (i=j)))
 | _,_=>okD 12 x=true/\okD 12 y=true/\Q .sh (.bl (!eqD x y))
def D.isN:D->Bool
 | .non=>true
 | _=>false
def Ax:W2:=fun _ x _ y Q=>match y with
 | .non=>Q .sh (.bl (!x.isN))
 | _=>False
def gj:D->Bool
 | .non=>true
 | .bl _=>true
 | .int _=>true
 | .str _=>true
 | _=>false
def inD (x:D) (ys:List D):Bool:=ys.any fun y=>eqD y x
def fIn (neg:Bool):W2:=fun _ x _ y Q=>match y with
 | .str j=>match x with
  | .str i=>Q .sh (.bl (if neg then !inS i j else inS i j))
  | _=>False
 | .list ys=>gj x=true/\ys.all gj=true/\Q .sh (.bl (if neg then !inD x ys else inD x ys))
 | .tup ys=>gj x=true/\ys.all gj=true/\Q .sh (.bl (if neg then !inD x ys else inD x ys))
 | .dK kvs=>∃ k,x.key1=some k/\Q .sh (.bl (if neg then !(getG kvs k).isSome else (getG kvs k).isSome))
 | .dT kvs=>match x with
  | .tup xs=>∃ ks,dM xs=some ks/\Q .sh (.bl (if neg then !(getG kvs ks).isSome else (getG kvs ks).isSome))
  | _=>False
 | _=>False
section
variable {K:PySem.W.Frag}
theorem Br2.flatV (h:∀ Hs H m x v As n y u Bs Qd Qv,Wf Hs H->RM K Hs H m x v As->RM K Hs H n y u Bs->f m x n y Qd->Fin K Hs H Qd Qv->r v u H Qv):Br2 K r f:=h
theorem zM (f:Fin K Hs H Qd Qv) (w:Wf Hs H) (h:x.length<=sizeLine) (q:Qd .sh (.str x)):Qv (.str x) H:=f.sh w (.str h) q
theorem cF (i j:Str):(i++j).length=i.length+j.length:=by
 show ((i++j).cps.size)=_
 show (i.cps++j.cps).size=_
 simp [Str.length]
theorem Ej:Br2 K (fun x y H Q=>xM K x y H Q\/rCatT K x y H Q) fAdd:=by
 intro Hs H m x v As n y u Bs Qd Qv w rx ry h f
 have r1:=rx.rep w
 have r2:=ry.rep w
 unfold fAdd at h
 cases r1 with
 | int i=>cases r2 with
  | int j=>exact .inl (f.sh w (.int _) h)
  | _=>exact h.elim
 | str hi=>cases r2 with
  | str hj=>exact .inl ⟨h.1,zM f w (by rw [cF]; exact h.1) h.2⟩
  | _=>exact h.elim
 | list z1 s1 q1=>cases r2 with
  | list z2 s2 q2 =>
   have l1:=q1.length
   have l2:=q2.length
   have hz:=h.1
   rcases h.2 with ⟨f1,f2,q⟩ | ⟨rfl,rfl,q⟩
   ·refine .inl ⟨_,_,s1,s2,by lia,?_⟩
    exact f.lst w (by rw [xam]; exact hz) (q1.append q2) (by rw [iT,f1,f2]; rfl) q
   ·obtain ⟨_,rx⟩:=rx
    obtain ⟨_,ry⟩:=ry
    cases rx with
    | list z1' s1' q1'=>cases ry with
     | list z2' s2' q2' =>
      have l1:=q1'.length
      have l2:=q2'.length
      refine .inl ⟨_,_,Same.seq w.sub s1',Same.seq w.sub s2',by lia,?_⟩
      exact f.lstS w (by rw [xam]; exact hz) (q1'.append q2') q
  | _=>exact h.elim
 | tup t1 s1 q1=>cases r2 with
  | tup t2 s2 q2 =>
   have l1:=q1.length
   have l2:=q2.length
   obtain ⟨hne,hz,f1,f2,q⟩:=h
   refine .inr ⟨_,_,_,_,rfl,rfl,.inl (.inl s1),.inl (.inl s2),?_,by lia,?_⟩
   ·intro e
    subst e
    exact hne (xbw.mp l1)
   ·refine ⟨fun e=>?_,fun _=>f.tup w (by rw [xam]; exact hz) (q1.append q2) (by rw [iT,f1,f2]; rfl) q⟩
    subst e
    cases q2
    rw [xaE] at q
    exact f.flat w (.tup t1 s1 q1) (by simpa [D.flat] using f1) q
  | _=>exact h.elim
 | _=>exact h.elim
theorem yZ {H:Hp} {x y:D} {v u:V} {m n:Md} {P:Int->Int->(Md->D->Prop)->Prop} {S:Str->Str->(Md->D->Prop)->Prop} {Q:Md->D->Prop} {G:Prop} (r1:Rep K H x v) (r2:Rep K H y u) (h:is2 P S m x n y Q) (k:∀ i j,v=.int i->u=.int j->P i j Q->G) (ks:∀ i j,v=.str i->u=.str j->S i j Q->G):G:=by
 cases r1 with
 | int i=>cases r2 with
  | int j=>exact k i j rfl rfl h
  | _=>exact h.elim
 | str hi=>cases r2 with
  | str hj=>exact ks _ _ rfl rfl h
  | _=>exact h.elim
 | _=>exact h.elim
theorem iy {H:Hp} {x y:D} {v u:V} {m n:Md} {P:Int->Int->(Md->D->Prop)->Prop} {Q:Md->D->Prop} {G:Prop} (r1:Rep K H x v) (r2:Rep K H y u) (h:int2 P m x n y Q) (k:∀ i j,v=.int i->u=.int j->P i j Q->G):G:=by
 cases r1 with
 | int i=>cases r2 with
  | int j=>exact k i j rfl rfl h
  | _=>exact h.elim
 | _=>exact h.elim
theorem Cq:Br2 K zR fSub:=by
 intro Hs H m x v As n y u Bs Qd Qv w rx ry h f
 exact iy (rx.rep w) (ry.rep w) h fun i j e1 e2 q=>by
  subst e1 e2
  exact f.sh w (.int _) q
theorem Di:Br2 K zV fMul:=by
 intro Hs H m x v As n y u Bs Qd Qv w rx ry h f
 exact iy (rx.rep w) (ry.rep w) h fun i j e1 e2 q=>by
  subst e1 e2
  exact ⟨q.1,f.sh w (.int _) q.2⟩
theorem Es:Br2 K Aw fDiv:=by
 intro Hs H m x v As n y u Bs Qd Qv w rx ry h f
 exact iy (rx.rep w) (ry.rep w) h fun i j e1 e2 q=>by
  subst e1 e2
  exact ⟨q.1,f.sh w (.int _) q.2⟩
theorem DQ:Br2 K zA fMod:=by
 intro Hs H m x v As n y u Bs Qd Qv w rx ry h f
 exact iy (rx.rep w) (ry.rep w) h fun i j e1 e2 q=>by
  subst e1 e2
  exact ⟨q.1,f.sh w (.int _) q.2⟩
theorem CK:Br2 K Bw fPow:=by
 intro Hs H m x v As n y u Bs Qd Qv w rx ry h f
 exact iy (rx.rep w) (ry.rep w) h fun i j e1 e2 q=>by
  subst e1 e2
  exact ⟨q.1,f.sh w (.int _) q.2⟩
theorem Gp:Br2 K rGeU fGe:=by
 intro Hs H m x v As n y u Bs Qd Qv w rx ry h f
 exact iy (rx.rep w) (ry.rep w) h fun i j e1 e2 q=>by
  subst e1 e2
  exact f.sh w (.bl _) q
theorem qC:Br2 K rLtU fLt:=by
 intro Hs H m x v As n y u Bs Qd Qv w rx ry h f
 exact yZ (rx.rep w) (ry.rep w) h (fun i j e1 e2 q=>by
  subst e1 e2
  exact f.sh w (.bl _) q) fun i j e1 e2 q=>by
  subst e1 e2
  exact f.sh w (.bl _) q
theorem FJ:Br2 K rLeU fLe:=by
 intro Hs H m x v As n y u Bs Qd Qv w rx ry h f
 exact yZ (rx.rep w) (ry.rep w) h (fun i j e1 e2 q=>by
  subst e1 e2
  exact f.sh w (.bl _) q) fun i j e1 e2 q=>by
  subst e1 e2
  exact f.sh w (.bl _) q
theorem eq_data (w:Wf Hs H) (rx:Rep K H x v) (ry:Rep K H y u) (f:Fin K Hs H Qd Qv) (h:okD 12 x=true/\okD 12 y=true/\Qd .sh (.bl (eqD x y))):rEqD K v u H Qv:=by
 obtain ⟨h1,h2,q⟩:=h
 have l1:=su 12 x h1
 have l2:=su 12 y h2
 exact ⟨x.py,y.py,rx.l2 h1,ry.l2 h2,l1.1,l2.1,by lia,f.sh w (.bl _) q⟩
theorem ne_data (w:Wf Hs H) (rx:Rep K H x v) (ry:Rep K H y u) (f:Fin K Hs H Qd Qv) (h:okD 12 x=true/\okD 12 y=true/\Qd .sh (.bl (!eqD x y))):rNeD K v u H Qv:=by
 obtain ⟨h1,h2,q⟩:=h
 have l1:=su 12 x h1
 have l2:=su 12 y h2
 exact ⟨x.py,y.py,rx.l2 h1,ry.l2 h2,l1.1,l2.1,by lia,f.sh w (.bl _) q⟩
theorem iG:Br2 K (rEqU K) fEq:=by
 intro Hs H m x v As n y u Bs Qd Qv w rx ry h f
 have r1:=rx.rep w
 have r2:=ry.rep w
 have d:=fun h=>eq_data (Qd:=Qd) (Qv:=Qv) w r1 r2 f h
 cases r1 with
 | int i=>cases r2 with
  | int j=>exact f.sh w (.bl _) h
  | _=>exact d h
 | str i=>cases r2 with
  | str j=>exact f.sh w (.bl _) h
  | _=>exact d h
 | bl i=>cases r2 with
  | bl j=>exact f.sh w (.bl _) h
  | _=>exact d h
 | _=>exact d h
theorem rQ:Br2 K (rNeU K) fNe:=by
 intro Hs H m x v As n y u Bs Qd Qv w rx ry h f
 have r1:=rx.rep w
 have r2:=ry.rep w
 have d:=fun h=>ne_data (Qd:=Qd) (Qv:=Qv) w r1 r2 f h
 cases r1 with
 | int i=>cases r2 with
  | int j=>exact f.sh w (.bl _) h
  | _=>exact d h
 | str i=>cases r2 with
  | str j=>exact f.sh w (.bl _) h
  | _=>exact d h
 | bl i=>cases r2 with
  | bl j=>exact f.sh w (.bl _) h
  | _=>exact d h
 | _=>exact d h
theorem vQ (r:Rep K H x v):decide (v=V.non)=x.isN:=by
 cases r <;> first | rfl | exact decide_eq_false (fun z=>nomatch z)
theorem BL:Br2 K (fun x y H Q=>y=.non/\Q (.bl (!decide (x=.non))) H) Ax:=by
 intro Hs H m x v As n y u Bs Qd Qv w rx ry h f
 have r1:=rx.rep w
 have r2:=ry.rep w
 have e:=vQ r1
 cases r2 with
 | non=>exact ⟨rfl,by rw [e]; exact f.sh w (.bl _) h⟩
 | _=>exact h.elim
theorem kj (r:Rep K H x v) (h:gj x=true):flatV v=true:=by
 cases r <;> first | rfl | (simp [gj] at h)
theorem Bo (r:Rep K H x v) (s:Rep K H y u) (h:gj x=true) (g:gj y=true):eqV v u=eqD x y:=by
 cases r <;> simp [gj] at h <;> cases s <;> simp [gj] at g <;> rfl
theorem Ci (r:Rep K H x v) (h:gj x=true) (rs:Reps K H ys us) (g:ys.all gj=true):us.all flatV=true/\inV v us=inD x ys:=by
 induction ys generalizing us with
 | nil=>rw [rs.n0]; exact ⟨rfl,rfl⟩
 | cons y ys ih =>
  obtain ⟨u,us,rfl,s,ss⟩:=rs.c
  simp only [xbp,xay] at g
  obtain ⟨e1,e2⟩:=ih ss g.2
  refine ⟨by simp only [xbp,kj s g.1,e1,Bool.and_self],?_⟩
  unfold inV inD at *
  rw [xbq,xbq,e2,Bo s r g.1 h]
theorem oY {κ:Type} [DecidableEq κ] {H:Hp} {k:κ} {kvs:List (κ × D)} {vs:List V} (r:Reps K H (kvs.map (·.2)) vs):(valV ((kvs.map (·.1)).zip vs) k).isSome=(getG kvs k).isSome:=by
 have:=zip_get (k:=k) r
 split at this
 ·rename_i e
  obtain ⟨v,e1,_⟩:=this
  rw [e1,e]; rfl
 ·rename_i e
  rw [this,e]; rfl
theorem rW:Br2 K (rInU K neg) (fIn neg):=by
 intro Hs H m x v As n y u Bs Qd Qv w rx ry h f
 have r1:=rx.rep w
 have r2:=ry.rep w
 cases r2 with
 | str j=>cases r1 with
  | str i=>exact f.sh w (.bl _) h
  | _=>exact h.elim
 | list z s q =>
  obtain ⟨h1,h2,h3⟩:=h
  obtain ⟨e1,e2⟩:=Ci r1 h1 q h2
  have h4:=kj r1 h1
  have g:rIn K neg v (.ref _) H Qv:=⟨_,_,rfl,.inl s,h4,e1,by rw [e2]; exact f.sh w (.bl _) h3⟩
  cases r1 <;> exact .inr g
 | tup _ s q =>
  obtain ⟨h1,h2,h3⟩:=h
  obtain ⟨e1,e2⟩:=Ci r1 h1 q h2
  have h4:=kj r1 h1
  have g:rIn K neg v (.ref _) H Qv:=⟨_,_,rfl,.inr (.inl (.inl s)),h4,e1,by rw [e2]; exact f.sh w (.bl _) h3⟩
  cases r1 <;> exact .inr g
 | dK kk e q =>
  obtain ⟨k,hk,h3⟩:=h
  have ev:=r1.key hk
  subst ev
  have eg:=oY (k:=k) q
  cases k <;> exact .inl ⟨_,DGet.k' e,by rw [eg]; exact f.sh w (.bl _) h3⟩
 | dT kk e q =>
  cases r1 with
  | tup t1 e1 q1 =>
   obtain ⟨ks,hk,h3⟩:=h
   obtain ⟨b,eb,e2⟩:=Rep.keyT (.tup t1 e1 q1) hk
   cases eb
   have eg:=oY (k:=ks) q
   exact .inl ⟨_,DGet.t' e e2,by rw [eg]; exact f.sh w (.bl _) h3⟩
  | _=>exact h.elim
 | _=>exact h.elim
end
section
variable {X:Cx} {K:PySem.W.Frag} {a b:Expr} {ta tb:WE} {pos:Pos}
theorem Hl (hK:X.K=K:=by rfl):OpR X (binaryOp .Add) (fun x y H Q=>xM K x y H Q\/rCatT K x y H Q):=by subst hK; exact zJ.or op_catT
theorem cP (ha:QE X K a ta) (hb:QE X K b tb) (hK:X.K=K:=by rfl):QE X K (.BinOp a .Add b pos) (wOp fAdd ta tb):=q_op (Hl hK) Ej ha hb
theorem uJ (ha:QE X K a ta) (hb:QE X K b tb):QE X K (.BinOp a .Sub b pos) (wOp fSub ta tb):=q_op z7 Cq ha hb
theorem Gb (ha:QE X K a ta) (hb:QE X K b tb):QE X K (.BinOp a .Mult b pos) (wOp fMul ta tb):=q_op zP Di ha hb
theorem eX (ha:QE X K a ta) (hb:QE X K b tb):QE X K (.BinOp a .FloorDiv b pos) (wOp fDiv ta tb):=q_op zx Es ha hb
theorem cO (ha:QE X K a ta) (hb:QE X K b tb):QE X K (.BinOp a .Mod b pos) (wOp fMod ta tb):=q_op Ak DQ ha hb
theorem Cw (ha:QE X K a ta) (hb:QE X K b tb):QE X K (.BinOp a .Pow b pos) (wOp fPow ta tb):=q_op Bg CK ha hb
def fNeg:W1:=fun _ x Q=>match x with
 | .int i=>Q .sh (.int (-i))
 | _=>False
theorem En:Br1 K (rU fun i=>.int (-i)) fNeg:=by
 intro Hs H m x v As Qd Qv w rx h f
 have r1:=rx.rep w
 cases r1 with
 | int i=>exact ⟨i,rfl,f.sh w (.int _) h⟩
 | _=>exact h.elim
theorem Cu (ha:QE X K a ta):QE X K (.UnaryOp .USub a pos) (wUn fNeg ta):=q_un un_neg En ha
end
def wNil:WA:=fun _ Q=>Q []
def ak (te:WE) (t:WA):WA:=fun ρ Q=>te ρ fun m x=>t ρ fun ps=>Q ((m,x) :: ps)
def okSh:Md × D->Bool
 | (.sh,_)=>true
 | (_,d)=>d.flat
def okOw:Md × D->Bool
 | (.bo,d)=>d.flat
 | _=>true
def okFl:Md × D->Bool
 | (.ow true,_)=>true
 | (_,d)=>d.flat
def pJ (ps:List (Md × D)):Md:=bif ps.all okSh then .sh else bif ps.all okOw then .ow (ps.all okFl) else .bo
def Al (ps:List (Md × D)):Md:=bif ps.all okOw then .ow (ps.all okFl) else .bo
def wTup (t:WA):WE:=fun ρ Q=>t ρ fun ps=>ps.length<=sizeLine/\Q (pJ ps) (.tup (ps.map (·.2)))
def wLst (t:WA):WE:=fun ρ Q=>t ρ fun ps=>ps.length<=sizeLine/\Q (Al ps) (.list (ps.map (·.2)))
section
variable {X:Cx} {K:PySem.W.Frag} {e:Expr} {es:List Expr} {te:WE} {t:WA} {pos:Pos} {Hs H:Hp}
theorem aq:QA X K [] wNil:=PA.imp pa_nil fun σ H Qv hx=>ex4 hx fun Hs ρ tot Q sr h f=>f [] H Hs [] [] (Grow.refl sr.wf) .nil cL.nil h
theorem cL.app (f1:cL Hs1 H As) (o:∀ a∈As,H1 a≠none) (f2:cL Hs2 H1 Bs) (s:Same H H1) (k:∀ a,Hs1 a=none->H1 a≠none->Hs2 a=none):cL Hs2 H (As++Bs) :=
 ⟨xaj.mpr ⟨f1.1,f2.1,fun a ha b hb e=>by subst e; exact o a ha (f2.2 a hb).2⟩,fun a h=>by
  rcases xaf.mp h with h | h
  ·exact ⟨k a (f1.2 a h).1 (o a h),(f1.2 a h).2⟩
  ·exact ⟨(f2.2 a h).1,s.free (f2.2 a h).2⟩⟩
theorem aa (ha:QE X K e te) (hr:QA X K es t) (hs:starEach (e :: es) X.env=(false,eval e X.env) :: starEach es X.env:=by rfl):QA X K (e :: es) (ak te t):=by
 refine PA.imp (pa_cons ha hr hs) fun σ H Qv hx=>ex4 hx fun Hs ρ tot Q sr h f=>?_
 refine ⟨Hs,ρ,tot,_,sr,h,fun v H1 Hs1 m x As g1 r1 f1 q1=>⟨Hs1,ρ,tot,_,sr.grow g1,q1,fun vs H2 Hs2 ps Bs g2 r2 f2 q2=>?_⟩⟩
 exact f (v :: vs) H2 Hs2 _ _ (g1.trans g2) (.cons (r1.grow g2) r2) (f1.app (fun a h=>(r1.own a h).ne) f2 g1.all fun a h1 h2=>g2.hsn h1 h2) q2
theorem RMs.sh (w:Wf Hs H) {ps:List (Md × D)} (r:RMs K Hs H ps vs As):ps.all okSh=true->Reps K Hs (ps.map (·.2)) vs:=by
 induction r with
 | nil=>exact fun _=>.nil
 | @cons m d v ps vs As Bs r rs ih =>
  intro h
  simp only [xbp,xay] at h
  refine .cons ?_ (ih h.2)
  cases m with
  | sh=>exact r.2
  | ow fl=>exact r.flat w h.1
  | bo=>exact r.flat w h.1
theorem RMs.ow (w:Wf Hs H) {ps:List (Md × D)} (r:RMs K Hs H ps vs As):ps.all okOw=true->(fl=true->ps.all okFl=true)->∃ Bs,Bs.Sublist As/\(ps.all okSh=false->Bs≠[])/\az K Hs H fl (ps.map (·.2)) vs Bs:=by
 induction r with
 | nil=>exact fun _ _=>⟨[],xaW _,(fun z=>Bool.noConfusion z),.nil⟩
 | @cons m d v ps vs A1 Cs r rs ih =>
  intro h hf
  simp only [xbp,xay] at h hf
  obtain ⟨Bs,sb,ne,q⟩:=ih h.2 fun z=>(hf z).2
  have sk:([]++Bs).Sublist (A1++Cs):=by simpa using sb.trans (xan _ _)
  have flt:d.flat=true->okSh (m,d)=true->∃ Bs,Bs.Sublist (A1++Cs)/\(((m,d) :: ps).all okSh=false->Bs≠[])/\az K Hs H fl (((m,d) :: ps).map (·.2)) (v :: vs) Bs:=fun hd ho =>
   ⟨[]++Bs,sk,fun z=>ne (by rw [xbp,ho] at z; simpa using z),.cons (.sh (fun _=>hd) (r.flat w hd)) q⟩
  cases m with
  | sh=>exact ⟨[]++Bs,sk,fun z=>ne (by simpa [okSh] using z),.cons (.sh (fun z=>(hf z).1) r.2) q⟩
  | bo=>exact flt h.1 h.1
  | ow b =>
   cases hd:d.flat with
   | true=>exact flt hd hd
   | false =>
    refine ⟨A1++Bs,sb.append_left _,fun _ z=>r.2 (xbg.mp z).1,.cons ?_ q⟩
    cases fl with
    | false=>exact RepO.fls r.1
    | true =>
     have:=(hf rfl).1
     cases b with
     | true=>exact r.1
     | false=>simp [okFl,hd] at this
theorem nq:∀ {ps:List (Md × D)},flats (ps.map (·.2))=true->ps.all okSh=true
 | [],_=>rfl
 | (m,d) :: ps,h=>by
  simp only [xaq,flats,xay] at h
  simp only [xbp,xay]
  exact ⟨by cases m <;> simp [okSh,h.1],nq h.2⟩
theorem cu {x1} (h:QA X K es t):QE X K (.Tuple es x1 pos) (wTup t):=by
 refine PE.imp (pe_tup h) fun σ H Qv hx=>ex4 hx fun Hs ρ tot Q sr h f=>?_
 refine ⟨Hs,ρ,tot,_,sr,h,fun vs H1 Hs1 ps As g1 r1 f1 q1=>?_⟩
 obtain ⟨hz,q⟩:=q1
 have rl:=(r1.reps g1.wf)
 have hl:=rl.length
 rw [xad] at hl
 refine ⟨by lia,fun p hp=>?_⟩
 have g2:=newT (vs:=vs) g1.wf hp
 have fin:=Fin.after f g1
 unfold pJ at q
 cases h1:ps.all okSh with
 | true =>
  rw [h1] at q
  exact fin _ _ _ .sh _ [] g2 ⟨rfl,.tup (by lia) upd_same ((r1.sh g1.wf h1).same g2.sh)⟩ cL.nil q
 | false =>
  rw [h1] at q
  cases h2:ps.all okOw with
  | false =>
   rw [h2] at q
   exact fin _ _ _ .bo _ [] g2 ⟨rfl,.tup (by lia) upd_same (rl.same g2.all)⟩ cL.nil q
  | true =>
   rw [h2] at q
   obtain ⟨Bs,sb,nz,ro⟩:=r1.ow (fl:=ps.all okFl) g1.wf h2 fun z=>z
   have hne:flats (ps.map (·.2))=false:=by
    cases hf:flats (ps.map (·.2)) with
    | false=>rfl
    | true=>rw [nq hf] at h1; cases h1
   have own:=ro.own
   refine f _ _ _ (.ow _) _ Bs (g1.trans g2) ⟨.tup (by lia) upd_same hne (ro.grow g2.sh g2.all),nz h1⟩ ⟨sb.nodup f1.1,fun a ha=>⟨?_,(f1.2 a (sb.subset ha)).2⟩⟩ q
   exact g2.hsn (f1.2 a (sb.subset ha)).1 (own a ha).ne
theorem gG (h:QA X K es t):QE X K (.List es pos) (wLst t):=by
 refine PE.imp (pe_lst h) fun σ H Qv hx=>ex4 hx fun Hs ρ tot Q sr h f=>?_
 refine ⟨Hs,ρ,tot,_,sr,h,fun vs H1 Hs1 ps As g1 r1 f1 q1=>?_⟩
 obtain ⟨hz,q⟩:=q1
 have rl:=(r1.reps g1.wf)
 have hl:=rl.length
 rw [xad] at hl
 refine ⟨by lia,fun p hp=>?_⟩
 have g2:=newL (o:=.lst vs) g1.wf hp fun _ z=>nomatch z
 have fin:=Fin.after f g1
 unfold Al at q
 cases h2:ps.all okOw with
 | false =>
  rw [h2] at q
  exact fin _ _ _ .bo _ [] g2 ⟨rfl,.list (by lia) (.inl (.inl upd_same)) (rl.same g2.all)⟩ cL.nil q
 | true =>
  rw [h2] at q
  obtain ⟨Bs,sb,nz,ro⟩:=r1.ow (fl:=ps.all okFl) g1.wf h2 fun z=>z
  have own:=ro.own
  refine f _ _ _ (.ow _) _ (p :: Bs) (g1.trans g2) ⟨.list (by lia) upd_same (ro.grow g2.sh g2.all),by simp⟩ ⟨xax.mpr ⟨fun m=>(own p m).ne hp,sb.nodup f1.1⟩,fun a ha=>?_⟩ q
  rcases xak.mp ha with rfl | ha
  ·exact ⟨g1.wf.sub.free hp,g1.all.free hp⟩
  ·exact ⟨g2.hsn (f1.2 a (sb.subset ha)).1 (own a ha).ne,(f1.2 a (sb.subset ha)).2⟩
end
theorem Reps.atI {K:PySem.W.Frag} (r:Reps K H ds vs) (h:atI ds i=some d):∃ v,L2.atI vs i=some v/\Rep K H d v:=by
 unfold L2.atI at *
 rw [<- r.length]
 cases e:ixN ds.length i with
 | none=>rw [e] at h; cases h
 | some j =>
  rw [e] at h
  exact r.get h
def fIx:W2:=fun m x _ y Q=>match x with
 | .list xs=>match y with
  | .int i=>∃ d,atI xs i=some d/\onK d (f:=fun d=>Q (itm m d) d) ⟨⟩
  | _=>False
 | .tup xs=>match y with
  | .int i=>∃ d,atI xs i=some d/\onK d (f:=fun d=>Q (itm m d) d) ⟨⟩
  | _=>False
 | .str z=>match y with
  | .int i=>∃ c,atI z.cps.toList i=some c/\Q .sh (.str ⟨#[c]⟩)
  | _=>False
 | .dK kvs=>∃ k d,y.key1=some k/\getG kvs k=some d/\onK d (f:=fun d=>Q (itm m d) d) ⟨⟩
 | .dT kvs=>match y with
  | .tup ys=>∃ ks d,dM ys=some ks/\getG kvs ks=some d/\onK d (f:=fun d=>Q (itm m d) d) ⟨⟩
  | _=>False
 | _=>False
def rIxD (K:PySem.W.Frag):R2:=fun x y H Q=>rIxU K x y H Q\/∃ a v,x=.ref a/\DGet H a y (some v)/\Q v H
theorem Ag (c:Nat):(⟨#[c]⟩:Str).length<=sizeLine:=by show 1<=sizeLine; decide
theorem RM.here {K:PySem.W.Frag} (w:Wf Hs H) (r:RM K Hs H m d v As):(m=.sh/\Rep K Hs d v)\/(m≠.sh/\Rep K H d v):=by
 cases m with
 | sh=>exact .inl ⟨rfl,r.2⟩
 | ow fl=>exact .inr ⟨(fun z=>nomatch z),r.rep w⟩
 | bo=>exact .inr ⟨(fun z=>nomatch z),r.2⟩
section
variable {X:Cx} {K:PySem.W.Frag}
theorem G3:Br2 K (rIxD K) fIx:=by
 intro Hs H m x v As n y u Bs Qd Qv w rx ry h f
 have r2:=ry.rep w
 have core:∀ G:Hp,Same G H->(∀ d v,Rep K G d v->Rep K H d v/\(m=.sh->Rep K Hs d v))->Rep K G x v->rIxD K v u H Qv:=by
  intro G sg up r1
  cases r1 with
  | list z s q =>
   cases r2 with
   | int i =>
    obtain ⟨d,e,h⟩:=h
    obtain ⟨v',e',r'⟩:=q.atI e
    obtain ⟨u1,u2⟩:=up _ _ r'
    exact .inl (.inl ⟨_,v',Same.seq sg s,e',f.itm w u1 u2 h⟩)
   | _=>exact h.elim
  | tup _ s q =>
   cases r2 with
   | int i =>
    obtain ⟨d,e,h⟩:=h
    obtain ⟨v',e',r'⟩:=q.atI e
    obtain ⟨u1,u2⟩:=up _ _ r'
    exact .inl (.inr ⟨_,v',.inl (.inl (sg _ _ s)),e',f.itm w u1 u2 h⟩)
   | _=>exact h.elim
  | str hz =>
   cases r2 with
   | int i =>
    obtain ⟨c,e,h⟩:=h
    exact .inl ⟨hz,c,e,f.sh w (.str (Ag c)) h⟩
   | _=>exact h.elim
  | dK kk s q =>
   obtain ⟨k,d,hk,hg,h⟩:=h
   have ev:=r2.key hk
   subst ev
   have z:=zip_get (k:=k) q
   rw [hg] at z
   obtain ⟨v',e',r'⟩:=z
   obtain ⟨u1,u2⟩:=up _ _ r'
   exact .inr ⟨_,v',rfl,by rw [<- e']; exact DGet.k' (Same.rd sg s),f.itm w u1 u2 h⟩
  | dT kk s q =>
   cases r2 with
   | tup t2 e2 q2 =>
    obtain ⟨ks,d,hk,hg,h⟩:=h
    obtain ⟨b,eb,e3⟩:=Rep.keyT (.tup t2 e2 q2) hk
    cases eb
    have z:=zip_get (k:=ks) q
    rw [hg] at z
    obtain ⟨v',e',r'⟩:=z
    obtain ⟨u1,u2⟩:=up _ _ r'
    exact .inr ⟨_,v',rfl,by rw [<- e']; exact DGet.t' (Same.rd sg s) e3,f.itm w u1 u2 h⟩
   | _=>exact h.elim
  | _=>exact h.elim
 rcases rx.here w with ⟨hm,r⟩ | ⟨hm,r⟩
 ·exact core Hs w.sub (fun d v q=>And.intro (q.same w.sub) fun _=>q) r
 ·exact core H (Same.refl H) (fun d v q=>And.intro q fun z=>absurd z hm) r
theorem kIxD (hu:X.A.units+64<cLine) (hK:X.K=K:=by rfl):IxR X (rIxD K):=by
 subst hK
 refine IxR.or Dv ?_
 intro value slice pins s σ H x y v u Q I rx ry h hs
 obtain ⟨a,w,rfl,g,q⟩:=h
 cases rx
 exact tail_any (dict_typeIs I g) F.slot_dict_getitem.lookup (d_getItem (by lia) I g ry fun w' s3 I3 rw'=>⟨w,H,I3,rw',q⟩) hs
variable {a b:Expr} {ta tb:WE} {pos:Pos}
theorem q_ix (hu:X.A.units+64<cLine) (ha:QE X K a ta) (hb:QE X K b tb) (hs:PlainIx b:=by exact fun _ _=>rfl) (hK:X.K=K:=by rfl):QE X K (.Subscript a b pos) (wOp fIx ta tb):=PE.imp (pe_ix (kIxD hu hK) ha hb hs) (jL G3)
end
def cutG {α:Type} (xs:List α) (lo hi:Option Int):List α:=(xs.drop (HT.sIx xs.length 0 lo)).take (HT.sIx xs.length xs.length hi - HT.sIx xs.length 0 lo)
abbrev WO:=Env->(Option Int->Prop)->Prop
def nZ:WO:=fun _ Q=>Q none
def q_ (t:WE):WO:=fun ρ Q=>t ρ fun _ x=>match x with
 | .int i=>Q (some i)
 | _=>False
def fSl (m:Md) (x:D) (lo hi:Option Int) (Q:Md->D->Prop):Prop:=match x with
 | .str z=>Q .sh (.str (cutS z lo hi))
 | .list xs=>(flats xs=true/\Q (.ow true) (.list (cutG xs lo hi)))\/(m=.sh/\Q (.ow false) (.list (cutG xs lo hi)))
 | .tup xs=>flats xs=true/\¬ (HT.sIx xs.length 0 lo=0/\HT.sIx xs.length xs.length hi=xs.length)/\Q .sh (.tup (cutG xs lo hi))
 | _=>False
def wSl (te:WE) (tl th:WO):WE:=fun ρ Q=>te ρ fun m x=>tl ρ fun lo=>th ρ fun hi=>fSl m x lo hi Q
def tpO (K:PySem.W.Frag) (t:WO):TO:=fun σ H Qv=>∃ Hs ρ tot Q,SRel K Hs ρ σ H tot/\t ρ Q/\∀ o H' Hs',Grow Hs H Hs' H'->Q o->Qv o H'
abbrev QO (X:Cx) (K:PySem.W.Frag) (e:Option Expr) (t:WO):Prop:=PO X e (tpO K t)
theorem tK (z:Str) (lo hi:Option Int):(cutS z lo hi).length<=z.length:=by
 unfold cutS Str.length
 simp only [xav,xaC,xa8,xaY]
 lia
theorem jh {α:Type} (xs:List α) (lo hi:Option Int):(cutG xs lo hi).length<=xs.length:=by
 unfold cutG
 rw [xaC,xa8]
 lia
theorem pU {lo hi:Option Int} (h:flats xs=true):flats (cutG xs lo hi)=true:=by
 rw [jR] at *
 intro x hx
 exact h x (xbF (xbG hx))
section
variable {X:Cx} {K:PySem.W.Frag} {e:Expr} {lo hi:Option Expr} {te:WE} {tl th:WO} {pos p2:Pos}
theorem wI:QO X K none nZ:=fun pins s σ H Q I h=>po_none pins s σ H Q I (by
 obtain ⟨Hs,ρ,tot,Qd,sr,h,f⟩:=h
 exact f none H Hs (Grow.refl sr.wf) h)
theorem mV (h:QE X K e te):QO X K (some e) (q_ te):=fun pins s σ H Q I hh=>po_some h pins s σ H Q I (by
 obtain ⟨Hs,ρ,tot,Qd,sr,h,f⟩:=hh
 refine ⟨Hs,ρ,tot,_,sr,h,fun v H1 Hs1 m x As g1 r1 f1 q1=>?_⟩
 have r:=r1.rep g1.wf
 cases r with
 | int i=>exact ⟨i,rfl,f _ H1 Hs1 g1 q1⟩
 | _=>exact q1.elim)
theorem jm {lo hi:Option Int} (r:Reps K H ds vs):Reps K H (cutG ds lo hi) (cutV vs lo hi):=by
 unfold cutG cutV
 rw [r.length]
 exact (r.drop _).take _
theorem kSl2 (hK:X.K=K:=by rfl):SlR X (fun x lo hi H Q=>rSlS K x lo hi H Q\/rSlT K x lo hi H Q):=by
 subst hK
 intro pins s σ H x v vl vu lo hi sl Q I rx hs pl pu h
 rcases h with h | h
 ·exact Du pins s σ H x v vl vu lo hi sl Q I rx hs pl pu h
 ·exact sl_tup pins s σ H x v vl vu lo hi sl Q I rx hs pl pu h
theorem qU (he:QE X K e te) (hl:QO X K lo tl) (hh:QO X K hi th) (hK:X.K=K:=by rfl):QE X K (.Subscript e (.Slice lo hi none p2) pos) (wSl te tl th):=by
 refine PE.imp (pe_slice (kSl2 hK) he hl hh) fun σ H Qv hx=>ex4 hx fun Hs ρ tot Q sr h f=>?_
 refine ⟨Hs,ρ,tot,_,sr,h,fun v H1 Hs1 m x As g1 r1 f1 q1=>⟨Hs1,ρ,tot,_,sr.grow g1,q1,fun l H2 Hs2 g2 q2=>⟨Hs2,ρ,tot,_,(sr.grow g1).grow g2,q2,fun u H3 Hs3 g3 q3=>?_⟩⟩⟩
 have r3:=(r1.grow g2).grow g3
 have fin:Fin K Hs3 H3 Q Qv:=Fin.after f ((g1.trans g2).trans g3)
 have rr:=r3.rep g3.wf
 cases rr with
 | str hz=>exact .inl ⟨hz,fin.sh g3.wf (.str (xaz (tK _ _ _) hz)) q3⟩
 | list z s q =>
  have hz:=q.length
  rcases q3 with ⟨hf,q3⟩ | ⟨rfl,q3⟩
  ·exact .inl ⟨_,s,fin.lst g3.wf (xaz (jh _ _ _) (by lia)) (jm q) (pU hf) q3⟩
  ·obtain ⟨_,r3⟩:=r3
   cases r3 with
   | list z' s' q' =>
    have hz:=q'.length
    exact .inl ⟨_,Same.seq g3.wf.sub s',fin.lstS g3.wf (xaz (jh _ _ _) (by lia)) (jm q') q3⟩
 | tup z s q =>
  have hz:=q.length
  obtain ⟨hf,hn,q3⟩:=q3
  exact .inr ⟨_,_,rfl,.inl (.inl s),by rw [<- hz]; exact hn,fin.tup g3.wf (xaz (jh _ _ _) (by lia)) (jm q) (pU hf) q3⟩
 | _=>exact q3.elim
end
def fLen:W1:=fun _ x Q=>match x with
 | .str z=>Q .sh (.int z.length)
 | .list xs=>Q .sh (.int xs.length)
 | .tup xs=>Q .sh (.int xs.length)
 | .dK kvs=>Q .sh (.int kvs.length)
 | .dT kvs=>Q .sh (.int kvs.length)
 | _=>False
def fIsi (T:String):W1:=fun _ x Q=>Q .sh (.bl (isiT x.ty T))
def BrC (K:PySem.W.Frag) (r:List V->Hp->VK->Prop) (f:W1):Prop:=∀ Hs H m x v As Qd Qv,Wf Hs H->RM K Hs H m x v As->f m x Qd->Fin K Hs H Qd Qv->r [v] H Qv
section
variable {X:Cx} {K:PySem.W.Frag} {e:Expr} {te:WE} {pos p:Pos} {x:Str} {id T:String}
theorem mL (br:BrC K r f) (σ:St) (H:Hp) (Qv:VK) (h:tpE K (wUn f te) σ H Qv):tCB r (tCons (tpE K te) tNil) σ H Qv:=by
 obtain ⟨Hs,ρ,tot,Q,sr,h,fin⟩:=h
 exact ⟨Hs,ρ,tot,_,sr,h,fun v H1 Hs1 m x As g1 r1 f1 q1=>br Hs1 H1 m x v As Q Qv g1.wf r1 q1 (Fin.after fin g1)⟩
theorem fX (hc:CallR X (.builtin id) r) (br:BrC K r f) (hg:Gl X x) (hm:X.mg x=none) (hv:bootBuiltins x=some (.builtin id)) (he:QE X K e te)
  (hs:starEach [e] X.env=(false,eval e X.env) :: starEach [] X.env:=by rfl) (hn:x ≠ "__name__" := by decide) (hdb:(x == ("__debug__" : Str))=false:=by decide):QE X K (.Call (.Name x p) [e] [] pos) (wUn f te) :=
 PE.imp (pe_callB hc hg hm hv (pa_cons he pa_nil hs) hn hdb hs) (mL br)
theorem oN (hc:CallR X (.type T) r) (br:BrC K r f) (hg:Gl X x) (hm:X.mg x=none) (hv:bootBuiltins x=some (.type T)) (he:QE X K e te)
  (hs:starEach [e] X.env=(false,eval e X.env) :: starEach [] X.env:=by rfl) (hn:x ≠ "__name__" := by decide) (hdb:(x == ("__debug__" : Str))=false:=by decide):QE X K (.Call (.Name x p) [e] [] pos) (wUn f te) :=
 PE.imp (pe_callTy hc hg hm hv (pa_cons he pa_nil hs) hn hdb hs) (mL br)
theorem Av (hd:(d == sysModules)=false) (x:RawD s.heap d es ep) (hfit:(es.size:Int)<2 ^ 63)
  (h:∀ t t',Q (.int es.size t) { s with toks:=t' }):wpAny (model prog w) A (call (.builtin "len") [.ref d]) Q E s:=by
 refine Calls.call_function_entry kind_len plain_len entry_len (args_len1 _) ?_
 have mt:MeetsIn prog w (Builtin.«dict.__len__» ⟨[.ref d],[]⟩) (fun _ R s=>RawD s.heap d es ep/\R (.ok (.ret (.int es.size s.toks))) { s with toks:=s.toks+1 }):=.of_wp fun A R s hx9=>by
  obtain ⟨hm,h⟩:=hx9
  obtain ⟨o,ho,hc,hdat⟩:=hm
  show wpAny _ _ (dictSize d >>= _) _ _ s
  unfold dictSize
  refine xaa (xaa (wpAny_dictEntries ho hdat (xae ?_)))
  show wpAny _ _ (Builtin.Dict.pendingCount d >>= _) _ _ s
  refine xaa (wpAny_pendingCount_other hd ?_)
  refine wpAny_ret_mkInt ?_
  rw [xcq]; exact h
 unfold Builtin.«len»
 refine xaa (m:=oneArg "len" _) (xae ?_)
 refine xaa (m:=callSpecial? (.ref d) (Str.ofString "__len__")) (wpAny_callSpecial?_slot (name:=Str.ofString "__len__") x.typ F.slot_dict_len
  (call_meetsIn F.slot_dict_len x.typ F.entry_dict_len (F.args_dict_len_1 _) mt ⟨x,?_⟩))
 show wpAny _ _ _ _ _ { s with toks:=s.toks+1 }
 refine xaa (wpAny_holding (xae ?_))
 refine xaa (wpAny_letGo ?_)
 show wpAny _ _ (if ((es.size:Nat):Int)<0 then _ else _) _ _ _
 rw [if_neg (by lia)]
 show wpAny _ _ (if ((es.size:Nat):Int) >= 2 ^ 63 then _ else _) _ _ _
 rw [if_neg (by lia)]
 exact xaa (wpAny_mkInt (xae ⟨_,rfl,h _ _⟩))
theorem cX (hK:X.K=K:=by rfl):CallR X (.builtin "len") (fun xs H Q=>rLen K xs H Q\/∃ a kvs,xs=[.ref a]/\Rd H a (.dT kvs)/\Q (.int kvs.length) H):=by
 subst hK
 intro pins s σ H xs us Q I r h
 rcases h with h | ⟨a,kvs,rfl,ha,q⟩
 ·exact wF pins s σ H xs us Q I r h
 ·obtain ⟨u,rfl,ru⟩:=Vals.one r
  cases ru
  obtain ⟨z,hd,ys,rel,o,es,ep,h1,h2,h3,h4,h5⟩:=(show ObjOk X.prog X.w H s.heap a (.dT kvs) from I.rd ha)
  have hl:es.size=kvs.length:=by
   have:=congrArg List.length h4
   rw [xaY,xad] at this
   rw [this]; exact rel.length.symm
  exact Av hd ⟨o,h1,h2,h3⟩ (by rw [sizeLine_eq] at z; lia) fun t t'=>⟨.int kvs.length,H,I.tok _,⟨t,by rw [hl]⟩,q⟩
theorem mK:BrC K (fun xs H Q=>rLen K xs H Q\/∃ a kvs,xs=[.ref a]/\Rd H a (.dT kvs)/\Q (.int kvs.length) H) fLen:=by
 intro Hs H m x v As Qd Qv w rx h f
 have r1:=rx.rep w
 cases r1 with
 | str hz=>exact .inl ⟨hz,f.sh w (.int _) h⟩
 | list z s q=>exact .inl (.inl ⟨_,s,by rw [<- q.length]; exact f.sh w (.int _) h⟩)
 | tup _ s q=>exact .inl (.inr (.inl ⟨_,.inl (.inl s),by rw [<- q.length]; exact f.sh w (.int _) h⟩))
 | dK kk s q=>exact .inl (.inr (.inr ⟨_,s,by
   have:=q.length
   rw [xad] at this
   rw [xbn,xad,<- this,xcc]
   exact f.sh w (.int _) h⟩))
 | dT kk s q=>exact .inr ⟨_,_,rfl,s,by
   have:=q.length
   rw [xad] at this
   rw [xbn,xad,<- this,xcc]
   exact f.sh w (.int _) h⟩
 | _=>exact h.elim
end
section
variable {X:Cx} {K:PySem.W.Frag} {e e2:Expr} {te:WE} {pos p:Pos} {T:String}
theorem uV (hK:X.K=K:=by rfl):CallR X (.builtin "isinstance") (fun xs H Q=>∃ x d T,xs=[x,.ty T]/\Rep K H d x/\okTy T=true/\Q (.bl (isiT d.ty T)) H):=by
 subst hK
 intro pins s σ H xs us Q I r h
 obtain ⟨x,d,T,rfl,rd,hT,q⟩:=h
 obtain ⟨u,v,rfl,ru,rv⟩:=Vals.two r
 obtain rfl:v=Value.type T:=rv
 have hb:T∈["str", "int", "bool", "list", "tuple", "dict"]:=by simpa [okTy] using hT
 have fin:∀ tk,EP X pins σ Q (.bool (isiT d.ty T)) { s with toks:=tk }:=fun tk=>⟨.bl (isiT d.ty T),H,I.tok tk,rfl,q⟩
 cases rd with
 | non=>exact isinst_ok I ru .non (iY X.K _ T (by simp) hb) fin
 | bl b=>exact isinst_ok I ru (.bl b) (iY X.K _ T (by simp) hb) fin
 | int i=>exact isinst_ok I ru (.int i) (iY X.K _ T (by simp) hb) fin
 | str y=>exact isinst_ok I ru (.str _) (iY X.K _ T (by simp) hb) fin
 | list z s' q' =>
  cases ru
  obtain ⟨its,_,pl,_⟩:=I.list s'
  obtain ⟨o,h1,h2,_⟩:=pl.isList
  exact PySem.W.kia_one PySem.W.kitx_list I.kIn ⟨o,h1,h2⟩ (iY X.K "list" T (by simp) hb) (fun z=>nomatch z) fin
 | tup _ s' q'=>exact isinst_ok I ru (.tup s') (iY X.K _ T (by simp) hb) fin
 | dK _ s' q' =>
  cases ru
  obtain ⟨_,_,vs,_,p⟩:=I.rd s'
  obtain ⟨o,es,ep,h1,h2,_⟩:=p
  exact PySem.W.kia_one PySem.W.kitx_dict I.kIn ⟨o,h1,h2.1⟩ (iY X.K "dict" T (by simp) hb) (fun z=>nomatch z) fin
 | dT _ s' q' =>
  cases ru
  obtain ⟨_,_,xs,_,o,es,ep,h1,h2,_⟩:=I.rd s'
  exact PySem.W.kia_one PySem.W.kitx_dict I.kIn ⟨o,h1,h2.1⟩ (iY X.K "dict" T (by simp) hb) (fun z=>nomatch z) fin
theorem Ek (hm:X.mg "isinstance" = none) (he:QE X K e te) (ht:PE X e2 (tC (.ty T))) (hT:okTy T=true:=by rfl) (hg:Gl X "isinstance" := by rfl) (hK:X.K=K:=by rfl)
  (hs:starEach (e :: [e2]) X.env=(false,eval e X.env) :: starEach [e2] X.env:=by rfl) (hs2:starEach (e2 :: []) X.env=(false,eval e2 X.env) :: starEach [] X.env:=by rfl) (hpl:(backTo pos (starEach [e2] X.env)).any (·.1)=false:=by rfl) :
  QE X K (.Call (.Name "isinstance" p) [e,e2] [] pos) (wUn (fIsi T) te):=by
 refine PE.imp (pe_callB (uV hK) hg hm g8 (pa_cons he (pa_cons ht pa_nil hs2) hs) (by decide) (by decide) hs hpl) fun σ H Qv hx=>ex4 hx fun Hs ρ tot Q sr h f=>?_
 refine ⟨Hs,ρ,tot,_,sr,h,fun v H1 Hs1 m x As g1 r1 f1 q1=>⟨v,x,T,rfl,r1.rep g1.wf,hT,Fin.sh (Fin.after f g1) g1.wf (.bl _) q1⟩⟩
end
def keyD:Key->D
 | .inl i=>.int i
 | .inr x=>.str x
def ue:W1:=fun m x Q=>match x with
 | .list xs=>(flats xs=true/\Q (.ow true) (.list xs))\/(m=.sh/\Q (.ow false) (.list xs))
 | .tup xs=>(flats xs=true/\Q (.ow true) (.list xs))\/(m=.sh/\Q (.ow false) (.list xs))
 | .dT kvs=>Q (.ow true) (.list (kvs.map fun kv=>.tup (kv.1.map keyD)))
 | _=>False
section
variable {X:Cx} {K:PySem.W.Frag}
theorem tY:∀ {ks:List Key},(∀ k∈ks,kOk k=true)->Reps K H (ks.map keyD) (ks.map kV)
 | [],_=>.nil
 | k :: ks,h=>by
  refine .cons ?_ (tY fun j m=>h j (xab _ m))
  have:=h k xac
  cases k with
  | inl i=>exact .int i
  | inr x=>exact .str (by simpa [kOk] using this)
theorem qF:∀ (ks:List Key),flats (ks.map keyD)=true
 | []=>rfl
 | k :: ks=>by simp only [xaq,flats,qF ks,Bool.and_true]; cases k <;> rfl
theorem tZ (t:cT H ys ks) (h:∀ l∈ks,l.length<=sizeLine/\∀ k∈l,kOk k=true):Reps K H (ks.map fun l=>.tup (l.map keyD)) ys:=by
 induction ys generalizing ks with
 | nil=>rw [show ks=[] from Paired.n0 t]; exact .nil
 | cons y ys ih =>
  obtain ⟨k,ks,rfl,⟨b,rfl,e⟩,t2⟩:=Paired.c t
  exact .cons (.tup (by rw [xad]; exact (h _ xac).1) e (tY (h _ xac).2)) (ih t2 fun l m=>h l (xab _ m))
theorem jF:∀ (ks:List (List Key)),flats (ks.map fun l=>.tup (l.map keyD))=true
 | []=>rfl
 | l :: ks=>by simp only [xaq,flats,jF ks,Bool.and_true,D.flat,qF]
theorem mJ (hc:X.calm=true:=by rfl) (hK:X.K=K:=by rfl):CallR X (.type "list") (fun xs H Q=>(∃ p ys,xs=[.ref p]/\(SqL K H p ys\/SqT K H p ys)/\∀ l,H l=none->Q (.ref l) (upd H l (.lst ys)))\/t_ xs H Q):=by
 subst hK; exact call_list_of.or (uG hc)
theorem vC:BrC K (fun xs H Q=>(∃ p ys,xs=[.ref p]/\(SqL K H p ys\/SqT K H p ys)/\∀ l,H l=none->Q (.ref l) (upd H l (.lst ys)))\/t_ xs H Q) ue:=by
 intro Hs H m x v As Qd Qv w rx h f
 have r1:=rx.rep w
 cases r1 with
 | list z s q =>
  have hl:=q.length
  rcases h with ⟨hf,h⟩ | ⟨rfl,h⟩
  ·exact .inl ⟨_,_,rfl,.inl s,f.lst w (by lia) q hf h⟩
  ·obtain ⟨_,rx⟩:=rx
   cases rx with
   | list z' s' q' =>
    have hl:=q'.length
    exact .inl ⟨_,_,rfl,.inl (Same.seq w.sub s'),f.lstS w (by lia) q' h⟩
 | tup z s q =>
  have hl:=q.length
  rcases h with ⟨hf,h⟩ | ⟨rfl,h⟩
  ·exact .inl ⟨_,_,rfl,.inr (.inl (.inl s)),f.lst w (by lia) q hf h⟩
  ·obtain ⟨_,rx⟩:=rx
   cases rx with
   | tup z' s' q' =>
    have hl:=q'.length
    exact .inl ⟨_,_,rfl,.inr (.inl (.inl (w.sub _ _ s'))),f.lstS w (by lia) q' h⟩
 | @dT _ vs kvs kk s q =>
  refine .inr ⟨_,s,fun ys l ht hl=>?_⟩
  have hlen:=q.length
  rw [xad] at hlen
  have e:((kvs.map (·.1)).zip vs).map (·.1)=kvs.map (·.1):=xb3 (by rw [xad]; exact xcp hlen)
  rw [e] at ht
  have rr:=tZ (K:=K) ht (fun l m=>by
   obtain ⟨p,hp,rfl⟩:=xai.mp m
   exact kk.2 p hp)
  have ff:=jF (kvs.map (·.1))
  rw [xaG] at rr ff
  exact f.lst w (by rw [xad]; exact kk.1) rr ff h l hl
 | _=>exact h.elim
end
section
variable {K:PySem.W.Frag} {Hs H:Hp}
theorem SR.yM (r:Rep K Hs d v) (i:Nat) (s:SR K Hs H ρ σ tot):∃ tot',tot'.Sublist tot/\SR K Hs H (ρ.set i (some (.sh d))) (σ.set i (some v)) tot':=by
 induction s generalizing i with
 | nil=>exact ⟨[],xaW _,.nil⟩
 | non s ih =>
  cases i with
  | zero=>exact ⟨_,List.Sublist.refl _,.sh r s⟩
  | succ i=>obtain ⟨t,a,b⟩:=ih i; exact ⟨t,a,.non b⟩
 | sh q s ih =>
  cases i with
  | zero=>exact ⟨_,List.Sublist.refl _,.sh r s⟩
  | succ i=>obtain ⟨t,a,b⟩:=ih i; exact ⟨t,a,.sh q b⟩
 | xc s ih =>
  cases i with
  | zero=>exact ⟨_,List.Sublist.refl _,.sh r s⟩
  | succ i=>obtain ⟨t,a,b⟩:=ih i; exact ⟨t,a,.xc b⟩
 | ow ne q s ih =>
  cases i with
  | zero=>exact ⟨_,xan _ _,.sh r s⟩
  | succ i=>obtain ⟨t,a,b⟩:=ih i; exact ⟨_,a.append_left _,.ow ne q b⟩
 | lk ne q s ih =>
  cases i with
  | zero=>exact ⟨_,xan _ _,.sh r s⟩
  | succ i=>obtain ⟨t,a,b⟩:=ih i; exact ⟨_,a.append_left _,.lk ne q b⟩
theorem pD {As tot:List Addr} (nd:As.Nodup) (n:tot.Nodup) (dj:∀ a∈As,a∉tot):(As++tot).Nodup:=xaj.mpr ⟨nd,n,fun a ha b hb e=>dj a ha (e ▸ hb)⟩
theorem fY {As tot B t:List Addr} (n:(B++tot).Nodup) (dj:∀ a∈As,a∉B++tot) (a:t.Nodup) (b:∀ x∈t,x∈tot\/x∈As):(B++t).Nodup/\∀ x∈B++t,x∈B++tot\/x∈As:=by
 obtain ⟨n1,n2,n3⟩:=xaj.mp n
 refine ⟨xaj.mpr ⟨n1,a,fun x hx y hy e=>?_⟩,fun x hx=>?_⟩
 ·subst e
  rcases b x hy with z | z
  ·exact n3 x hx x z rfl
  ·exact dj x z (xap _ hx)
 ·rcases xaf.mp hx with z | z
  ·exact .inl (xap _ z)
  ·exact (b x z).imp (fun z=>xag _ z) fun z=>z
theorem SR.Ds {d:D} {v:V} {fl:Bool} {As:List Addr} (ne:As≠[]) (r:RepO K Hs H fl d v As) (nd:As.Nodup) {ρ:Env} {σ:St} {tot:List Addr} (i:Nat) (s:SR K Hs H ρ σ tot):tot.Nodup->(∀ a∈As,a∉tot) ->
  ∃ tot',tot'.Nodup/\(∀ a∈tot',a∈tot\/a∈As)/\SR K Hs H (ρ.set i (some (.ow fl d))) (σ.set i (some v)) tot':=by
 induction s generalizing i with
 | nil=>exact fun n _=>⟨[],xaB,(fun a h=>mem0 h),.nil⟩
 | non s ih =>
  intro n dj
  cases i with
  | zero=>exact ⟨_,pD nd n dj,fun a h=>(xaf.mp h).symm,.ow ne r s⟩
  | succ i=>obtain ⟨t,a,b,c⟩:=ih i n dj; exact ⟨t,a,b,.non c⟩
 | sh q s ih =>
  intro n dj
  cases i with
  | zero=>exact ⟨_,pD nd n dj,fun a h=>(xaf.mp h).symm,.ow ne r s⟩
  | succ i=>obtain ⟨t,a,b,c⟩:=ih i n dj; exact ⟨t,a,b,.sh q c⟩
 | xc s ih =>
  intro n dj
  cases i with
  | zero=>exact ⟨_,pD nd n dj,fun a h=>(xaf.mp h).symm,.ow ne r s⟩
  | succ i=>obtain ⟨t,a,b,c⟩:=ih i n dj; exact ⟨t,a,b,.xc c⟩
 | ow ne' q s ih =>
  intro n dj
  obtain ⟨n1,n2,n3⟩:=xaj.mp n
  have dj':=fun a ha m=>dj a ha (xag _ m)
  cases i with
  | zero=>exact ⟨_,pD nd n2 dj',fun a h=>(xaf.mp h).symm.imp (fun z=>xag _ z) fun z=>z,.ow ne r s⟩
  | succ i=>obtain ⟨t,a,b,c⟩:=ih i n2 dj'; exact ⟨_,(fY n dj a b).1,(fY n dj a b).2,.ow ne' q c⟩
 | lk ne' q s ih =>
  intro n dj
  obtain ⟨n1,n2,n3⟩:=xaj.mp n
  have dj':=fun a ha m=>dj a ha (xag _ m)
  cases i with
  | zero=>exact ⟨_,pD nd n2 dj',fun a h=>(xaf.mp h).symm.imp (fun z=>xag _ z) fun z=>z,.ow ne r s⟩
  | succ i=>obtain ⟨t,a,b,c⟩:=ih i n2 dj'; exact ⟨_,(fY n dj a b).1,(fY n dj a b).2,.lk ne' q c⟩
def asg:Md->D->Option Sl
 | .sh,d=>some (.sh d)
 | .ow fl,d=>some (.ow fl d)
 | .bo,d=>bif d.flat then some (.sh d) else none
theorem SRel.set (i:Nat) (s:SRel K Hs ρ σ H tot) (r:RM K Hs H m d v As) (nd:As.Nodup) (dj:∀ a∈As,Hs a=none/\a∉tot) (e:asg m d=some sl) :
  ∃ tot',SRel K Hs (ρ.set i (some sl)) (σ.set i (some v)) H tot':=by
 have shc:Rep K Hs d v->∃ tot',SRel K Hs (ρ.set i (some (.sh d))) (σ.set i (some v)) H tot':=fun r=>by
  obtain ⟨t,a,b⟩:=s.sr.yM r i
  exact ⟨t,b,s.wf,a.nodup s.nod,fun x hx=>s.own x (a.subset hx)⟩
 cases m with
 | sh=>cases e; exact shc r.2
 | ow fl =>
  cases e
  obtain ⟨t,a,b,c⟩:=SR.Ds r.2 r.1 nd i s.sr s.nod fun a ha=>(dj a ha).2
  exact ⟨t,c,s.wf,a,fun x hx=>(b x hx).elim (s.own x) fun z=>(dj x z).1⟩
 | bo =>
  cases hf:d.flat with
  | true =>
   simp only [asg,hf,cond_true,Option.some.injEq] at e
   subst e
   exact shc (r.flat s.wf hf)
  | false=>simp [asg,hf] at e
end
section
variable {X:Cx} {K:PySem.W.Frag} {e c:Expr} {te:WE} {tc:WT} {pos:Pos} {st:Stmt} {a b rest:List Stmt} {t u:WS}
theorem PS.imp {te te':TS} (h:PS X st te) (i:∀ D σ H,te' D σ H->te D σ H):PS X st te':=fun pins s σ H D I q=>h pins s σ H D I (i D σ H q)
theorem PSs.imp {te te':TS} (h:PSs X a te) (i:∀ D σ H,te' D σ H->te D σ H):PSs X a te':=fun pins s σ H D I q=>h pins s σ H D I (i D σ H q)
def cQ:WS:=fun E ρ=>E.nx ρ
def wSeq (t u:WS):WS:=fun E ρ=>t { E with nx:=u E } ρ
def wRet (te:WE):WS:=fun E ρ=>te ρ E.rt
def wSet (i:Nat) (te:WE):WS:=fun E ρ=>te ρ fun m d=>match asg m d with
 | some sl=>E.nx (ρ.set i (some sl))
 | none=>False
def wIfS (c:WT) (t u:WS):WS:=fun E ρ=>c ρ fun b=>if b=true then t E ρ else u E ρ
def tE:WS:=fun _ _=>False
theorem aW:QSs X K L [] cQ:=PSs.imp pss_nil fun D σ H hx=>fK hx fun Hs ρ tot E sr h k1 _ _ _=>k1 σ H Hs ρ tot (Same.refl _) sr h
theorem xO {D:Ends} (h:tpS K L (wSeq t u) D σ H):tSeq (tpS K L t) (tpS K L u) D σ H:=by
 obtain ⟨Hs,ρ,tot,E,sr,h,k1,k2,k3,k4,kx⟩:=h
 refine ⟨Hs,ρ,tot,{ E with nx:=u E },sr,h,fun σ' H' Hs' ρ' tot' s sr' q=>?_,k2,k3,k4,kx⟩
 exact ⟨Hs',ρ',tot',E,sr',q,fun σ2 H2 Hs2 ρ2 tot2 s2=>k1 σ2 H2 Hs2 ρ2 tot2 (s.trans s2),fun σ2 H2 Hs2 ρ2 tot2 s2=>k2 σ2 H2 Hs2 ρ2 tot2 (s.trans s2),fun σ2 H2 Hs2 ρ2 tot2 s2=>k3 σ2 H2 Hs2 ρ2 tot2 (s.trans s2),
  fun v H2 Hs2 m d As s2=>k4 v H2 Hs2 m d As (s.trans s2),fun n H2 s2=>kx n H2 (s.trans s2)⟩
theorem aj (h1:QS X K L st t) (h2:QSs X K L rest u):QSs X K L (st :: rest) (wSeq t u):=PSs.imp (pss_cons h1 h2) fun D σ H h=>xO h
theorem ao (h1:QS X K L st t):QSs X K L [st] t:=pss_one h1
theorem p_:QSs X K L a tE:=PSs.imp pss_never fun D σ H hx=>fK hx fun Hs ρ tot E sr h _ _ _ _=>h
theorem cM (he:QE X K e te):QS X K L (.Return (some e) pos) (wRet te):=PS.imp (ps_ret he) fun D σ H hx=>fK hx fun Hs ρ tot E sr h k1 k2 k3 k4 =>
 ⟨Hs,ρ,tot,_,sr,h,fun v H1 Hs1 m d As g1 r1 f1 q1=>k4 v H1 Hs1 m d As g1.sh g1.wf r1 f1.1 (fun a ha=>(f1.2 a ha).1) q1⟩
def pW (i:Nat):WS:=fun E ρ=>match ρ[i]? with
 | some (some (.sh d))=>E.rt .sh d
 | some (some (.ow fl d))=>E.rt (.ow fl) d
 | _=>False
theorem SR.at {ρ:Env} {σ:St} {tot:List Addr} {i:Nat} {fl:Bool} {d:D} {Hs H:Hp} (s:SR K Hs H ρ σ tot) (e:ρ[i]? = some (some (.ow fl d))):∃ v As,σ[i]? = some (some v)/\As≠[]/\RepO K Hs H fl d v As/\As.Sublist tot:=by
 induction s generalizing i with
 | nil=>simp at e
 | non s ih =>
  cases i with
  | zero=>simp at e
  | succ i=>exact ih e
 | sh r s ih =>
  cases i with
  | zero=>simp at e
  | succ i=>exact ih e
 | xc s ih =>
  cases i with
  | zero=>simp at e
  | succ i=>exact ih e
 | ow ne r s ih =>
  cases i with
  | zero=>simp at e; obtain ⟨rfl,rfl⟩:=e; exact ⟨_,_,rfl,ne,r,xa5 _ _⟩
  | succ i =>
   obtain ⟨v,As,a,b,c,d⟩:=ih e
   exact ⟨v,As,a,b,c,d.trans (xan _ _)⟩
 | lk ne r s ih =>
  cases i with
  | zero=>simp at e
  | succ i =>
   obtain ⟨v,As,a,b,c,d⟩:=ih e
   exact ⟨v,As,a,b,c,d.trans (xan _ _)⟩
theorem jP {i:Nat} (he:PE X e (tVar i)):QS X K L (.Return (some e) pos) (pW i):=PS.imp (ps_ret he) fun D σ H hx=>fK hx fun Hs ρ tot E sr h k1 k2 k3 k4=>by
 unfold pW at h
 split at h
 ·rename_i d e1
  obtain ⟨v,e2,r⟩:=sr.sr.get e1
  exact ⟨v,e2,k4 v H Hs .sh d [] (Same.refl _) sr.wf ⟨rfl,r⟩ xaB (fun a ha=>nomatch ha) h⟩
 ·rename_i fl d e1
  obtain ⟨v,As,e2,ne,r,sb⟩:=sr.sr.at e1
  exact ⟨v,e2,k4 v H Hs (.ow fl) d As (Same.refl _) sr.wf ⟨r,ne⟩ (sb.nodup sr.nod) (fun a ha=>sr.own a (sb.subset ha)) h⟩
 ·exact h.elim
theorem aH {i:Nat} {x:Str} {pos':Pos} (hN:X.N.Nodup) (hi:X.N[i]? = some x) (hx:Loc X.env.scope x) (he:QE X K e te) (hs:swapsWith e (some (.Name x pos')) pos.line X.env=pure false:=by rfl)
  (hf:X.fn x=true\/X.env.scope.names.lookup x=some .local:=by first | exact .inl rfl | exact .inr rfl | assumption):QS X K L (.Assign [.Name x pos'] e pos) (wSet i te):=PS.imp (ps_set hN hi hx he hs hf) fun D σ H hx=>fK hx fun Hs ρ tot E sr h k1 k2 k3 k4=>by
 refine ⟨Hs,ρ,tot,_,sr,h,fun v H1 Hs1 m d As g1 r1 f1 q1=>?_⟩
 have q1:match asg m d with
  | some sl=>E.nx (ρ.set i (some sl))
  | none=>False:=q1
 cases e:asg m d with
 | none=>rw [e] at q1; exact q1.elim
 | some sl =>
  rw [e] at q1
  obtain ⟨tot',s'⟩:=(sr.grow g1).set i r1 f1.1 (fun a ha=>⟨(f1.2 a ha).1,fun m=>(sr.sr.own a m).ne (f1.2 a ha).2⟩) e
  exact k1 _ H1 Hs1 _ tot' g1.sh s' q1
theorem cV (hc:QT X K c tc) (ha:QSs X K L a t) (hb:QSs X K L b u):QS X K L (.If c a b pos) (wIfS tc t u):=PS.imp (ps_if hc ha hb) fun D σ H hx=>dY hx fun Hs ρ tot E sr h k1 k2 k3 k4 kx=>by
 refine ⟨Hs,ρ,tot,_,sr,h,fun k H1 Hs1 g1 q1=>?_⟩
 have k1':∀ σ' H' Hs' ρ' tot',Same Hs1 Hs'->SRel K Hs' ρ' σ' H' tot'->E.nx ρ'->D.nx σ' H':=fun σ2 H2 Hs2 ρ2 tot2 s2=>k1 σ2 H2 Hs2 ρ2 tot2 (g1.sh.trans s2)
 have k2':∀ σ' H' Hs' ρ' tot',Same Hs1 Hs'->SRel K Hs' ρ' σ' H' tot'->E.bk ρ'->D.bk σ' H':=fun σ2 H2 Hs2 ρ2 tot2 s2=>k2 σ2 H2 Hs2 ρ2 tot2 (g1.sh.trans s2)
 have k3':∀ σ' H' Hs' ρ' tot',Same Hs1 Hs'->SRel K Hs' ρ' σ' H' tot'->E.ct ρ'->D.ct σ' H':=fun σ2 H2 Hs2 ρ2 tot2 s2=>k3 σ2 H2 Hs2 ρ2 tot2 (g1.sh.trans s2)
 cases k with
 | true=>exact ⟨Hs1,ρ,tot,E,sr.grow g1,q1,k1',k2',k3',(fun v H2 Hs2 m d As s2=>k4 v H2 Hs2 m d As (g1.sh.trans s2)),fun n H2 s2=>kx n H2 (g1.sh.trans s2)⟩
 | false=>exact ⟨Hs1,ρ,tot,E,sr.grow g1,q1,k1',k2',k3',(fun v H2 Hs2 m d As s2=>k4 v H2 Hs2 m d As (g1.sh.trans s2)),fun n H2 s2=>kx n H2 (g1.sh.trans s2)⟩
def frzH (Hs H:Hp) (As:List Addr):Hp:=fun a=>if a∈As then H a else Hs a
theorem jf (n:∀ a∈As,Hs a=none):Same Hs (frzH Hs H As):=fun a o e=>by
 unfold frzH
 rw [if_neg fun m=>by rw [n a m] at e; cases e]
 exact e
theorem yN (w:Wf Hs H) (o:∀ a∈As,Own H a):Wf (frzH Hs H As) H:=⟨fun a u e=>by
  unfold frzH at e
  by_cases m:a∈As
  ·rw [if_pos m] at e; exact e
  ·rw [if_neg m] at e; exact w.sub a u e,fun a vs e=>by
  unfold frzH
  rw [if_neg fun m=>(o a m).yP e]
  exact w.tups a vs e⟩
def shS:Sl->Sl
 | .sh d=>.sh d
 | .ow _ d=>.sh d
 | .lk a fl d=>.lk a fl d
 | .xc a=>.xc a
def shC:Sl->Sl
 | .sh d=>.sh d
 | .ow _ d=>.sh d
 | .lk _ _ d=>.sh d
 | .xc a=>.xc a
def frzE (i:Nat) (ρ:Env):Env:=match ρ[i]? with
 | some (some sl)=>ρ.set i (some (shS sl))
 | _=>ρ
theorem ni {As tot B t:List Addr} (n:(B++tot).Nodup) (a:As.Sublist tot) (c:∀ x∈As,x∉t):∀ x∈As,x∉B++t:=fun x hx m=>by
 obtain ⟨n1,n2,n3⟩:=xaj.mp n
 rcases xaf.mp m with z | z
 ·exact n3 x z x (a.subset hx) rfl
 ·exact c x hx z
theorem SR.frz (i:Nat) (s:SR K Hs H ρ σ tot):ρ[i]? = some (some (.ow fl d))->tot.Nodup ->
  ∃ (As tot':List Addr),As.Sublist tot/\tot'.Sublist tot/\(∀ a∈As,a∉tot')/\∀ Hs',Same Hs Hs'->(∀ a∈As,Hs' a=H a)->SR K Hs' H (ρ.set i (some (.sh d))) σ tot':=by
 induction s generalizing i with
 | nil=>intro e; simp at e
 | non q ih =>
  intro e n
  cases i with
  | zero=>simp at e
  | succ i =>
   obtain ⟨As,t,a,b,c,d⟩:=ih i e n
   exact ⟨As,t,a,b,c,fun Hs' s k=>.non (d Hs' s k)⟩
 | sh r q ih =>
  intro e n
  cases i with
  | zero=>simp at e
  | succ i =>
   obtain ⟨As,t,a,b,c,d⟩:=ih i e n
   exact ⟨As,t,a,b,c,fun Hs' s k=>.sh (r.same s) (d Hs' s k)⟩
 | xc q ih =>
  intro e n
  cases i with
  | zero=>simp at e
  | succ i =>
   obtain ⟨As,t,a,b,c,d⟩:=ih i e n
   exact ⟨As,t,a,b,c,fun Hs' s k=>.xc (d Hs' s k)⟩
 | ow ne r q ih =>
  intro e n
  obtain ⟨n1,n2,n3⟩:=xaj.mp n
  cases i with
  | zero =>
   simp at e
   obtain ⟨rfl,rfl⟩:=e
   exact ⟨_,_,xa5 _ _,xan _ _,fun a h m=>n3 a h a m rfl,fun Hs' s k=>.sh (r.rep s k) (q.stay s fun _ _=>rfl)⟩
  | succ i =>
   obtain ⟨As,t,a,b,c,d⟩:=ih i e n2
   exact ⟨As,_,a.trans (xan _ _),b.append_left _,ni n a c,fun Hs' s k=>.ow ne (r.stay s fun _ _=>rfl) (d Hs' s k)⟩
 | lk ne r q ih =>
  intro e n
  obtain ⟨n1,n2,n3⟩:=xaj.mp n
  cases i with
  | zero=>simp at e
  | succ i =>
   obtain ⟨As,t,a,b,c,d⟩:=ih i e n2
   exact ⟨As,_,a.trans (xan _ _),b.append_left _,ni n a c,fun Hs' s k=>.lk ne (r.stay s fun _ _=>rfl) (d Hs' s k)⟩
theorem SRel.frz (i:Nat) (s:SRel K Hs ρ σ H tot):∃ Hs' tot',Same Hs Hs'/\SRel K Hs' (frzE i ρ) σ H tot':=by
 unfold frzE
 split
 ·rename_i sl e
  have keep:shS sl=sl->∃ Hs' tot',Same Hs Hs'/\SRel K Hs' (ρ.set i (some (shS sl))) σ H tot':=fun hs=>by
   have e2:ρ.set i (some (shS sl))=ρ:=by
    apply xbC
    intro j
    rw [List.getElem?_set]
    by_cases h:i=j
    ·subst h
     rw [if_pos rfl,e]
     have:i<ρ.length:=(xaw.mp e).1
     simp [this,hs]
    ·rw [if_neg h]
   rw [e2]
   exact ⟨Hs,tot,Same.refl _,s⟩
  cases sl with
  | sh d=>exact keep rfl
  | xc a=>exact keep rfl
  | lk a fl d=>exact keep rfl
  | ow fl d =>
   obtain ⟨As,t,a,b,c,g⟩:=SR.frz i s.sr e s.nod
   have hn:∀ a∈As,Hs a=none:=fun x hx=>s.own x (a.subset hx)
   have ho:∀ a∈As,Own H a:=fun x hx=>s.sr.own x (a.subset hx)
   refine ⟨frzH Hs H As,t,jf hn,g _ (jf hn) fun x hx=>by unfold frzH; rw [if_pos hx],yN s.wf ho,b.nodup s.nod,fun x hx=>?_⟩
   unfold frzH
   rw [if_neg fun m=>c x m hx]
   exact s.own x (b.subset hx)
 ·exact ⟨Hs,tot,Same.refl _,s⟩
def wFrz (i:Nat) (t:WS):WS:=fun E ρ=>t E (frzE i ρ)
theorem xQ {D:Ends} (h:tpS K L (wFrz i t) D σ H):tpS K L t D σ H:=by
 obtain ⟨Hs,ρ,tot,E,sr,h,k1,k2,k3,k4,kx⟩:=h
 obtain ⟨Hs',tot',s,sr'⟩:=sr.frz i
 exact ⟨Hs',_,tot',E,sr',h,fun σ2 H2 Hs2 ρ2 tot2 s2=>k1 σ2 H2 Hs2 ρ2 tot2 (s.trans s2),fun σ2 H2 Hs2 ρ2 tot2 s2=>k2 σ2 H2 Hs2 ρ2 tot2 (s.trans s2),fun σ2 H2 Hs2 ρ2 tot2 s2=>k3 σ2 H2 Hs2 ρ2 tot2 (s.trans s2),
  fun v H2 Hs2 m d As s2=>k4 v H2 Hs2 m d As (s.trans s2),fun n H2 s2=>kx n H2 (s.trans s2)⟩
theorem aN (i:Nat) (h:QS X K L st t):QS X K L st (wFrz i t):=PS.imp h fun D σ H h=>xQ h
def kI (Hs1 H1 Hs' H':Hp):Hp:=fun a=>match H' a with
 | some (.tup vs)=>some (.tup vs)
 | _=>match H1 a with
  | none=>Hs' a
  | some _=>Hs1 a
theorem gW (w:Wf Hs1 H1) (s:Same H1 Hs') (w':Wf Hs' H'):Grow Hs1 H1 (kI Hs1 H1 Hs' H') H':=by
 have sa:Same H1 H':=s.trans w'.sub
 have tp:∀ a vs,H' a=some (.tup vs)->kI Hs1 H1 Hs' H' a=some (.tup vs):=fun a vs e=>by unfold kI; rw [e]
 have nt:∀ a,(∀ vs,H' a≠some (.tup vs))->kI Hs1 H1 Hs' H' a=match H1 a with
  | none=>Hs' a
  | some _=>Hs1 a:=fun a h=>by
  unfold kI
  split
  ·rename_i vs e; exact absurd e (h vs)
  ·rfl
 refine ⟨sa,fun a o e=>?_,⟨fun a o e=>?_,tp⟩,fun a h=>?_⟩
 ·have e1:=w.sub a o e
  have e2:=sa a o e1
  by_cases ht:∃ vs,o=.tup vs
  ·obtain ⟨vs,rfl⟩:=ht
   exact tp a vs e2
  ·rw [nt a fun vs z=>ht ⟨vs,by rw [e2] at z; exact Option.some.inj z⟩,e1]
   exact e
 ·by_cases ht:∃ vs,H' a=some (.tup vs)
  ·obtain ⟨vs,z⟩:=ht
   rw [tp a vs z] at e
   rw [z]; exact e
  ·rw [nt a fun vs z=>ht ⟨vs,z⟩] at e
   cases q:H1 a with
   | none=>rw [q] at e; exact w'.sub a o e
   | some u =>
    rw [q] at e
    have:=w.sub a o e
    exact sa a o this
 ·cases q:H1 a with
  | none=>exact .inr rfl
  | some u =>
   refine .inl ?_
   by_cases ht:∃ vs,H' a=some (.tup vs)
   ·obtain ⟨vs,z⟩:=ht
    have:=sa a u q
    rw [z] at this
    cases this
    rw [w.tups a vs q]
    exact fun z=>nomatch z
   ·rw [nt a fun vs z=>ht ⟨vs,z⟩,q] at h
    exact h
theorem uU {Hs1 H1 Hs' H':Hp} {a:Addr} (s:Same H1 Hs') (h:Hs' a=none) (o:Own H' a):kI Hs1 H1 Hs' H' a=none/\H1 a=none:=by
 have h1:=s.free h
 refine ⟨?_,h1⟩
 unfold kI
 split
 ·rename_i vs e; exact absurd e o.yP
 ·rw [h1]; exact h
def retM:Md->D->Md
 | .ow true,_=>.ow true
 | _,d=>bif d.flat then .sh else .bo
theorem rE (w:Wf Hs1 H1) (s:Same H1 Hs') (w':Wf Hs' H') (r:RM K Hs' H' m d v As) (nd:As.Nodup) (own:∀ a∈As,Hs' a=none) :
  ∃ As',RM K (kI Hs1 H1 Hs' H') H' (retM m d) d v As'/\cL (kI Hs1 H1 Hs' H') H1 As':=by
 have g:=gW w s w'
 have other:∃ As',RM K (kI Hs1 H1 Hs' H') H' (bif d.flat then .sh else .bo) d v As'/\cL (kI Hs1 H1 Hs' H') H1 As':=by
  cases hf:d.flat with
  | true=>exact ⟨[],⟨rfl,(r.rep w').iW g.wf.tups hf⟩,cL.nil⟩
  | false=>exact ⟨[],⟨rfl,r.rep w'⟩,cL.nil⟩
 cases m with
 | sh=>exact other
 | bo=>exact other
 | ow fl =>
  cases fl with
  | false=>exact other
  | true=>exact ⟨As,⟨RepO.leaves (fun a vs e=>g.wf.tups a vs (w'.sub _ _ e)) r.1,r.2⟩,nd,fun a h=>uU s (own a h) (r.own a h)⟩
abbrev SpD:=List D->(Md->D->Prop)->Prop
def aA (K:PySem.W.Frag) (sp:SpD):Sp:=fun vs H Qv _=>∃ ds Qd,Reps K H ds vs/\sp ds Qd /\
 ∀ v H' Hs' m d As,Same H Hs'->Wf Hs' H'->RM K Hs' H' m d v As->As.Nodup->(∀ a∈As,Hs' a=none)->Qd m d->Qv v H'
def aX (n:Nat) (ds:List D):Env:=ds.map (fun d=>some (.sh d))++List.replicate (n - ds.length) none
theorem SR.start (r:Reps K H ds vs):SR K H H (ds.map (fun d=>some (.sh d))++List.replicate n none) (vs.map some++List.replicate n none) []:=by
 induction ds generalizing vs with
 | nil =>
  rw [r.n0]
  induction n with
  | zero=>exact .nil
  | succ n ih=>exact .non ih
 | cons d ds ih =>
  obtain ⟨u,us,rfl,r,rs⟩:=r.c
  exact .sh r (ih rs)
theorem wR (h:aA K sp vs H Qv E) (hp:∀ ds Q,sp ds Q->t { nx:=fun _=>Q .sh .non,rt:=Q } (aX N.length ds)) :
  tpS K L0 t { nx:=fun _ H'=>Qv .non H',rt:=Qv } (start N vs) H:=by
 obtain ⟨ds,Qd,rs,hs,fin⟩:=h
 have hl:=rs.length
 refine ⟨H,aX N.length ds,[],{ nx:=fun _=>Qd .sh .non,rt:=Qd },⟨?_,⟨Same.refl _,fun _ _ e=>e⟩,xaB,fun a h=>nomatch h⟩,hp ds Qd hs,?_,?_,?_,?_,fun _ _ _ _=>trivial⟩
 ·unfold aX start
  rw [hl]
  exact SR.start rs
 ·exact fun σ' H' Hs' ρ' tot' s sr q=>fin .non H' Hs' .sh .non [] s sr.wf ⟨rfl,.non⟩ xaB (fun a h=>nomatch h) q
 ·exact fun σ' H' Hs' ρ' tot' s sr q=>q.elim
 ·exact fun σ' H' Hs' ρ' tot' s sr q=>q.elim
 ·exact fun v H' Hs' m d As s w r nd own q=>fin v H' Hs' m d As s w r nd own q
theorem FunQ.ok {P:Program} {st:Stmt} {N ps:List Str} (F:Fun K x qual st f fd) (S:FnScope N ps (defScope st)) (len:∀ ds Q,sp ds Q->ds.length=ps.length)
  (hbody:∀ (cdv:Value) (A:Around) (outer:List PySem.Env) (s:Shared) (H:Hp) (E:XK),Room k (A.deeper (envOfC qual (defScope st) s.heap.objs.size f cdv))->QSs (cxOf CX0 P w K mg base N qual (defScope st) f cdv A outer s H E).nox K L0 (defBody st) t)
  (hp:∀ ds Q,sp ds Q->t { nx:=fun _=>Q .sh .non,rt:=Q } (aX N.length ds)):FnOk P w K mg base CX0 (k+1) f fd ps (aA K sp) :=
 F.ok S (fun vs H Q E ⟨ds,Qd,rs,hs,_⟩=>by rw [<- rs.length]; exact len ds Qd hs) fun cdv A outer s H vs Q E hr hs=>⟨_,hbody cdv A outer s H E hr,wR hs hp⟩
def dg (sp:SpD) (t:WA):WE:=fun ρ Q=>t ρ fun ps=>sp (ps.map (·.2)) fun m d=>onK (m,d) (f:=fun p=>Q (retM p.1 p.2) p.2) ⟨⟩
theorem wO {sp:SpD} {t:WA} {σ:St} {H:Hp} {Qv:VK} {E:XK} (h:tpE K (dg sp t) σ H Qv):tCall (aA K sp) [] E (tpA K t) σ H Qv:=by
 obtain ⟨Hs,ρ,tot,Q,sr,h,f⟩:=h
 refine ⟨Hs,ρ,tot,_,sr,h,fun vs H1 Hs1 ps As g1 r1 f1 q1=>?_⟩
 refine ⟨_,_,by rw [xaE]; exact r1.reps g1.wf,q1,fun v H' Hs' m d As s w r nd own q=>?_⟩
 obtain ⟨As',r',fr⟩:=rE g1.wf s w r nd own
 exact Fin.after f g1 v H' _ (retM m d) d As' (gW g1.wf s w) r' fr q
theorem eF {k:Nat} {x:Str} {ps:List Str} {sp:SpD} {p:Pos} {es:List Expr} {t:WA} (C:Cal X.prog X.w X.K X.mg X.base k x ps (aA K sp)) (hr:Room k X.A) (ha:QA X K (e :: es) t) (hg:Gl X x:=by rfl) (hdb:(x == ("__debug__" : Str))=false:=by decide) (he:starEach (e :: es) X.env=(false,eval e X.env) :: starEach es X.env:=by rfl)
  (hpl:(backTo pos (starEach es X.env)).any (·.1)=false:=by rfl):QE X K (.Call (.Name x p) (e :: es) [] pos) (dg sp t):=PE.imp (Cm C hr ha hg hdb he hpl) fun σ H Qv h=>wO h
end
abbrev WG:=D->Env->(Env->Prop)->Prop
def tpG (K:PySem.W.Frag) (g:WG):TG:=fun v σ H Qv=>∃ Hs ρ tot d Q,SRel K Hs ρ σ H tot/\Rep K Hs d v/\g d ρ Q/\∀ σ' ρ' tot',SRel K Hs ρ' σ' H tot'->(∀ a∈tot',a∈tot)->Q ρ'->Qv σ' H
abbrev QG (X:Cx) (K:PySem.W.Frag) (e:Expr) (g:WG):Prop:=PG X e (tpG K g)
def gN (i:Nat):WG:=fun d ρ Q=>Q (ρ.set i (some (.sh d)))
abbrev WGs:=List D->Env->(Env->Prop)->Prop
def tpGs (K:PySem.W.Frag) (g:WGs):TGs:=fun vs σ H Qv=>∃ Hs ρ tot ds Q,SRel K Hs ρ σ H tot/\Reps K Hs ds vs/\g ds ρ Q/\∀ σ' ρ' tot',SRel K Hs ρ' σ' H tot'->(∀ a∈tot',a∈tot)->Q ρ'->Qv σ' H
abbrev QGs (X:Cx) (K:PySem.W.Frag) (es:List Expr) (g:WGs):Prop:=PGs X es (tpGs K g)
def ql:WGs:=fun ds ρ Q=>ds=[]/\Q ρ
def di (g:WG) (gs:WGs):WGs:=fun ds ρ Q=>match ds with
 | d :: ds=>g d ρ fun ρ'=>gs ds ρ' Q
 | []=>False
def gT (n:Nat) (gs:WGs):WG:=fun d ρ Q=>match d with
 | .tup ds=>ds.length=n/\gs ds ρ Q
 | _=>False
section
variable {X:Cx} {K:PySem.W.Frag} {e:Expr} {es:List Expr} {g:WG} {gs:WGs} {pos:Pos}
theorem PG.imp (h:PG X e t) (i:∀ v σ H Q,t' v σ H Q->t v σ H Q):PG X e t':=fun pins s σ H v u Q I r q=>h pins s σ H v u Q I r (i v σ H Q q)
theorem PGs.imp (h:PGs X es t) (i:∀ v σ H Q,t' v σ H Q->t v σ H Q):PGs X es t':=fun pins s σ H v u Q I r q=>h pins s σ H v u Q I r (i v σ H Q q)
theorem SRel.Gs (i:Nat) (s:SRel K Hs ρ σ H tot) (r:Rep K Hs d v):∃ tot',(∀ a∈tot',a∈tot)/\SRel K Hs (ρ.set i (some (.sh d))) (σ.set i (some v)) H tot':=by
 obtain ⟨t,a,b⟩:=s.sr.yM r i
 exact ⟨t,fun x hx=>a.subset hx,b,s.wf,a.nodup s.nod,fun x hx=>s.own x (a.subset hx)⟩
theorem aG (hN:X.N.Nodup) (hi:X.N[i]? = some x) (hx:Loc X.env.scope x) (hf:X.fn x=true\/X.env.scope.names.lookup x=some .local:=by first | exact .inl rfl | exact .inr rfl | assumption):QG X K (.Name x pos) (gN i) :=
 PG.imp (pg_name hN hi hx hf) fun v σ H Qv hx9=>by
  obtain ⟨Hs,ρ,tot,d,Q,sr,r,h,k⟩:=hx9
  obtain ⟨t,m,s⟩:=sr.Gs i r
  exact k _ _ t s m h
theorem lg:QGs X K [] ql:=PGs.imp pgs_nil fun v σ H Qv hx9=>by
 obtain ⟨Hs,ρ,tot,ds,Q,sr,r,h,k⟩:=hx9
 obtain ⟨rfl,h⟩:=h
 cases r
 exact ⟨rfl,k σ ρ tot sr (fun _ z=>z) h⟩
theorem bY (h1:QG X K e g) (h2:QGs X K es gs) (hs:(assignEach (e :: es) X.env).map (·.2)=assign e X.env :: (assignEach es X.env).map (·.2):=by rfl):QGs X K (e :: es) (di g gs) :=
 PGs.imp (pgs_cons h1 h2 hs) fun v σ H Qv hx9=>by
  obtain ⟨Hs,ρ,tot,ds,Q,sr,r,h,k⟩:=hx9
  cases r with
  | nil=>exact h.elim
  | cons r rs=>exact ⟨_,_,rfl,Hs,ρ,tot,_,_,sr,r,h,fun σ2 ρ2 tot2 sr2 m2 q2=>⟨Hs,ρ2,tot2,_,Q,sr2,rs,q2,fun σ3 ρ3 tot3 sr3 m3=>k σ3 ρ3 tot3 sr3 fun a h=>m2 a (m3 a h)⟩⟩
theorem pX (hc:X.calm=true) (h:QGs X K es gs) (hn:(assignEach es X.env).length=n:=by rfl) (hst:(assignEach es X.env).findIdx? (·.1)=none:=by rfl):QG X K (.Tuple es k pos) (gT n gs) :=
 PG.imp (pg_tup hc h hn hst) fun v σ H Qv hx9=>by
  obtain ⟨Hs,ρ,tot,d,Q,sr,r,h,k⟩:=hx9
  cases r with
  | tup z e rs=>exact ⟨_,_,rfl,.inl (.inl (sr.wf.sub _ _ e)),by rw [<- rs.length]; exact h.1,Hs,ρ,tot,_,Q,sr,rs,h.2,k⟩
  | _=>exact h.elim
end
abbrev WI:=Env->(List D->Prop)->Prop
structure lr (K:PySem.W.Frag) (J:It) (ds:List D) (C:Hp->Hp->Prop):Prop where
 go:∀ i Hs H,C Hs H->Wf Hs H->i<ds.length->J.go i H
 yld:∀ i Hs H x H' d,C Hs H->Wf Hs H->ds[i]? = some d->J.yld i H x H'->∃ Hs',Grow Hs H Hs' H'/\Rep K Hs' d x
 stop:∀ Hs H,C Hs H->Wf Hs H->J.stop ds.length H
abbrev vz (K:PySem.W.Frag) (Hs:Hp) (J:It) (ds:List D):Prop:=lr K J ds fun G _=>Same Hs G
def lQ (xs:List D):List D:=xs.mapIdx fun i x=>.tup [.int i,x]
def zipD (xs ys:List D):List D:=List.zipWith (fun x y=>.tup [x,y]) xs ys
section
variable {K:PySem.W.Frag} {Hs:Hp} {J:It} {ds es:List D} {C C':Hp->Hp->Prop} {a b:Addr}
theorem lr.imp (S:lr K J ds C) (h:∀ Hs H,C' Hs H->C Hs H):lr K J ds C':=⟨fun i Hs H c=>S.go i Hs H (h _ _ c),fun i Hs H x H' d c=>S.yld i Hs H x H' d (h _ _ c),fun Hs H c=>S.stop Hs H (h _ _ c)⟩
theorem lr.seq (rs:Reps K Hs ds vs) (S:lz J vs fun H=>Same Hs H):vz K Hs J ds where
 go:=fun i G H s w h=>S.go i H (s.trans w.sub) (by rw [<- rs.length]; exact h)
 yld:=fun i G H x H' d s w h y=>by
  have hi:i<ds.length:=by
   rcases Nat.lt_or_ge i ds.length with q | q
   ·exact q
   ·rw [xbl q] at h; cases h
  obtain ⟨e,z⟩:=S.yld i H x H' (s.trans w.sub) (by rw [<- rs.length]; exact hi) y
  subst e
  obtain ⟨d',ed,rd⟩:=rs.getV z
  rw [h] at ed; cases ed
  exact ⟨G,Grow.refl w,rd.same s⟩
 stop:=fun G H s w=>by rw [rs.length]; exact S.stop H (s.trans w.sub)
abbrev qb (K:PySem.W.Frag) (a:Addr) (ds:List D) (C:Hp->Hp->Prop):Prop:=∀ Hs H,C Hs H->Wf Hs H->∃ vs,SqL K H a vs/\Reps K Hs ds vs
theorem lr.list (h:qb K a ds C):lr K (Itl K a) ds C where
 go:=fun i G H c w hi=>by
  obtain ⟨vs,q,rs⟩:=h G H c w
  exact ⟨vs,vs[i]'(by rw [<- rs.length]; exact hi),q,by simp⟩
 yld:=fun i G H x H' d c w hd y=>by
  obtain ⟨vs,q,rs⟩:=h G H c w
  obtain ⟨rfl,y⟩:=y
  obtain ⟨d',ed,rd⟩:=rs.getV (y vs q)
  rw [hd] at ed; cases ed
  exact ⟨G,Grow.refl w,rd⟩
 stop:=fun G H c w=>by
  obtain ⟨vs,q,rs⟩:=h G H c w
  exact ⟨vs,q,by rw [rs.length]; exact xah _⟩
theorem lr.enum (h:qb K a ds C):lr K (Ite K a) (lQ ds) C where
 go:=fun i G H c w hi=>by
  obtain ⟨vs,q,rs⟩:=h G H c w
  have hi:i<ds.length:=by simpa [lQ] using hi
  exact ⟨vs,vs[i]'(by rw [<- rs.length]; exact hi),q,by simp⟩
 yld:=fun i G H x H' d c w hd y=>by
  obtain ⟨vs,q,rs⟩:=h G H c w
  obtain ⟨p,v,rfl,hp,rfl,y⟩:=y
  obtain ⟨d',ed,rd⟩:=rs.getV (y vs q)
  have:d=.tup [.int i,d']:=by
   simp only [lQ,List.getElem?_mapIdx,ed,xbM] at hd
   cases hd; rfl
  subst this
  have g:=newT (vs:=[.int i,v]) w hp
  exact ⟨_,g,.tup (vs:=[.int i,v]) vZ upd_same (.cons (.int _) (.cons (rd.same g.sh) .nil))⟩
 stop:=fun G H c w=>by
  obtain ⟨vs,q,rs⟩:=h G H c w
  exact ⟨vs,q,by rw [lQ,List.length_mapIdx,rs.length]; exact xah _⟩
theorem lr.zip (h:qb K a ds C) (h2:qb K b es C):lr K (Itz K a b) (zipD ds es) C where
 go:=fun i G H c w hi=>by
  obtain ⟨vs,q,rs⟩:=h G H c w
  obtain ⟨us,q2,rs2⟩:=h2 G H c w
  rw [zipD,List.length_zipWith] at hi
  have:=rs.length
  have:=rs2.length
  exact ⟨vs,us,vs[i]'(by lia),us[i]'(by lia),q,q2,by simp,by simp⟩
 yld:=fun i G H x H' d c w hd y=>by
  obtain ⟨vs,q,rs⟩:=h G H c w
  obtain ⟨us,q2,rs2⟩:=h2 G H c w
  obtain ⟨p,u,v,rfl,hp,rfl,y,y2⟩:=y
  obtain ⟨d1,ed,rd⟩:=rs.getV (y vs q)
  obtain ⟨d2,ed2,rd2⟩:=rs2.getV (y2 us q2)
  have:d=.tup [d1,d2]:=by
   simp only [zipD,List.getElem?_zipWith,ed,ed2] at hd
   cases hd; rfl
  subst this
  have g:=newT (vs:=[u,v]) w hp
  exact ⟨_,g,.tup (vs:=[u,v]) vZ upd_same (.cons (rd.same g.sh) (.cons (rd2.same g.sh) .nil))⟩
 stop:=fun G H c w=>by
  obtain ⟨vs,q,rs⟩:=h G H c w
  obtain ⟨us,q2,rs2⟩:=h2 G H c w
  have:=rs.length
  have:=rs2.length
  exact ⟨vs,us,q,q2,by rw [zipD,List.length_zipWith]; lia⟩
theorem qx (s:SqL K Hs a vs) (rs:Reps K Hs ds vs):qb K a ds fun G _=>Same Hs G:=fun G H c w=>⟨vs,Same.seq (c.trans w.sub) s,rs.same c⟩
end
def tpI (K:PySem.W.Frag) (wi:WI):TI:=fun σ H R=>∃ Hs ρ tot Q,SRel K Hs ρ σ H tot/\wi ρ Q/\∀ J H' Hs' ds,Grow Hs H Hs' H'->vz K Hs' J ds->ds.length<=sizeLine->Q ds->R J H'
abbrev QI (X:Cx) (K:PySem.W.Frag) (tg iter:Expr) (wi:WI):Prop:=PI X tg iter (tpI K wi)
def lR:Md->Prop
 | .bo=>False
 | _=>True
def gR (te:WE):WI:=fun ρ Q=>te ρ fun m d=>lR m/\match d with
 | .list xs=>Q xs
 | _=>False
def wG (te:WE):WI:=fun ρ Q=>te ρ fun m d=>lR m/\match d with
 | .tup xs=>Q xs
 | _=>False
def jo (lo:Int) (n:Nat):List D:=(List.range n).map fun i=>.int (lo+(i:Nat))
def dW (te:WE):WI:=fun ρ Q=>te ρ fun _ d=>match d with
 | .int j=>j<=16777216/\-(2 ^ 62)<=j/\Q (jo 0 j.toNat)
 | _=>False
section
variable {X:Cx} {K:PySem.W.Frag} {e e2 tg:Expr} {te te2:WE} {pos p:Pos}
theorem PI.imp (h:PI X tg iter t) (i:∀ σ H R,t' σ H R->t σ H R):PI X tg iter t':=fun pins s σ H R I q=>h pins s σ H R I (i σ H R q)
theorem lz.imp {J:It} (s:lz J vs c) (h:∀ H,c' H->c H):lz J vs c':=⟨fun i H q=>s.go i H (h H q),fun i H x H' q=>s.yld i H x H' (h H q),fun H q=>s.stop H (h H q)⟩
theorem RM.qM (g:Grow Hs H Hs1 H1) (r:RM K Hs1 H1 m d v As) (f:cL Hs1 H As) (h:lR m):∃ Hs2,Grow Hs H Hs2 H1/\Rep K Hs2 d v:=by
 cases m with
 | sh=>exact ⟨Hs1,g,r.2⟩
 | bo=>exact h.elim
 | ow fl =>
  have n:∀ a∈As,Hs1 a=none:=fun a ha=>(f.2 a ha).1
  have o:=r.own
  refine ⟨frzH Hs1 H1 As,⟨g.all,g.sh.trans (jf n),yN g.wf o,fun a h=>?_⟩,RepO.rep (jf n) r.1 fun a ha=>by unfold frzH; rw [if_pos ha]⟩
  unfold frzH at h
  by_cases m:a∈As
  ·exact .inr (f.2 a m).2
  ·rw [if_neg m] at h; exact g.new a h
theorem iB (he:QE X K e te) (hK:X.K=K:=by rfl):QI X K tg e (gR te):=by
 subst hK
 refine PI.imp (pi_list he) fun σ H R hx=>ex4 hx fun Hs ρ tot Q sr h k=>⟨Hs,ρ,tot,_,sr,h,fun v H1 Hs1 m d As g1 r1 f1 q1=>?_⟩
 obtain ⟨nb,q1⟩:=q1
 obtain ⟨Hs2,g2,r2⟩:=r1.qM g1 f1 nb
 cases r2 with
 | list z s rs=>exact ⟨_,rfl,⟨_,Same.seq g2.wf.sub s⟩,k _ H1 Hs2 _ g2 (.seq rs (lz.imp (xG X.K _ _) fun H' s'=>Same.seq s' s)) (by rw [rs.length]; exact z) q1⟩
 | _=>exact q1.elim
theorem yL (he:QE X K e te) (hK:X.K=K:=by rfl):QI X K tg e (wG te):=by
 subst hK
 refine PI.imp (pi_tup he) fun σ H R hx=>ex4 hx fun Hs ρ tot Q sr h k=>⟨Hs,ρ,tot,_,sr,h,fun v H1 Hs1 m d As g1 r1 f1 q1=>?_⟩
 obtain ⟨nb,q1⟩:=q1
 obtain ⟨Hs2,g2,r2⟩:=r1.qM g1 f1 nb
 cases r2 with
 | tup z s rs=>exact ⟨_,rfl,⟨_,.inl (.inl (g2.wf.sub _ _ s))⟩,k _ H1 Hs2 _ g2 (.seq rs (lz.imp (Bt X.K _ _) fun H' s'=>.inl (.inl (s' _ _ s)))) (by rw [rs.length]; exact z) q1⟩
 | _=>exact q1.elim
theorem oZ (lo:Int):∀ (l:List Nat),Reps K H (l.map fun i=>.int (lo+(i:Nat))) (l.map fun i=>V.int (lo+(i:Nat)))
 | []=>.nil
 | c :: l=>.cons (.int _) (oZ lo l)
theorem dF (hm:X.mg "range" = none) (he:QE X K e te) (hg:Gl X "range" := by rfl) (hs:starEach [e] X.env=(false,eval e X.env) :: starEach [] X.env:=by rfl) (hs':starEach [e] X.env=[(false,eval e X.env)]:=by rfl):QI X K tg (.Call (.Name "range" p) [e] [] pos) (dW te):=by
 refine PI.imp (pi_range1 hg hm (pa_cons he pa_nil hs) hs') fun σ H R hx=>ex4 hx fun Hs ρ tot Q sr h k=>⟨Hs,ρ,tot,_,sr,h,fun v H1 Hs1 m d As g1 r1 f1 q1=>?_⟩
 have r:=r1.rep g1.wf
 cases r with
 | int j =>
  obtain ⟨h1,h2,q1⟩:=q1
  exact ⟨j,rfl,h2,by lia,k _ H1 Hs1 _ g1 (.seq (oZ 0 _) (lz.imp (Bj _ _) fun _ _=>trivial)) (by rw [xad,List.length_range,sizeLine_eq]; lia) q1⟩
 | _=>exact q1.elim
section
variable {X:Cx} {K:PySem.W.Frag} {e tg:Expr} {te:WE} {pos p:Pos}
def sJ (te:WE):WI:=fun ρ Q=>te ρ fun m d=>lR m/\match d with
 | .list xs=>Q (lQ xs)
 | _=>False
theorem Az (hm:X.mg "enumerate" = none) (he:QE X K e te) (hK:X.K=K:=by rfl) (hg:Gl X "enumerate" := by rfl) (hs:starEach [e] X.env=(false,eval e X.env) :: starEach [] X.env:=by rfl) (hs':starEach [e] X.env=[(false,eval e X.env)]:=by rfl) :
  QI X K (.Tuple elts kk tp) (.Call (.Name "enumerate" p) [e] [] pos) (sJ te):=by
 subst hK
 refine PI.imp (zr hg hm (pa_cons he pa_nil hs) hs') fun σ H R hx=>ex4 hx fun Hs ρ tot Q sr h k=>⟨Hs,ρ,tot,_,sr,h,fun v H1 Hs1 m d As g1 r1 f1 q1=>?_⟩
 obtain ⟨nb,q1⟩:=q1
 obtain ⟨Hs2,g2,r2⟩:=r1.qM g1 f1 nb
 cases r2 with
 | list z s rs=>exact ⟨_,rfl,⟨_,Same.seq g2.wf.sub s⟩,k _ H1 Hs2 _ g2 (.enum (qx s rs)) (by rw [lQ,List.length_mapIdx,rs.length]; exact z) q1⟩
 | _=>exact q1.elim
def tpIb (K:PySem.W.Frag) (wi:WI):TI:=fun σ H R=>∃ Hs ρ tot Q,SRel K Hs ρ σ H tot/\wi ρ Q/\∀ J H' Hs' ds,Grow Hs H Hs' H'->vz K H' J ds->ds.length<=sizeLine->Q ds->R J H'
abbrev QIb (X:Cx) (K:PySem.W.Frag) (tg iter:Expr) (wi:WI):Prop:=PI X tg iter (tpIb K wi)
theorem uZ (h:QI X K tg iter wi):QIb X K tg iter wi:=PI.imp h fun σ H R hx=>ex4 hx fun Hs ρ tot Q sr h k=>⟨Hs,ρ,tot,Q,sr,h,fun J H' Hs' ds g w z q=>k J H' Hs' ds g (w.imp fun G H s=>g.wf.sub.trans s) z q⟩
def iV (te:WE):WI:=fun ρ Q=>te ρ fun _ d=>match d with
 | .list xs=>Q xs
 | _=>False
theorem lq (he:QE X K e te) (hK:X.K=K:=by rfl):QIb X K tg e (iV te):=by
 subst hK
 refine PI.imp (pi_list he) fun σ H R hx=>ex4 hx fun Hs ρ tot Q sr h k=>⟨Hs,ρ,tot,_,sr,h,fun v H1 Hs1 m d As g1 r1 f1 q1=>?_⟩
 have r:=r1.rep g1.wf
 cases r with
 | list z s rs=>exact ⟨_,rfl,⟨_,s⟩,k _ H1 Hs1 _ g1 (.list (qx s rs)) (by rw [rs.length]; exact z) q1⟩
 | _=>exact q1.elim
end
def qm (g:WG) (b:WS) (E:nJ):List D->Env->Prop
 | [],ρ=>E.nx ρ
 | x :: xs,ρ=>g x ρ fun ρ1=>b { E with nx:=qm g b E xs,ct:=qm g b E xs,bk:=E.nx } ρ1
def wFor (wi:WI) (g:WG) (b:WS):WS:=fun E ρ=>wi ρ fun ds=>qm g b E ds ρ
variable {wi:WI} {g:WG} {b:WS} {body:List Stmt}
theorem cU (hp:PassesOwn (model X.prog X.w) X.A X.env X.xe) (hc:X.calm=true) (hi:QI X K tg iter wi) (hg:QG X K tg g) (hb:QSs X K L body b) (hs:∀ x,foldedSetIterable iter X.env x=pure x:=by intro _; rfl) :
  QS X K L (.For tg iter body [] pos) (wFor wi g b):=by
 refine PS.imp (ps_for hp hc hi hg hb hs) fun D σ H hx=>dY hx fun Hs ρ tot E sr h k1 k2 k3 k4 kx=>?_
 rw [BJ]
 refine ⟨Hs,ρ,tot,_,sr,h,fun J H1 Hs1 ds g1 S hz q1=>?_⟩
 refine ⟨fun i m σ H=>m=ds.length - i/\i<=ds.length/\∃ Hs' ρ' tot',Same Hs1 Hs'/\SRel K Hs' ρ' σ H tot'/\qm g b E (ds.drop i) ρ',⟨ds.length,by simp,xar _,Hs1,ρ,tot,Same.refl _,sr.grow g1,by simpa using q1⟩,?_⟩
 rintro i m σ2 H2 ⟨rfl,hi,Hs2,ρ2,tot2,s2,sr2,q2⟩
 by_cases hlt:i<ds.length
 ·refine .inr ⟨S.go i Hs2 H2 s2 sr2.wf hlt,fun σ3 H3=>∃ Hs' ρ' tot',Same Hs1 Hs'/\SRel K Hs' ρ' σ3 H3 tot'/\qm g b E (ds.drop (i+1)) ρ',fun σ3 H3 h3=>⟨ds.length - (i+1),by lia,rfl,hlt,h3⟩,fun x H3 y=>?_⟩
  obtain ⟨Hs3,g3,rd⟩:=S.yld i Hs2 H2 x H3 ds[i] s2 sr2.wf (by simp [hlt]) y
  rw [xa1 hlt] at q2
  have s3:=s2.trans g3.sh
  refine ⟨Hs3,ρ2,tot2,ds[i],_,sr2.grow g3,rd,q2,fun σ4 ρ4 tot4 sr4 _ q4=>?_⟩
  refine ⟨Hs3,ρ4,tot4,_,sr4,q4,?_,?_,?_,?_,fun n H5 s5=>kx n H5 ((g1.sh.trans s3).trans s5)⟩
  ·exact fun σ5 H5 Hs5 ρ5 tot5 s5 sr5 q5=>⟨Hs5,ρ5,tot5,s3.trans s5,sr5,q5⟩
  ·exact fun σ5 H5 Hs5 ρ5 tot5 s5 sr5 q5=>k1 σ5 H5 Hs5 ρ5 tot5 ((g1.sh.trans s3).trans s5) sr5 q5
  ·exact fun σ5 H5 Hs5 ρ5 tot5 s5 sr5 q5=>⟨Hs5,ρ5,tot5,s3.trans s5,sr5,q5⟩
  ·exact fun v H5 Hs5 m d As s5=>k4 v H5 Hs5 m d As ((g1.sh.trans s3).trans s5)
 ·have e:i=ds.length:=by lia
  subst e
  refine .inl ⟨S.stop Hs2 H2 s2 sr2.wf,?_⟩
  rw [xcm] at q2
  exact k1 σ2 H2 Hs2 ρ2 tot2 (g1.sh.trans s2) sr2 q2
theorem bO (xs:List D) (Pv:Nat->Env->Prop) (h0:Pv 0 ρ)
  (hs:∀ i x ρ,xs[i]? = some x->Pv i ρ->∀ N:Env->Prop,(∀ ρ',Pv (i+1) ρ'->N ρ')->g x ρ fun ρ1=>b { E with nx:=N,ct:=N,bk:=E.nx } ρ1)
  (hd:∀ ρ,Pv xs.length ρ->E.nx ρ):qm g b E xs ρ:=by
 have go:∀ (k i:Nat) (ρ:Env),i+k=xs.length->Pv i ρ->qm g b E (xs.drop i) ρ:=by
  intro k
  induction k with
  | zero =>
   intro i ρ e p
   have:i=xs.length:=by lia
   subst this
   rw [xcm]
   exact hd ρ p
  | succ k ih =>
   intro i ρ e p
   have hi:i<xs.length:=by lia
   rw [xa1 hi]
   exact hs i xs[i] ρ (by simp [hi]) p _ fun ρ2 h2=>ih (i+1) ρ2 (by lia) h2
 have:=go xs.length 0 ρ (by lia) h0
 simpa using this
def vm (c:WT) (b:WS):WS:=fun E ρ=>∃ (Pv:Env->Prop) (μ:Env->Nat),Pv ρ/\∀ ρ,Pv ρ->c ρ fun k=>if k=true then b { E with nx:=fun ρ'=>Pv ρ'/\μ ρ'<μ ρ,ct:=fun ρ'=>Pv ρ'/\μ ρ'<μ ρ,bk:=E.nx } ρ else E.nx ρ
theorem sS (hp:PassesOwn (model X.prog X.w) X.A X.env X.xe) (hc:QT X K c tc) (hb:QSs X K L body b):QS X K L (.While c body [] pos) (vm tc b):=by
 refine PS.imp (ps_while hp hc hb) fun D σ H hx=>dY hx fun Hs ρ tot E sr h k1 k2 k3 k4 kx=>?_
 obtain ⟨Pv,μ,p0,turn⟩:=h
 refine ⟨fun m σ H=>∃ Hs' ρ' tot',Same Hs Hs'/\SRel K Hs' ρ' σ H tot'/\Pv ρ'/\μ ρ'=m,⟨_,Hs,ρ,tot,Same.refl _,sr,p0,rfl⟩,?_⟩
 rintro m σ2 H2 ⟨Hs2,ρ2,tot2,s2,sr2,p2,rfl⟩
 refine ⟨Hs2,ρ2,tot2,_,sr2,turn ρ2 p2,fun k H3 Hs3 g3 q3=>?_⟩
 cases k with
 | false=>exact k1 σ2 H3 Hs3 ρ2 tot2 (s2.trans g3.sh) (sr2.grow g3) q3
 | true =>
  refine ⟨fun σ' H'=>∃ Hs' ρ' tot',Same Hs Hs'/\SRel K Hs' ρ' σ' H' tot'/\Pv ρ'/\μ ρ'<μ ρ2,fun σ' H' ⟨Hs',ρ',tot',a,b,c,d⟩=>⟨μ ρ',d,Hs',ρ',tot',a,b,c,rfl⟩,?_⟩
  have s3:Same Hs Hs3:=s2.trans g3.sh
  refine ⟨Hs3,ρ2,tot2,_,sr2.grow g3,q3,?_,?_,?_,?_,fun n H5 s5=>kx n H5 (s3.trans s5)⟩
  ·exact fun σ5 H5 Hs5 ρ5 tot5 s5 sr5 q5=>⟨Hs5,ρ5,tot5,s3.trans s5,sr5,q5.1,q5.2⟩
  ·exact fun σ5 H5 Hs5 ρ5 tot5 s5 sr5 q5=>k1 σ5 H5 Hs5 ρ5 tot5 (s3.trans s5) sr5 q5
  ·exact fun σ5 H5 Hs5 ρ5 tot5 s5 sr5 q5=>⟨Hs5,ρ5,tot5,s3.trans s5,sr5,q5.1,q5.2⟩
  ·exact fun v H5 Hs5 m d As s5=>k4 v H5 Hs5 m d As (s3.trans s5)
end
def wYes:WT:=fun _ Q=>Q true
def okEl (m:Md) (d:D):Prop:=d.flat=true\/m=.ow true
def iU (g:WG) (tc:WT) (te:WE):List D->Env->(List D->Prop)->Prop
 | [],_,k=>k []
 | x :: xs,ρ,k=>g x ρ fun ρ1=>tc ρ1 fun b=>if b=true then te ρ1 fun m d=>okEl m d/\iU g tc te xs ρ1 (fun out=>k (d :: out)) else iU g tc te xs ρ1 k
def zX (tn:Nat) (ix:List Nat) (ρ:Env):Env:=List.replicate tn none++ix.map fun j=>(ρ[j]?).join.map shC
def iC (wi:WI) (g:WG) (tc:WT) (te:WE) (tn:Nat) (ix:List Nat):WE:=fun ρ Q=>wi ρ fun ds=>iU g tc te ds (zX tn ix ρ) fun out=>Q (.ow true) (.list out)
section
variable {X:Cx} {K:PySem.W.Frag}
theorem mO {Hs H G:Hp} (sr:SRel K Hs ρ σ H tot) (G':Hp):∀ (ix:List Nat),SR K H G' (ix.map fun j=>(ρ[j]?).join.map shC) (ix.map fun j=>(σ[j]?).join) []
 | []=>.nil
 | j :: ix=>by
  have ih:=mO sr G' ix (G:=G)
  simp only [xaq]
  cases e:ρ[j]? with
  | none=>exact .non ih
  | some o =>
   cases o with
   | none=>exact .non ih
   | some sl =>
    obtain ⟨v,e1,r⟩:=sr.sr.get e
    rw [e1]
    cases sl with
    | sh d=>exact .sh (Rep.same sr.wf.sub r) ih
    | xc a=>subst r; exact .xc ih
    | ow fl d =>
     obtain ⟨As,_,r,_⟩:=r
     exact .sh (r.rep sr.wf.sub fun _ _=>rfl) ih
    | lk a fl d =>
     obtain ⟨As,_,r,_⟩:=r
     exact .sh (r.rep sr.wf.sub fun _ _=>rfl) ih
theorem pH (s:SR K H G ρ σ []):∀ (n:Nat),SR K H G (List.replicate n none++ρ) (List.replicate n none++σ) []
 | 0=>s
 | n+1=>.non (pH s n)
theorem SR.heap (s:SR K Hs H ρ σ []):SR K Hs H' ρ σ []:=s.stay (Same.refl _) fun a h=>nomatch h
theorem pA (w:Wf Hs H) (n:Hs p=none) (ho:∀ vs,o≠.tup vs):Wf Hs (upd H p o):=⟨fun b u q=>by
  rw [upd_ne (fun z=>by subst z; rw [n] at q; cases q)]; exact w.sub b u q,fun b us q=>by
  by_cases hb:b=p
  ·subst hb; rw [upd_same] at q; exact absurd (Option.some.inj q) (ho us)
  ·rw [upd_ne hb] at q; exact w.tups b us q⟩
structure CompI (K:PySem.W.Frag) (H1:Hp) (b:Addr) (acc:List D) (ys:List V) (As:List Addr) (Hs:Hp) (ρ:Env) (τ:St) (H:Hp):Prop where
 sm:Same H1 Hs
 sr:SRel K Hs ρ τ H []
 eD:H b=some (.lst ys)
 nD:Hs b=none
 ra:az K Hs H true acc ys As
 nd:(b :: As).Nodup
 own:∀ a∈As,Hs a=none
theorem CompI.grow (c:CompI K H1 b acc ys As Hs ρ τ H) (g:Grow Hs H Hs' H'):CompI K H1 b acc ys As Hs' ρ τ H' :=
 ⟨c.sm.trans g.sh,c.sr.grow g,g.all _ _ c.eD,g.hsn c.nD (by rw [c.eD]; exact fun z=>nomatch z),c.ra.grow g.sh g.all,c.nd,fun a ha=>g.hsn (c.own a ha) (c.ra.own a ha).ne⟩
theorem CompI.push (c:CompI K H1 b acc ys As Hs ρ τ H) (r:RM K Hs H m d v Bs) (ok:okEl m d) (nb:Bs.Nodup) (fb:∀ a∈Bs,Hs a=none/\a∉b :: As):∃ As',CompI K H1 b (acc++[d]) (ys++[v]) As' Hs ρ τ (upd H b (.lst (ys++[v]))):=by
 obtain ⟨B,sb,rb⟩:∃ B,B.Sublist Bs/\RepO K Hs H true d v B:=by
  rcases ok with hf | rfl
  ·exact ⟨[],xaW _,.sh (fun _=>hf) (r.flat c.sr.wf hf)⟩
  ·exact ⟨Bs,List.Sublist.refl _,r.1⟩
 obtain ⟨na,nA⟩:=xax.mp c.nd
 have fb':=fun a ha=>fb a (sb.subset ha)
 refine ⟨As++(B++[]),c.sm,⟨c.sr.sr.heap,pA c.sr.wf c.nD (fun _ z=>nomatch z),xaB,fun a h=>nomatch h⟩,upd_same,c.nD,(c.ra.stay (H':=upd H b (.lst (ys++[v]))) (Same.refl _) fun a ha=>upd_ne fun z=>na (by subst z; exact ha)).append (.cons (rb.stay (Same.refl _) fun a ha=>upd_ne fun z=>(fb' a ha).2 (by subst z; exact xac)) .nil),?_,?_⟩
 ·rw [xaE]
  refine xax.mpr ⟨fun m=>(xaf.mp m).elim na fun m=>(fb' b m).2 xac,xaj.mpr ⟨nA,sb.nodup nb,fun x hx y hy e=>(fb' y hy).2 (e ▸ xab _ hx)⟩⟩
 ·rw [xaE]
  exact fun a ha=>(xaf.mp ha).elim (c.own a) fun m=>(fb' a m).1
theorem jz (h:tpE K (iC wi g tc te tn ix) σ H Qv):qW (tpIb K wi) (tpG K g) (tpT K tc) (tpE K te) tn ix σ H Qv:=by
 obtain ⟨Hs,ρ,tot,Q,sr,h,f⟩:=h
 rw [yz]
 refine ⟨Hs,ρ,tot,_,sr,h,fun J H1 Hs1 ds g1 S hz q1 b hb=>?_⟩
 have st:CompI K H1 b [] [] [] H1 (zX tn ix ρ) (oK tn ix σ) (upd H1 b (.lst [])):=by
  refine ⟨Same.refl _,⟨pH (mO (G:=H1) (sr.grow g1) _ ix) tn,⟨(Same.refl H1).upd hb,fun a xs e=>?_⟩,xaB,fun a h=>nomatch h⟩,upd_same,hb,.nil,by simp,fun a h=>nomatch h⟩
  by_cases ha:a=b
  ·subst ha; rw [upd_same] at e; cases e
  ·rw [upd_ne ha] at e; exact e
 refine ⟨fun i m τ H2=>m=ds.length - i/\i<=ds.length/\∃ Hs2 ρ2 acc ys As,CompI K H1 b acc ys As Hs2 ρ2 τ H2/\acc.length<=i/\iU g tc te (ds.drop i) ρ2 (fun out=>Q (.ow true) (.list (acc++out))),
  ⟨ds.length,by simp,xar _,H1,_,[],[],[],st,xah _,by simpa using q1⟩,?_⟩
 rintro i m τ H2 ⟨rfl,hi,Hs2,ρ2,acc,ys,As,c,la,q2⟩
 by_cases hlt:i<ds.length
 ·refine .inr ⟨S.go i Hs2 H2 c.sm c.sr.wf hlt,
   fun τ3 v H4=>∃ Hs4 ρ4 d,CompI K H1 b acc ys As Hs4 ρ4 τ3 H4/\(∃ As',CompI K H1 b (acc++[d]) (ys++[v]) As' Hs4 ρ4 τ3 (upd H4 b (.lst (ys++[v]))))/\iU g tc te (ds.drop (i+1)) ρ4 (fun out=>Q (.ow true) (.list (acc++d :: out))),
   fun τ3 H3=>∃ Hs3 ρ3,CompI K H1 b acc ys As Hs3 ρ3 τ3 H3/\iU g tc te (ds.drop (i+1)) ρ3 (fun out=>Q (.ow true) (.list (acc++out))),?_,?_,?_⟩
  ·rintro τ3 v H4 ⟨Hs4,ρ4,d,c4,⟨As',c5⟩,q4⟩
   have lya:=c4.ra.length
   exact ⟨ys,ds.length - (i+1),c4.eD,by lia,by lia,rfl,hlt,Hs4,ρ4,acc++[d],ys++[v],As',c5,by rw [xam]; simpa using la,by simpa using q4⟩
  ·rintro τ3 H3 ⟨Hs3,ρ3,c3,q3⟩
   exact ⟨ds.length - (i+1),by lia,rfl,hlt,Hs3,ρ3,acc,ys,As,c3,by lia,q3⟩
  ·intro x H3 y
   obtain ⟨Hs3,g3,rd⟩:=S.yld i Hs2 H2 x H3 ds[i] c.sm c.sr.wf (by simp [hlt]) y
   rw [xa1 hlt] at q2
   have c3:=c.grow g3
   refine ⟨Hs3,ρ2,[],ds[i],_,c3.sr,rd,q2,fun τ4 ρ4 tot4 sr4 m4 q4=>?_⟩
   have t4:tot4=[]:=xb5.mpr fun a ha=>nomatch m4 a ha
   subst t4
   have c4:CompI K H1 b acc ys As Hs3 ρ4 τ4 H3:=⟨c3.sm,sr4,c3.eD,c3.nD,c3.ra,c3.nd,c3.own⟩
   refine ⟨Hs3,ρ4,[],_,sr4,q4,fun k H5 Hs5 g5 q5=>?_⟩
   have c5:=c4.grow g5
   cases k with
   | false=>exact ⟨Hs5,ρ4,c5,q5⟩
   | true =>
    refine ⟨Hs5,ρ4,[],_,c5.sr,q5,fun v H6 Hs6 m6 d6 As6 g6 r6 f6 q6=>?_⟩
    have c6:=c5.grow g6
    refine ⟨Hs6,ρ4,d6,c6,c6.push r6 q6.1 f6.1 fun a ha=>⟨(f6.2 a ha).1,fun m=>?_⟩,q6.2⟩
    rcases xak.mp m with rfl | m
    ·have:=(f6.2 _ ha).2
     rw [c5.eD] at this; cases this
    ·exact (c5.ra.own a m).ne (f6.2 a ha).2
 ·have e:i=ds.length:=by lia
  subst e
  refine .inl ⟨S.stop Hs2 H2 c.sm c.sr.wf,?_⟩
  rw [xcm] at q2
  have q2:Q (.ow true) (.list (acc++[])):=q2
  rw [xaE] at q2
  have lya:=c.ra.length
  have rm:RM K Hs2 H2 (.ow true) (.list acc) (.ref b) (b :: As):=⟨.list (by lia) c.eD c.ra,by simp⟩
  obtain ⟨As',r',fr⟩:=rE g1.wf c.sm c.sr.wf rm c.nd fun a ha=>(xak.mp ha).elim (fun z=>z ▸ c.nD) (c.own a)
  exact Fin.after f g1 (.ref b) H2 _ (.ow true) (.list acc) As' (gW g1.wf c.sm c.sr.wf) r' fr q2
theorem PTs.imp (h:PTs X ifs t) (i:∀ σ H Q,t' σ H Q->t σ H Q):PTs X ifs t':=fun pins s σ H Q I q=>h pins s σ H Q I (i σ H Q q)
abbrev QTs (X:Cx) (K:PySem.W.Frag) (ifs:List Expr) (t:WT):Prop:=PTs X ifs (tpT K t)
theorem rR:QTs X K [] wYes:=PTs.imp z8 fun σ H Qv hx=>ex4 hx fun Hs ρ tot Q sr h k=>k true H Hs (Grow.refl sr.wf) h
theorem jw (h:QT X K c t):QTs X K [c] t:=BR h
theorem yR (hc:X.calm=true) (hi:QIb X K tg iter wi) (O:cg X scope tn cn ix)
  (hg:∀ C fp s₃ H₃,QG (cN X scope C (tn++cn) fp s₃ H₃) K tg g) (hcs:∀ C fp s₃ H₃,QTs (cN X scope C (tn++cn) fp s₃ H₃) K ifs tc) (he:∀ C fp s₃ H₃,QE (cN X scope C (tn++cn) fp s₃ H₃) K elt te)
  (hs:∀ x,foldedSetIterable iter X.env x=pure x:=by intro _; rfl):QE X K (.ListComp elt [⟨tg,iter,ifs,0⟩] scope pos) (iC wi g tc te tn.length ix) :=
 PE.imp (B_ hc hi O hg hcs he hs) fun σ H Qv h=>jz h
end
theorem cJ (p:D->Bool) (f:D->D) (Iv:Env->Prop):∀ (xs:List D) (ρ:Env) (k:List D->Prop),Iv ρ ->
  (∀ x∈xs,∀ ρ,Iv ρ->∀ N1:Env->Prop,∀ N2:Env->D->Prop,(∀ ρ',Iv ρ'->p x=false->N1 ρ')->(∀ ρ',Iv ρ'->p x=true->N2 ρ' (f x))->g x ρ fun ρ1=>tc ρ1 fun b=>if b=true then te ρ1 fun m d=>okEl m d/\N2 ρ1 d else N1 ρ1) ->
  k ((xs.filter p).map f)->iU g tc te xs ρ k
 | [],_,k,_,_,h=>h
 | x :: xs,ρ,k,iv,hs,h=>by
  refine hs x xac ρ iv _ _ (fun ρ' iv' hp=>?_) (fun ρ' iv' hp=>?_)
  ·exact cJ p f Iv xs ρ' k iv' (fun y hy=>hs y (xab _ hy)) (by simpa [hp] using h)
  ·exact cJ p f Iv xs ρ' _ iv' (fun y hy=>hs y (xab _ hy)) (by simpa [hp] using h)
def Upd (K:PySem.W.Frag) (Hs H:Hp) (σ:St) (fl:Bool) (v:V) (up:Bool->D->Env) (As':List Addr):Prop:=∀ Hs2 H2 fl2 d2 As2,Same Hs Hs2->Wf Hs2 H2->(∀ a,Hs a=none->H a≠none->Hs2 a=none)->(fl2=true->fl=true) ->
  RepO K Hs2 H2 fl2 d2 v As2->As2≠[]->As2.Nodup->(∀ a∈As2,Hs2 a=none/\(a∈As'\/H a=none))->(∀ a,H a≠none->a∉As'->H2 a=H a)->∃ tot2,SRel K Hs2 (up fl2 d2) σ H2 tot2
structure Place (K:PySem.W.Frag) (Hs H:Hp) (σ:St) (fl:Bool) (d:D) (v:V) (up:Bool->D->Env):Prop where
 ex:∃ As',RepO K Hs H fl d v As'/\As'≠[]/\As'.Nodup/\(∀ a∈As',Hs a=none)/\Upd K Hs H σ fl v up As'
theorem Upd.node {K:PySem.W.Frag} (k:Upd K Hs H σ fl (.ref a) up (a :: A)) (g:Grow Hs H Hs2 H2) (own:∀ x∈a :: A,Hs x=none/\H x≠none) (ho:∀ vs,o≠.tup vs) (hf:fl2=true->fl=true)
  (r:RepO K Hs2 (upd H2 a o) fl2 d2 (.ref a) (a :: C)) (nC:C.Nodup) (naC:a∉C) (hC:∀ x∈C,x∈A\/(Hs2 x=none/\H x=none)):∃ tot2,SRel K Hs2 (up fl2 d2) σ (upd H2 a o) tot2:=by
 have hn:∀ x∈a :: A,Hs2 x=none:=fun x hx=>g.hsn (own x hx).1 (own x hx).2
 refine k Hs2 _ fl2 d2 (a :: C) g.sh (pA g.wf (hn a xac) ho) (fun b h1 h2=>g.hsn h1 h2) hf r (xbJ _ _) (xax.mpr ⟨naC,nC⟩) (fun b hb=>?_) fun b h1 h2=>?_
 ·rcases xak.mp hb with rfl | hb
  ·exact ⟨hn _ xac,.inl xac⟩
  ·exact (hC b hb).elim (fun q=>⟨hn b (xab _ q),.inl (xab _ q)⟩) fun q=>⟨q.1,.inr q.2⟩
 ·rw [upd_ne fun z=>h2 (by subst z; exact xac)]
  cases q:H b with
  | none=>exact absurd q h1
  | some o=>exact g.all b o q
abbrev WP:=Env->(Bool->D->(Bool->D->Env)->Prop)->Prop
def tpP (K:PySem.W.Frag) (t:WP):TE:=fun σ H Qv=>∃ Hs ρ tot Q,SRel K Hs ρ σ H tot/\t ρ Q/\∀ v H' Hs' fl d up,Grow Hs H Hs' H'->Place K Hs' H' σ fl d v up->Q fl d up->Qv v H'
abbrev QP (X:Cx) (K:PySem.W.Frag) (e:Expr) (t:WP):Prop:=PE X e (tpP K t)
section
variable {K:PySem.W.Frag} {Hs H Hs' H':Hp} {σ:St} {fl:Bool} {d:D} {v:V} {up:Bool->D->Env}
theorem Place.grow (p:Place K Hs H σ fl d v up) (g:Grow Hs H Hs' H'):Place K Hs' H' σ fl d v up:=by
 obtain ⟨As',r,ne,nd,own,k⟩:=p.ex
 refine ⟨As',r.grow g.sh g.all,ne,nd,fun a h=>g.hsn (own a h) (r.own a h).ne,fun Hs2 H2 fl2 d2 As2 s2 w2 n2 hf r2 ne2 nd2 o2 st=>?_⟩
 refine k Hs2 H2 fl2 d2 As2 (g.sh.trans s2) w2 (fun a h1 h2=>n2 a (g.hsn h1 h2) ?_) hf r2 ne2 nd2 (fun a h=>⟨(o2 a h).1,(o2 a h).2.imp id g.all.free⟩) fun a h1 h2=>?_
 ·cases e:H a with
  | none=>exact absurd e h2
  | some o=>rw [g.all a o e]; exact fun z=>nomatch z
 ·cases e:H a with
  | none=>exact absurd e h1
  | some o =>
   have:=g.all a o e
   rw [<- this]
   exact st a (by rw [this]; exact fun z=>nomatch z) h2
theorem RepO.ne2:(∀ {d:D} {v:V} {As:List Addr},RepO K Hs H true d v As->d.flat=false->As≠[])/\∀ {ds:List D} {vs:List V} {As:List Addr},az K Hs H true ds vs As->flats ds=false->As≠[] :=
 RepO.ind (m1:=fun d _ As=>d.flat=false->As≠[]) (m2:=fun ds _ As=>flats ds=false->As≠[]) (fun _ _ f _ h=>by rw [f rfl] at h; cases h) (fun _ _ _ _ _ _ _ _ _=>xbJ _ _) (fun _ _ _ _ _ _ n _ ih _=>ih n) (fun _ _ _ _ _ _ _ _ _=>xbJ _ _) (fun _ _ _ _ _ _ _ _ _=>xbJ _ _)
  (fun h=>by simp [flats] at h) fun d _ _ _ _ _ _ _ i1 i2 h=>by
   cases e:d.flat with
   | false=>exact fun z=>i1 e (xbg.mp z).1
   | true =>
    simp only [flats,e,Bool.true_and] at h
    exact fun z=>i2 h (xbg.mp z).2
theorem RepO.ne (r:RepO K Hs H true d v As) (h:d.flat=false):As≠[]:=RepO.ne2.1 r h
theorem az.ne (r:az K Hs H true ds vs As) (h:flats ds=false):As≠[]:=RepO.ne2.2 r h
theorem RepO.nil_of (r:RepO K Hs H fl d v As) (h:d.flat=true):As=[]:=by
 cases r with
 | sh _ _=>rfl
 | tup _ _ n _=>simp [D.flat,n] at h
 | _=>simp [D.flat] at h
def wpN (i:Nat):WP:=fun ρ Q=>match ρ[i]? with
 | some (some (.ow fl d))=>Q fl d fun fl2 d2=>ρ.set i (some (.ow fl2 d2))
 | _=>False
theorem SR.put (i:Nat) (s:SR K Hs H ρ σ tot):ρ[i]? = some (some (.ow fl d))->tot.Nodup ->
  ∃ (v:V) (As tot':List Addr),σ[i]? = some (some v)/\As≠[]/\RepO K Hs H fl d v As/\As.Sublist tot/\∀ Hs2 H2 fl2 d2 As2,Same Hs Hs2->RepO K Hs2 H2 fl2 d2 v As2->As2≠[]->As2.Nodup->(∀ a∈As2,a∈tot->a∈As)->(∀ a∈tot,a∉As->H2 a=H a) ->
   ∃ tot2,tot2.Nodup/\(∀ a∈tot2,a∈tot\/a∈As2)/\SR K Hs2 H2 (ρ.set i (some (.ow fl2 d2))) σ tot2:=by
 induction s generalizing i with
 | nil=>intro e; simp at e
 | @non ρ σ tot o q ih =>
  intro e n
  cases i with
  | zero=>simp at e
  | succ i =>
   obtain ⟨v,As,t,a,b,c,d,g⟩:=ih i (by simpa using e) n
   refine ⟨v,As,t,by simpa using a,b,c,d,fun Hs2 H2 fl2 d2 As2 s2 r2 ne2 nd2 dj st=>?_⟩
   obtain ⟨t2,x,y,z⟩:=g Hs2 H2 fl2 d2 As2 s2 r2 ne2 nd2 dj st
   exact ⟨t2,x,y,.non z⟩
 | sh r q ih =>
  intro e n
  cases i with
  | zero=>simp at e
  | succ i =>
   obtain ⟨v,As,t,a,b,c,d,g⟩:=ih i (by simpa using e) n
   refine ⟨v,As,t,by simpa using a,b,c,d,fun Hs2 H2 fl2 d2 As2 s2 r2 ne2 nd2 dj st=>?_⟩
   obtain ⟨t2,x,y,z⟩:=g Hs2 H2 fl2 d2 As2 s2 r2 ne2 nd2 dj st
   exact ⟨t2,x,y,.sh (r.same s2) z⟩
 | xc q ih =>
  intro e n
  cases i with
  | zero=>simp at e
  | succ i =>
   obtain ⟨v,As,t,a,b,c,d,g⟩:=ih i (by simpa using e) n
   refine ⟨v,As,t,by simpa using a,b,c,d,fun Hs2 H2 fl2 d2 As2 s2 r2 ne2 nd2 dj st=>?_⟩
   obtain ⟨t2,x,y,z⟩:=g Hs2 H2 fl2 d2 As2 s2 r2 ne2 nd2 dj st
   exact ⟨t2,x,y,.xc z⟩
 | @ow ρ σ t2 B fl0 d0 v ne r q ih =>
  intro e n
  obtain ⟨n1,n2,n3⟩:=xaj.mp n
  cases i with
  | zero =>
   simp at e
   obtain ⟨rfl,rfl⟩:=e
   refine ⟨v,B,t2,rfl,ne,r,xa5 _ _,fun Hs2 H2 fl2 d2 As2 s2 r2 ne2 nd2 dj st=>⟨As2++t2,xaj.mpr ⟨nd2,n2,fun a ha b hb e=>?_⟩,fun a h=>?_,.ow ne2 r2 (q.stay s2 fun a h=>st a (xag _ h) fun z=>n3 a z a h rfl)⟩⟩
   ·subst e
    exact n3 a (dj a ha (xag _ hb)) a hb rfl
   ·exact (xaf.mp h).symm.imp (fun z=>xag _ z) id
  | succ i =>
   obtain ⟨v,As,t,a,b,c,d,g⟩:=ih i (by simpa using e) n2
   have hB:∀ x∈B,x∉As:=fun x hx m=>n3 x hx x (d.subset m) rfl
   refine ⟨v,As,B++t,by simpa using a,b,c,d.trans (xan _ _),fun Hs2 H2 fl2 d2 As2 s2 r2 ne2 nd2 dj st=>?_⟩
   obtain ⟨t2,x,y,z⟩:=g Hs2 H2 fl2 d2 As2 s2 r2 ne2 nd2 (fun a ha m=>dj a ha (xag _ m)) fun a ha m=>st a (xag _ ha) m
   refine ⟨B++t2,xaj.mpr ⟨n1,x,fun a ha b hb e=>?_⟩,fun a h=>?_,.ow ne (r.stay s2 fun a h=>st a (xap _ h) (hB a h)) z⟩
   ·subst e
    rcases y a hb with w | w
    ·exact n3 a ha a w rfl
    ·exact hB a ha (dj a w (xap _ ha))
   ·rcases xaf.mp h with w | w
    ·exact .inl (xap _ w)
    ·exact (y a w).imp (fun w=>xag _ w) id
 | @lk ρ σ t2 B a0 fl0 d0 ne r q ih =>
  intro e n
  obtain ⟨n1,n2,n3⟩:=xaj.mp n
  cases i with
  | zero=>simp at e
  | succ i =>
   obtain ⟨v,As,t,a,b,c,d,g⟩:=ih i (by simpa using e) n2
   have hB:∀ x∈B,x∉As:=fun x hx m=>n3 x hx x (d.subset m) rfl
   refine ⟨v,As,B++t,by simpa using a,b,c,d.trans (xan _ _),fun Hs2 H2 fl2 d2 As2 s2 r2 ne2 nd2 dj st=>?_⟩
   obtain ⟨t2,x,y,z⟩:=g Hs2 H2 fl2 d2 As2 s2 r2 ne2 nd2 (fun a ha m=>dj a ha (xag _ m)) fun a ha m=>st a (xag _ ha) m
   refine ⟨B++t2,xaj.mpr ⟨n1,x,fun a ha b hb e=>?_⟩,fun a h=>?_,.lk ne (r.stay s2 fun a h=>st a (xap _ h) (hB a h)) z⟩
   ·subst e
    rcases y a hb with w | w
    ·exact n3 a ha a w rfl
    ·exact hB a ha (dj a w (xap _ ha))
   ·rcases xaf.mp h with w | w
    ·exact .inl (xap _ w)
    ·exact (y a w).imp (fun w=>xag _ w) id
theorem eU {X:Cx} (h:PE X e (tVar i)):QP X K e (wpN i):=PE.imp h fun σ H Qv hx=>ex4 hx fun Hs ρ tot Q sr h f=>by
 unfold wpN at h
 split at h
 ·rename_i fl d e1
  obtain ⟨v,As,t,e2,ne,r,sb,g⟩:=SR.put i sr.sr e1 sr.nod
  refine ⟨v,e2,f v H Hs fl d _ (Grow.refl sr.wf) ⟨As,r,ne,sb.nodup sr.nod,fun a h=>sr.own a (sb.subset h),fun Hs2 H2 fl2 d2 As2 s2 w2 n2 _ r2 ne2 nd2 o2 st=>?_⟩ h⟩
  obtain ⟨t2,x,y,z⟩:=g Hs2 H2 fl2 d2 As2 s2 r2 ne2 nd2 (fun a ha m=>(o2 a ha).2.elim id fun q=>absurd q (sr.sr.own a m).ne) fun a ha m=>st a (sr.sr.own a ha).ne m
  exact ⟨t2,z,w2,x,fun a h=>(y a h).elim (fun q=>n2 a (sr.own a q) (sr.sr.own a q).ne) fun q=>(o2 a q).1⟩
 ·exact h.elim
theorem RepO.wk (h:fl2=true->fl=true) (r:RepO K Hs H fl d v As):RepO K Hs H fl2 d v As:=by
 cases fl2 with
 | false=>exact r.fls
 | true=>rw [h rfl] at r; exact r
theorem az.wk {fl fl2:Bool} {d:List D} {v:List V} {As:List Addr} (h:fl2=true->fl=true) (r:az K Hs H fl d v As):az K Hs H fl2 d v As:=by
 cases fl2 with
 | false=>exact r.fls
 | true=>rw [h rfl] at r; exact r
theorem az.at (r:az K Hs H fl ds vs As) (e:ds[j]? = some d) (n:As.Nodup) :
  ∃ (v:V) (B:List Addr),vs[j]? = some v/\RepO K Hs H fl d v B/\B.Sublist As/\∀ Hs2 H2 fl2 d2 B2,Same Hs Hs2->(fl2=true->fl=true)->RepO K Hs2 H2 fl2 d2 v B2->B2.Nodup->(∀ a∈B2,a∈As->a∈B)->(∀ a∈As,a∉B->H2 a=H a) ->
   ∃ As2,As2.Nodup/\(∀ a∈As2,(a∈As/\a∉B)\/a∈B2)/\(B2≠[]->As2≠[])/\az K Hs2 H2 fl2 (ds.set j d2) vs As2:=by
 induction ds generalizing vs As j with
 | nil=>simp at e
 | cons x ds ih =>
  obtain ⟨v,us,A,B,rfl,rfl,r,rs⟩:=r.c
  obtain ⟨n1,n2,n3⟩:=xaj.mp n
  cases j with
  | zero =>
   simp at e
   subst e
   refine ⟨v,A,rfl,r,xa5 _ _,fun Hs2 H2 fl2 d2 B2 s2 hf r2 nd2 dj st=>⟨B2++B,xaj.mpr ⟨nd2,n2,fun a ha b hb e=>?_⟩,fun a h=>?_,fun ne z=>ne (xbg.mp z).1,.cons r2 ((rs.wk hf).stay s2 fun a h=>st a (xag _ h) fun z=>n3 a z a h rfl)⟩⟩
   ·subst e
    exact n3 a (dj a ha (xag _ hb)) a hb rfl
   ·rcases xaf.mp h with w | w
    ·exact .inr w
    ·exact .inl ⟨xag _ w,fun z=>n3 a z a w rfl⟩
  | succ j =>
   obtain ⟨v,C,a,b,c,g⟩:=ih (j:=j) rs (by simpa using e) n2
   have hA:∀ x∈A,x∉C:=fun x hx m=>n3 x hx x (c.subset m) rfl
   refine ⟨v,C,by simpa using a,b,c.trans (xan _ _),fun Hs2 H2 fl2 d2 B2 s2 hf r2 nd2 dj st=>?_⟩
   obtain ⟨As2,x,y,w,z⟩:=g Hs2 H2 fl2 d2 B2 s2 hf r2 nd2 (fun a ha m=>dj a ha (xag _ m)) fun a ha m=>st a (xag _ ha) m
   refine ⟨A++As2,xaj.mpr ⟨n1,x,fun a ha b hb e=>?_⟩,fun a h=>?_,fun ne q=>w ne (xbg.mp q).2,.cons ((r.wk hf).stay s2 fun a h=>st a (xap _ h) (hA a h)) z⟩
   ·subst e
    rcases y a hb with q | q
    ·exact n3 a ha a q.1 rfl
    ·exact hA a ha (dj a q (xap _ ha))
   ·rcases xaf.mp h with q | q
    ·exact .inl ⟨xap _ q,hA a q⟩
    ·exact (y a q).imp (fun q=>⟨xag _ q.1,q.2⟩) id
def wpIx (p:WP) (t:WE):WP:=fun ρ Q=>p ρ fun fl d up=>t ρ fun _ y=>fl=true/\match y with
 | .int i=>match d with
  | .list ds=>∃ j d',ixN ds.length i=some j/\ds[j]? = some d'/\d'.flat=false/\Q true d' fun fl2 d2=>up fl2 (.list (ds.set j d2))
  | .tup ds=>∃ j d',ixN ds.length i=some j/\ds[j]? = some d'/\d'.flat=false/\Q true d' fun fl2 d2=>up fl2 (.tup (ds.set j d2))
  | _=>False
 | _=>False
theorem yf {α:Type} {xs:List α} {i:Int} {j:Nat} {x:α} (h:ixN xs.length i=some j) (e:xs[j]? = some x):atI xs i=some x:=by unfold L2.atI; rw [h]; exact e
theorem xg {ds:List D} {j:Nat} {d:D} (e:ds[j]? = some d) (h:d.flat=false):flats ds=false:=by
 cases q:flats ds with
 | false=>rfl
 | true=>rw [jR.mp q d (xaL e)] at h; cases h
theorem uT {ds:List D} {j:Nat} {d d2:D} (e:ds[j]? = some d) (h:d2.flat=false):flats (ds.set j d2)=false:=by
 have hj:j<ds.length:=(xaw.mp e).1
 exact xg (j:=j) (d:=d2) (by simp [hj]) h
theorem GC {X:Cx} {a b:Expr} {p:WP} {t:WE} {pos:Pos} (hu:X.A.units+64<cLine) (ha:QP X K a p) (hb:QE X K b t) (hs:PlainIx b:=by exact fun _ _=>rfl) (hK:X.K=K:=by rfl):QP X K (.Subscript a b pos) (wpIx p t):=by
 refine PE.imp (pe_ix (kIxD hu hK) ha hb hs) fun σ H Qv hx=>ex4 hx fun Hs ρ tot Q sr h f=>?_
 refine ⟨Hs,ρ,tot,_,sr,h,fun v H1 Hs1 fl d up g1 p1 q1=>⟨Hs1,ρ,tot,_,sr.grow g1,q1,fun u H2 Hs2 m y As g2 r2 f2 q2=>?_⟩⟩
 have p2:=p1.grow g2
 have gg:=g1.trans g2
 obtain ⟨rfl,q2⟩:=q2
 have ry:=r2.rep g2.wf
 cases ry with
 | int i =>
  obtain ⟨As',r,ne,nd,own,k⟩:=p2.ex
  cases r with
  | sh hf _=>exact absurd rfl ne
  | @list a0 vs0 ds0 A0 hz e rs =>
   obtain ⟨j,d',e1,e2,hd,q⟩:=q2
   obtain ⟨na,nb⟩:=xax.mp nd
   obtain ⟨w,B,e3,r3,sb,g⟩:=rs.at e2 nb
   refine .inl (.inl ⟨_,w,.inl (.inl e),yf (by rw [<- rs.length]; exact e1) e3,f w H2 Hs2 true d' _ gg ⟨B,r3,r3.ne hd,sb.nodup nb,fun a h=>own a (xab _ (sb.subset h)),fun Hs3 H3 fl3 d3 As3 s3 w3 n3 hf r4 ne3 nd3 o3 st=>?_⟩ q⟩)
   have st':∀ x∈A0,x∉B->H3 x=H2 x:=fun x hx m=>st x (rs.own x hx).ne m
   obtain ⟨As4,x4,y4,z4,r5⟩:=g Hs3 H3 fl3 d3 As3 s3 hf r4 nd3 (fun a ha m=>(o3 a ha).2.elim id fun q=>absurd q (rs.own a m).ne) st'
   have eA:H3 a0=H2 a0:=st a0 (by rw [e]; exact fun z=>nomatch z) fun m=>na (sb.subset m)
   have cl:∀ a∈As4,Hs3 a=none/\(a∈a0 :: A0\/H2 a=none):=fun a h=>by
    rcases y4 a h with ⟨m,_⟩ | m
    ·exact ⟨n3 a (own a (xab _ m)) (rs.own a m).ne,.inl (xab _ m)⟩
    ·exact ⟨(o3 a m).1,(o3 a m).2.imp (fun q=>xab _ (sb.subset q)) id⟩
   refine k Hs3 H3 fl3 (.list _) (_ :: As4) s3 w3 n3 hf (.list hz (eA.trans e) r5) (by simp) (xax.mpr ⟨fun m=>?_,x4⟩) (fun a h=>?_) fun a h1 h2=>st a h1 fun m=>h2 (xab _ (sb.subset m))
   ·rcases y4 _ m with ⟨q,_⟩ | q
    ·exact na q
    ·rcases (o3 _ q).2 with q | q
     ·exact na (sb.subset q)
     ·rw [e] at q; cases q
   ·rcases xak.mp h with rfl | h
    ·exact ⟨n3 _ (own _ xac) (by rw [e]; exact fun z=>nomatch z),.inl xac⟩
    ·exact cl a h
  | tup hz e hn rs =>
   obtain ⟨j,d',e1,e2,hd,q⟩:=q2
   obtain ⟨w,B,e3,r3,sb,g⟩:=rs.at e2 nd
   refine .inl (.inr ⟨_,w,.inl (.inl (g2.wf.sub _ _ e)),yf (by rw [<- rs.length]; exact e1) e3,f w H2 Hs2 true d' _ gg ⟨B,r3,r3.ne hd,sb.nodup nd,fun a h=>own a (sb.subset h),fun Hs3 H3 fl3 d3 As3 s3 w3 n3 hf r4 ne3 nd3 o3 st=>?_⟩ q⟩)
   obtain ⟨As4,x4,y4,z4,r5⟩:=g Hs3 H3 fl3 d3 As3 s3 hf r4 nd3 (fun a ha m=>(o3 a ha).2.elim id fun q=>absurd q (rs.own a m).ne) (fun x hx m=>st x (rs.own x hx).ne m)
   have hn2:flats (List.set _ j d3)=false:=uT e2 (by
    cases hh:d3.flat with
    | false=>rfl
    | true=>exact absurd (r4.nil_of hh) ne3)
   refine k Hs3 H3 fl3 (.tup _) As4 s3 w3 n3 hf (.tup hz (s3 _ _ e) hn2 r5) (z4 ne3) x4 (fun a h=>?_) fun a h1 h2=>st a h1 fun m=>h2 (sb.subset m)
   rcases y4 a h with ⟨m,_⟩ | m
   ·exact ⟨n3 a (own a m) (rs.own a m).ne,.inl m⟩
   ·exact ⟨(o3 a m).1,(o3 a m).2.imp (fun q=>sb.subset q) id⟩
  | _=>exact q2.elim
 | _=>exact q2.elim
end
section
variable {X:Cx} {K:PySem.W.Frag} {e:Expr} {p:WP} {te:WE} {apos cpos pos:Pos}
def lX (fl:Bool) (m:Md) (d:D):Option Bool:=match m with
 | .sh=>some (fl && d.flat)
 | .ow b=>some (fl && b)
 | .bo=>bif d.flat then some fl else none
def wApp (p:WP) (te:WE):WS:=fun E ρ=>p ρ fun fl d up=>match d with
 | .list xs=>te ρ fun m x=>xs.length<sizeLine/\match lX fl m x with
  | some fl2=>E.nx (up fl2 (.list (xs++[x])))
  | none=>False
 | _=>False
theorem xN (w:Wf Hs H) (r:RM K Hs H m d v As) (h:lX fl m d=some fl2):(fl2=true->fl=true)/\∃ B,B.Sublist As/\RepO K Hs H fl2 d v B:=by
 cases m with
 | sh =>
  cases h
  exact ⟨fun z=>by cases fl <;> simp_all,[],xaW _,.sh (fun z=>by cases fl <;> simp_all) r.2⟩
 | ow b =>
  cases h
  refine ⟨fun z=>by cases fl <;> simp_all,As,List.Sublist.refl _,r.1.wk fun z=>by cases fl <;> simp_all⟩
 | bo =>
  cases hf:d.flat with
  | true =>
   simp only [lX,hf,cond_true,Option.some.injEq] at h
   subst h
   exact ⟨id,[],xaW _,.sh (fun _=>hf) (r.flat w hf)⟩
  | false=>simp [lX,hf] at h
theorem Place.put (pl:Place K Hs1 H1 σ fl (.list xs) v up) (g:Grow Hs1 H1 Hs2 H2) :
  ∃ a vs A,v=.ref a/\H2 a=some (.lst vs)/\H1 a=some (.lst vs)/\az K Hs2 H2 fl xs vs A/\(a :: A).Nodup/\(∀ x∈a :: A,Hs2 x=none/\H1 x≠none) /\
   ∀ fl2 ys ws C,(fl2=true->fl=true)->az K Hs2 H2 fl2 ys ws C->ws.length<=sizeLine->C.Nodup->a∉C->(∀ x∈C,x∈A\/(Hs2 x=none/\H1 x=none))->∃ tot2,SRel K Hs2 (up fl2 (.list ys)) σ (upd H2 a (.lst ws)) tot2:=by
 obtain ⟨As',r,ne,nd,own,k⟩:=pl.ex
 cases r with
 | sh hf _=>exact absurd rfl ne
 | @list a vs _ A hz e rs =>
  have e2:=g.all _ _ e
  have rs2:=rs.grow g.sh g.all
  have hw:∀ x∈a :: A,Hs1 x=none/\H1 x≠none:=fun x hx=>⟨own x hx,by
   rcases xak.mp hx with rfl | hx
   ·rw [e]; exact fun z=>nomatch z
   ·exact (rs.own x hx).ne⟩
  exact ⟨a,vs,A,rfl,e2,e,rs2,nd,fun x hx=>⟨g.hsn (hw x hx).1 (hw x hx).2,(hw x hx).2⟩,fun fl2 ys ws C hf rw' hz ndC naC hC=>k.node g hw (fun _ z=>by cases z) hf (.list hz upd_same (rw'.stay (Same.refl _) fun b hb=>upd_ne fun z=>naC (by subst z; exact hb))) ndC naC hC⟩
theorem Place.isL (w:Wf Hs1 H1) (pl:Place K Hs1 H1 σ fl (.list xs) v up):∃ a vs,v=.ref a/\SqL K H1 a vs:=by
 obtain ⟨As',r,ne,nd,own,k⟩:=pl.ex
 cases r with
 | sh hf _=>exact absurd rfl ne
 | list hz e rs=>exact ⟨_,_,rfl,.inl (.inl e)⟩
theorem tX (ho:QP X K e p) (he:QE X K e2 te) (hK:X.K=K:=by rfl) (hs:swapsWith (.Call (.Attribute e "append" apos) [e2] [] cpos) none pos.line X.env=pure false:=by rfl)
  (hbase:attributeBase e "append" X.env (eval e X.env)=eval e X.env:=by rfl)
  (hfew:((backTo cpos (starEach [e2] X.env)).all (fun x=>!x.1) && (backToKw cpos (keywordEach [] X.env)).all (fun x=>x.1.isSome)
   && decide ([e2].length+([]:List Keyword).length+(if ([]:List Keyword).isEmpty then 0 else 1)<30))=true:=by rfl)
  (hline:(apos.endLine == cpos.line)=true:=by rfl) (hss:starEach (e2 :: []) X.env=(false,eval e2 X.env) :: starEach [] X.env:=by rfl) (hplain:(backTo cpos (starEach [] X.env)).any (·.1)=false:=by rfl) :
  QS X K L (.Expr (.Call (.Attribute e "append" apos) [e2] [] cpos) pos) (wApp p te):=by
 subst hK
 refine PS.imp (ps_expr (pe_bm PySem.F.plainAttrs_list PySem.F.slot_list_append PySem.F.type_list_append mt_append ho (pa_cons he pa_nil hss) hbase hfew hline hss hplain) hs) fun D σ H hx=>fK hx fun Hs ρ tot E sr h k1 k2 k3 k4=>?_
 refine ⟨Hs,ρ,tot,_,sr,h,fun v H1 Hs1 fl d up g1 p1 q1=>?_⟩
 cases d with
 | list xs =>
  obtain ⟨a1,vs1,e1,s1⟩:=p1.isL g1.wf
  subst e1
  refine ⟨.inl ⟨rfl,_,s1⟩,Hs1,ρ,tot,_,sr.grow g1,q1,fun y H2 Hs2 m x As g2 r2 f2 q2=>?_⟩
  obtain ⟨hz,q2⟩:=q2
  obtain ⟨a,vs,A,ea,e2,_,rs,nd,hn,k⟩:=p1.put g2
  cases ea
  have hl:=rs.length
  refine ⟨a1,vs,y,rfl,rfl,e2,by lia,?_⟩
  cases hp:lX fl m x with
  | none=>rw [hp] at q2; exact q2.elim
  | some fl2 =>
   rw [hp] at q2
   obtain ⟨hf,B,sb,rb⟩:=xN g2.wf r2 hp
   obtain ⟨na,nA⟩:=xax.mp nd
   have fB:∀ x∈B,Hs2 x=none/\H1 x=none:=fun x hx=>f2.2 x (sb.subset hx)
   have c1:(A++(B++[])).Nodup:=by
    rw [xaE]
    exact xaj.mpr ⟨nA,sb.nodup f2.1,fun x hx z hz e=>by subst e; exact (hn x (xab _ hx)).2 (fB x hz).2⟩
   have c2:a1∉A++(B++[]):=by
    rw [xaE]
    intro m
    rcases xaf.mp m with m | m
    ·exact na m
    ·exact (hn _ xac).2 (fB _ m).2
   have c3:∀ x∈A++(B++[]),x∈A\/(Hs2 x=none/\H1 x=none):=by
    rw [xaE]
    intro x hx
    exact (xaf.mp hx).imp id fun z=>fB x z
   obtain ⟨tot2,sr2⟩:=k fl2 (xs++[x]) (vs++[y]) (A++(B++[])) hf ((rs.wk hf).append (.cons rb .nil)) (by rw [xam]; simp; lia) c1 c2 c3
   exact k1 σ _ Hs2 _ tot2 (g1.sh.trans g2.sh) sr2 q2
 | _=>exact q1.elim
def iJ:WE:=fun _ Q=>Q (.ow true) (.dT [])
theorem iz:QE X K (.Dict [] [] pos) iJ:=PE.imp pe_dnewT fun σ H Qv hx=>ex4 hx fun Hs ρ tot Q sr h f=>fun a ha =>
 f _ _ Hs (.ow true) (.dT []) [a] (newL sr.wf ha fun _ z=>nomatch z) ⟨.dT (vs:=[]) ⟨xar _,fun p hp=>nomatch hp⟩ upd_same .nil,by simp⟩ ⟨by simp,fun b hb=>by
  obtain rfl:b=a:=by simpa using hb
  exact ⟨sr.wf.sub.free ha,ha⟩⟩ h
section
variable {κ:Type} [DecidableEq κ]
theorem uM {Hs H:Hp} {fl:Bool} {k:κ} {d:D} {v:V} (r:RepO K Hs H fl d v []) {kvs:List (κ × D)} {vs:List V} {As:List Addr} (qs:az K Hs H fl (kvs.map (·.2)) vs As):∃ ws Bs,Bs.Sublist As /\
  az K Hs H fl ((kvs.map fun kv=>if kv.1=k then (kv.1,d) else kv).map (·.2)) ws Bs/\((kvs.map (·.1)).zip vs).map (fun kv=>if kv.1=k then (kv.1,v) else kv)=(((kvs.map fun kv=>if kv.1=k then (kv.1,d) else kv)).map (·.1)).zip ws:=by
 induction kvs generalizing vs As with
 | nil=>exact ⟨[],[],xaW _,.nil,rfl⟩
 | cons p kvs ih =>
  obtain ⟨u,vs,A,B,rfl,rfl,q,qs⟩:=az.c (d:=p.2) qs
  obtain ⟨ws,Bs,sb,rs,e⟩:=ih qs
  by_cases h:p.1=k
  ·refine ⟨v :: ws,[]++Bs,by simpa using sb.trans (xan _ _),?_,?_⟩
   ·simp only [xaq,h,if_true]
    exact .cons r rs
   ·simp only [xaq,xbj,h,if_true,e]
  ·refine ⟨u :: ws,A++Bs,sb.append_left _,?_,?_⟩
   ·simp only [xaq,h,if_false]
    exact .cons q rs
   ·simp only [xaq,xbj,h,if_false,e]
theorem wY {Hs H:Hp} {fl:Bool} {k:κ} {d:D} {v:V} (r:RepO K Hs H fl d v []) {kvs:List (κ × D)} {vs:List V} {As:List Addr} (q:az K Hs H fl (kvs.map (·.2)) vs As) :
  ∃ ws Bs,Bs.Sublist As/\az K Hs H fl ((putG kvs k d).map (·.2)) ws Bs/\putK ((kvs.map (·.1)).zip vs) k v=((putG kvs k d).map (·.1)).zip ws:=by
 have hl:=q.length
 rw [xad] at hl
 unfold putK putG
 rw [Bv hl]
 cases h:kvs.any fun kv=>decide (kv.1=k) with
 | true =>
  simp only [if_true]
  exact uM r q
 | false =>
  simp only [xat,if_false]
  refine ⟨vs++[v],As++([]++[]),by simp,?_,?_⟩
  ·rw [xaF]
   exact q.append (.cons r .nil)
  ·rw [xaF,List.zip_append (by rw [xad]; exact hl)]
   rfl
theorem vd {Hs H:Hp} {fl:Bool} {k:κ} {d:D} {v:V} (r:Rep K Hs d v) (hd:d.flat=true) {kvs:List (κ × D)} {vs:List V} {As:List Addr} (q:az K Hs H fl (kvs.map (·.2)) vs As) :
  ∃ ws Bs,Bs.Sublist As/\az K Hs H fl ((putG kvs k d).map (·.2)) ws Bs/\putK ((kvs.map (·.1)).zip vs) k v=((putG kvs k d).map (·.1)).zip ws:=wY (.sh (fun _=>hd) r) q
theorem il {β:Type} (kvs:List (κ × β)) (k:κ) (v:β):(putG kvs k v).length<=kvs.length+1:=by
 unfold putG
 split
 ·rw [xad]; exact xbe _ _
 ·simp
theorem n_ {β:Type} {kvs:List (κ × β)} {k:κ} {v:β} {p:κ × β} (h:p∈putG kvs k v):p.1=k\/p.1∈kvs.map (·.1):=by
 unfold putG at h
 split at h
 ·obtain ⟨q,hq,e⟩:=xai.mp h
  by_cases hk:q.1=k
  ·rw [if_pos hk] at e; subst e; exact .inl hk
  ·rw [if_neg hk] at e; subst e; exact .inr (xai.mpr ⟨q,hq,rfl⟩)
 ·rcases xaf.mp h with h | h
  ·exact .inr (xai.mpr ⟨p,h,rfl⟩)
  ·have:p=(k,v):=by simpa using h
   subst this; exact .inl rfl
end
def pN (p:WP) (tk tv:WE):WS:=fun E ρ=>tv ρ fun _ x=>p ρ fun fl d up=>tk ρ fun _ y=>x.flat=true/\match d with
 | .dK kvs=>∃ k,y.key1=some k/\kvs.length<sizeLine/\E.nx (up fl (.dK (putG kvs k x)))
 | .dT kvs=>match y with
  | .tup ys=>∃ ks,dM ys=some ks/\kvs.length<sizeLine/\E.nx (up fl (.dT (putG kvs ks x)))
  | _=>False
 | _=>False
theorem vW (r:Rep K H d v) (h:d.key1=some k):kOk k=true:=by
 cases r <;> simp [D.key1] at h <;> subst h
 ·rfl
 ·rename_i hz; simp [kOk,hz]
theorem tD (r:Reps K H ds vs) (h:dM ds=some ks):ks.length=ds.length/\∀ k∈ks,kOk k=true:=by
 induction ds generalizing vs ks with
 | nil=>simp [dM] at h; subst h; exact ⟨rfl,fun k hk=>nomatch hk⟩
 | cons d ds ih =>
  obtain ⟨u,us,rfl,r,rs⟩:=r.c
  unfold dM at h
  cases e1:d.key1 with
  | none=>rw [e1] at h; simp at h
  | some k =>
   cases e2:dM ds with
   | none=>rw [e1,e2] at h; simp at h
   | some ks' =>
    rw [e1,e2] at h
    simp at h
    subst h
    obtain ⟨a,b⟩:=ih rs e2
    refine ⟨by simp [a],fun j hj=>?_⟩
    rcases xak.mp hj with rfl | hj
    ·exact vW r e1
    ·exact b j hj
theorem jk {a b c:Expr} {tk tv:WE} {pos':Pos} (hu:X.A.units+64<cLine) (ho:QP X K a p) (hi:QE X K b tk) (hv:QE X K c tv) (hs:swapsWith c (some (.Subscript a b pos')) pos.line X.env=pure false:=by rfl) :
  QS X K L (.Assign [.Subscript a b pos'] c pos) (pN p tk tv):=by
 refine PS.imp (ps_dput (by lia) ho hi hv hs) fun D σ H hx=>fK hx fun Hs ρ tot E sr h k1 k2 k3 k4=>?_
 refine ⟨Hs,ρ,tot,_,sr,h,fun v H1 Hs1 m1 x As1 g1 r1 f1 q1=>⟨Hs1,ρ,tot,_,sr.grow g1,q1,fun u H2 Hs2 fl d up g2 p2 q2=>⟨Hs2,ρ,tot,_,(sr.grow g1).grow g2,q2,fun y H3 Hs3 m3 yd As3 g3 r3 f3 q3=>?_⟩⟩⟩
 obtain ⟨hx,q3⟩:=q3
 have rx:Rep K Hs3 x v:=((r1.grow g2).grow g3).flat g3.wf hx
 have ry:=r3.rep g3.wf
 obtain ⟨As',r,ne,nd,own,k⟩:=p2.ex
 have sm:Same Hs Hs3:=(g1.sh.trans g2.sh).trans g3.sh
 have lv:∀ x∈As',Hs2 x=none/\H2 x≠none:=fun x hx=>⟨own x hx,(r.own x hx).ne⟩
 cases r with
 | sh hf _=>exact absurd rfl ne
 | @dK a0 vs kvs A kk e rs =>
  obtain ⟨key,hk,hz,q⟩:=q3
  have ey:=ry.key hk
  subst ey
  obtain ⟨na,nA⟩:=xax.mp nd
  obtain ⟨ws,Bs,sb,rw',ew⟩:=vd (k:=key) rx hx (rs.grow g3.sh g3.all)
  have hl:kvs.length=vs.length:=by have:=rs.length; rwa [xad] at this
  refine ⟨a0,_,rfl,DPut.k (g3.all _ _ e) (by rw [xbn,xad,<- hl,xcc]; exact hz),?_⟩
  rw [ew]
  have nB:a0∉Bs:=fun z=>na (sb.subset z)
  obtain ⟨tot2,sr2⟩:=k.node (fl2:=fl) (d2:=.dK (putG kvs key x)) g3 lv (fun _ z=>by cases z) id (.dK ⟨xaz (il _ _ _) hz,fun p hp=>(n_ hp).elim (fun z=>by rw [z]; exact vW ry hk) fun z=>by obtain ⟨p',hp',e'⟩:=xai.mp z; rw [<- e']; exact kk.2 p' hp'⟩ upd_same (rw'.stay (Same.refl _) fun b hb=>upd_ne fun z=>nB (by subst z; exact hb)))
   (sb.nodup nA) nB fun b hb=>.inl (sb.subset hb)
  exact k1 σ _ Hs3 _ tot2 sm sr2 q
 | @dT a0 vs kvs A kk e rs =>
  cases ry with
  | tup t1 e1 q1' =>
   obtain ⟨key,hk,hz,q⟩:=q3
   obtain ⟨b,eb,e5⟩:=Rep.keyT (.tup t1 e1 q1') hk
   cases eb
   obtain ⟨kl,ko⟩:=tD q1' hk
   obtain ⟨na,nA⟩:=xax.mp nd
   obtain ⟨ws,Bs,sb,rw',ew⟩:=vd (k:=key) rx hx (rs.grow g3.sh g3.all)
   have hl:kvs.length=vs.length:=by have:=rs.length; rwa [xad] at this
   refine ⟨a0,_,rfl,DPut.t (g3.all _ _ e) e5 (by rw [xbn,xad,<- hl,xcc]; exact hz),?_⟩
   rw [ew]
   have nB:a0∉Bs:=fun z=>na (sb.subset z)
   have l1:=q1'.length
   obtain ⟨tot2,sr2⟩:=k.node (fl2:=fl) (d2:=.dT (putG kvs key x)) g3 lv (fun _ z=>by cases z) id (.dT ⟨xaz (il _ _ _) hz,fun p hp=>(n_ hp).elim (fun z=>by rw [z]; exact ⟨by lia,ko⟩) fun z=>by obtain ⟨p',hp',e'⟩:=xai.mp z; rw [<- e']; exact kk.2 p' hp'⟩ upd_same (rw'.stay (Same.refl _) fun b hb=>upd_ne fun z=>nB (by subst z; exact hb)))
    (sb.nodup nA) nB fun b hb=>.inl (sb.subset hb)
   exact k1 σ _ Hs3 _ tot2 sm sr2 q
  | _=>exact q3.elim
 | _=>exact q3.elim
end
abbrev WJ:=Env->Str->(Str->Prop)->Prop
section
variable {X:Cx} {K:PySem.W.Frag} {e:Expr} {j:WJ}
def Hh:List D->Option (List Str)
 | []=>some []
 | .str x :: xs=>(Hh xs).map (x :: ·)
 | _ :: _=>none
def keyT (k:List Key):D:=.tup (k.map keyD)
def jl:W1:=fun _ x Q=>match x with
 | .list xs=>∃ ks sh,xs=ks.map keyT/\(∀ k∈ks,shOf k=true :: sh)/\∀ ms:List (List Key),ms.Perm ks->(ms.Pairwise fun a b=>ltK b a=false)->Q (.ow true) (.list (ms.map keyT))
 | _=>False
theorem Bh {H:Hp} {ks:List Key} {vs:List V} (r:Reps K H (ks.map keyD) vs):vs=ks.map kV/\∀ k∈ks,kOk k=true:=by
 induction ks generalizing vs with
 | nil=>exact ⟨r.n0,fun k h=>nomatch h⟩
 | cons k ks ih =>
  obtain ⟨u,us,rfl,r1,rs⟩:=Reps.c (d:=keyD k) r
  obtain ⟨e,o⟩:=ih rs
  subst e
  cases k with
  | inl i=>cases r1; exact ⟨rfl,fun j hj=>by rcases xak.mp hj with rfl | hj; rfl; exact o j hj⟩
  | inr x =>
   cases r1 with
   | str hz=>exact ⟨rfl,fun j hj=>by rcases xak.mp hj with rfl | hj; simp [kOk,hz]; exact o j hj⟩
theorem Bk {H:Hp} {ks:List (List Key)} {vs:List V} (r:Reps K H (ks.map keyT) vs):cT H vs ks/\∀ k∈ks,k.length<=sizeLine/\∀ j∈k,kOk j=true:=by
 induction ks generalizing vs with
 | nil=>rw [r.n0]; exact ⟨.nil,fun k h=>nomatch h⟩
 | cons k ks ih =>
  obtain ⟨u,us,rfl,r1,rs⟩:=Reps.c (d:=keyT k) r
  obtain ⟨t,o⟩:=ih rs
  cases r1 with
  | tup hz e q =>
   obtain ⟨e2,o2⟩:=Bh q
   subst e2
   exact ⟨.cons ⟨_,rfl,e⟩ t,fun j hj=>by
    rcases xak.mp hj with rfl | hj
    ·exact ⟨by simpa using hz,o2⟩
    ·exact o j hj⟩
theorem sY:BrC K (tL K) jl:=by
 intro Hs H m x v As Qd Qv w rx h f
 have r1:=rx.rep w
 cases r1 with
 | list z s q =>
  obtain ⟨ks,sh,rfl,hs,h⟩:=h
  obtain ⟨ta,ok⟩:=Bk q
  have hl:=q.length
  rw [xad] at hl
  refine ⟨_,ks,sh,s,ta,hs,fun zs ms l tz pm pw hl'=>?_⟩
  have rr:=tZ (K:=K) tz fun k hk=>ok k (pm.mem_iff.mp hk)
  exact f.lst w (by rw [xad,pm.length_eq]; lia) rr (jF ms) (h ms pm pw) l hl'
 | _=>exact h.elim
theorem yW (hK:X.K=K:=by rfl):CallR X (.builtin "sorted") (tL K):=by subst hK; exact ud
theorem pP:bootBuiltins "sorted" = some (.builtin "sorted"):=by decide +kernel
end
def shF (A:List Addr) (F:Nat->List Addr):Nat->List Addr
 | 0=>A
 | i+1=>F i
def Adr (K:PySem.W.Frag) (Hs H:Hp) (ρ:Env) (σ:St) (tot:List Addr) (F:Nat->List Addr):Prop:=(∀ i fl d,ρ[i]? = some (some (.ow fl d))->∃ v,σ[i]? = some (some v)/\F i≠[]/\RepO K Hs H fl d v (F i)) /\
  (∀ i,(F i).Sublist tot)/\∀ i j,i≠j->∀ a∈F i,a∉F j
theorem Adr.skip {K:PySem.W.Frag} {F:Nat->List Addr} (h:Adr K Hs H ρ σ tot F) (no:∀ fl d,o≠some (.ow fl d)):Adr K Hs H (o :: ρ) (u :: σ) tot (shF [] F):=by
 obtain ⟨a,b,c⟩:=h
 refine ⟨fun i fl d e=>?_,fun i=>?_,fun i j ne x hx=>?_⟩
 ·cases i with
  | zero=>simp at e; exact absurd e (no fl d)
  | succ i=>exact a i fl d (by simpa using e)
 ·cases i with
  | zero=>exact xaW _
  | succ i=>exact b i
 ·cases i with
  | zero=>exact mem0 hx
  | succ i =>
   cases j with
   | zero=>exact fun z=>mem0 z
   | succ j=>exact c i j (fun z=>ne (by rw [z])) x hx
theorem Adr.own {K:PySem.W.Frag} {tot B:List Addr} {F:Nat->List Addr} (h:Adr K Hs H ρ σ tot F) (n:(B++tot).Nodup) (hs:∀ fl d,sl=.ow fl d->B≠[]/\RepO K Hs H fl d v B):Adr K Hs H (some sl :: ρ) (some v :: σ) (B++tot) (shF B F):=by
 obtain ⟨a,b,c⟩:=h
 obtain ⟨n1,n2,n3⟩:=xaj.mp n
 refine ⟨fun i fl d e=>?_,fun i=>?_,fun i j ne x hx=>?_⟩
 ·cases i with
  | zero=>simp at e; exact ⟨v,rfl,hs fl d e⟩
  | succ i=>exact a i fl d (by simpa using e)
 ·cases i with
  | zero=>exact xa5 _ _
  | succ i=>exact (b i).trans (xan _ _)
 ·cases i with
  | zero =>
   cases j with
   | zero=>exact absurd rfl ne
   | succ j=>exact fun z=>n3 x hx x ((b j).subset z) rfl
  | succ i =>
   cases j with
   | zero=>exact fun z=>n3 x z x ((b i).subset hx) rfl
   | succ j=>exact c i j (fun z=>ne (by rw [z])) x hx
theorem SR.addrs {K:PySem.W.Frag} (s:SR K Hs H ρ σ tot):tot.Nodup->∃ F:Nat->List Addr,Adr K Hs H ρ σ tot F:=by
 induction s with
 | nil=>exact fun _=>⟨fun _=>[],fun i fl d e=>by simp at e,fun i=>xaW _,fun i j _ a h=>mem0 h⟩
 | non s ih =>
  intro n
  obtain ⟨F,h⟩:=ih n
  exact ⟨_,h.skip fun fl d z=>by cases z⟩
 | sh r s ih =>
  intro n
  obtain ⟨F,h⟩:=ih n
  exact ⟨_,h.skip fun fl d z=>by cases z⟩
 | xc s ih =>
  intro n
  obtain ⟨F,h⟩:=ih n
  exact ⟨_,h.skip fun fl d z=>by cases z⟩
 | ow ne r s ih =>
  intro n
  obtain ⟨F,h⟩:=ih (xaj.mp n).2.1
  exact ⟨_,h.own n fun fl d e=>by cases e; exact ⟨ne,r⟩⟩
 | lk ne r s ih =>
  intro n
  obtain ⟨F,h⟩:=ih (xaj.mp n).2.1
  exact ⟨_,h.own n fun fl d e=>by cases e⟩
abbrev Plan:=List (WE ⊕ Nat)
def mvs:Plan->List Nat
 | []=>[]
 | .inl _ :: r=>mvs r
 | .inr i :: r=>i :: mvs r
def movS:Option (Option Sl)->Option (Md × D)
 | some (some (.sh d))=>some (.sh,d)
 | some (some (.ow fl d))=>some (.ow fl,d)
 | _=>none
def jG:Plan->Env->(List (Md × D)->Prop)->Prop
 | [],_,Q=>Q []
 | .inl t :: r,ρ,Q=>t ρ fun m x=>jG r ρ fun ps=>Q ((m,x) :: ps)
 | .inr i :: r,ρ,Q=>match movS ρ[i]? with
  | some p=>jG r ρ fun ps=>Q (p :: ps)
  | none=>False
def tpM (K:PySem.W.Frag) (pl:Plan):TA:=fun σ H Qv=>∃ (Hs:Hp) (ρ:Env) (tot:List Addr) (F:Nat->List Addr) (Q:List (Md × D)->Prop),SRel K Hs ρ σ H tot/\(∀ i fl d,ρ[i]? = some (some (.ow fl d))->∃ v,σ[i]? = some (some v)/\F i≠[]/\RepO K Hs H fl d v (F i))/\(∀ i,(F i).Sublist tot)/\(∀ i j,i≠j->∀ a∈F i,a∉F j) /\
 jG pl ρ Q/\∀ vs H' Hs' ps As,Grow Hs H Hs' H'->RMs K Hs' H' ps vs As->As.Nodup->(∀ a∈As,Hs' a=none/\(H a=none\/∃ i∈mvs pl,a∈F i))->Q ps->Qv vs H'
abbrev QM (X:Cx) (K:PySem.W.Frag) (es:List Expr) (pl:Plan):Prop:=PA X es (tpM K pl)
section
variable {X:Cx} {K:PySem.W.Frag} {e:Expr} {es:List Expr} {te:WE} {pl:Plan} {pos:Pos}
theorem pM:QM X K [] []:=PA.imp pa_nil fun σ H Qv hx=>by
 obtain ⟨Hs,ρ,tot,F,Q,sr,h1,h2,h3,h,f⟩:=hx
 exact f [] H Hs [] [] (Grow.refl sr.wf) .nil xaB (fun a h=>mem0 h) h
theorem qm_e (ha:QE X K e te) (hr:QM X K es pl) (hs:starEach (e :: es) X.env=(false,eval e X.env) :: starEach es X.env:=by rfl):QM X K (e :: es) (.inl te :: pl):=by
 refine PA.imp (pa_cons ha hr hs) fun σ H Qv hx9=>?_
 obtain ⟨Hs,ρ,tot,F,Q,sr,h1,h2,h3,h,f⟩:=hx9
 refine ⟨Hs,ρ,tot,_,sr,h,fun v H1 Hs1 m x As g1 r1 f1 q1=>⟨Hs1,ρ,tot,F,_,sr.grow g1,(fun i fl d e=>?_),h2,h3,q1,fun vs H2 Hs2 ps Bs g2 r2 nd2 o2 q2=>?_⟩⟩
 ·obtain ⟨v,a,b,c⟩:=h1 i fl d e
  exact ⟨v,a,b,c.grow g1.sh g1.all⟩
 ·refine f (v :: vs) H2 Hs2 _ _ (g1.trans g2) (.cons (r1.grow g2) r2) (xaj.mpr ⟨f1.1,nd2,fun a ha b hb e=>?_⟩) (fun a ha=>?_) q2
  ·subst e
   rcases (o2 a hb).2 with z | ⟨i,_,z⟩
   ·exact (r1.own a ha).ne z
   ·exact (sr.sr.own a ((h2 i).subset z)).ne (f1.2 a ha).2
  ·rcases xaf.mp ha with z | z
   ·exact ⟨g2.hsn (f1.2 a z).1 (r1.own a z).ne,.inl (f1.2 a z).2⟩
   ·exact ⟨(o2 a z).1,(o2 a z).2.imp g1.all.free id⟩
theorem qm_v (ha:PE X e (tVar i)) (hr:QM X K es pl) (hi:i∉mvs pl:=by decide) (hs:starEach (e :: es) X.env=(false,eval e X.env) :: starEach es X.env:=by rfl):QM X K (e :: es) (.inr i :: pl):=by
 refine PA.imp (pa_cons ha hr hs) fun σ H Qv hx9=>?_
 obtain ⟨Hs,ρ,tot,F,Q,sr,h1,h2,h3,h,f⟩:=hx9
 unfold jG at h
 cases hm:movS ρ[i]? with
 | none=>rw [hm] at h; exact h.elim
 | some p =>
  rw [hm] at h
  have key:∃ v A,σ[i]? = some (some v)/\RM K Hs H p.1 p.2 v A/\A.Nodup/\∀ a∈A,a∈F i:=by
   cases e1:ρ[i]? with
   | none=>rw [e1] at hm; cases hm
   | some o =>
    cases o with
    | none=>rw [e1] at hm; cases hm
    | some sl =>
     cases sl with
     | sh d =>
      rw [e1] at hm; cases hm
      obtain ⟨v,a,b⟩:=sr.sr.get e1
      exact ⟨v,[],a,⟨rfl,b⟩,xaB,fun a h=>nomatch h⟩
     | lk a fl d=>rw [e1] at hm; cases hm
     | xc a=>rw [e1] at hm; cases hm
     | ow fl d =>
      rw [e1] at hm; cases hm
      obtain ⟨v,a,b,c⟩:=h1 i fl d e1
      exact ⟨v,F i,a,⟨c,b⟩,(h2 i).nodup sr.nod,fun a h=>h⟩
  obtain ⟨v,A,ev,rm,ndA,hA⟩:=key
  refine ⟨v,ev,Hs,ρ,tot,F,_,sr,h1,h2,h3,h,fun vs H2 Hs2 ps Bs g2 r2 nd2 o2 q2=>?_⟩
  refine f (v :: vs) H2 Hs2 _ _ g2 (.cons (rm.grow g2) r2) (xaj.mpr ⟨ndA,nd2,fun a ha b hb e=>?_⟩) (fun a ha=>?_) q2
  ·subst e
   rcases (o2 a hb).2 with z | ⟨j,hj,z⟩
   ·exact (rm.own a ha).ne z
   ·exact h3 i j (fun z=>hi (by rw [z]; exact hj)) a (hA a ha) z
  ·rcases xaf.mp ha with z | z
   ·have:a∈tot:=(h2 i).subset (hA a z)
    exact ⟨g2.hsn (sr.own a this) (sr.sr.own a this).ne,.inr ⟨i,xac,hA a z⟩⟩
   ·exact ⟨(o2 a z).1,(o2 a z).2.imp id fun ⟨j,hj,q⟩=>⟨j,xab _ hj,q⟩⟩
def qR (pl:Plan):WS:=fun E ρ=>jG pl ρ fun ps=>ps.length<=sizeLine/\E.rt (pJ ps) (.tup (ps.map (·.2)))
theorem j_ {x1} (h:QM X K es pl):QS X K L (.Return (some (.Tuple es x1 tpos)) pos) (qR pl):=by
 refine PS.imp (ps_ret (pe_tup h)) fun D σ H hx=>fK hx fun Hs ρ tot E sr h k1 k2 k3 k4=>?_
 obtain ⟨F,h1,h2,h3⟩:=sr.sr.addrs sr.nod
 refine ⟨Hs,ρ,tot,F,_,sr,h1,h2,h3,h,fun vs H1 Hs1 ps As g1 r1 nd1 o1 q1=>?_⟩
 obtain ⟨hz,q⟩:=q1
 have rl:=r1.reps g1.wf
 have hl:=rl.length
 rw [xad] at hl
 refine ⟨by lia,fun p hp=>?_⟩
 have g2:=newT (vs:=vs) g1.wf hp
 have sm:Same Hs (upd Hs1 p (.tup vs)):=g1.sh.trans g2.sh
 unfold pJ at q
 cases e1:ps.all okSh with
 | true =>
  rw [e1] at q
  exact k4 _ _ _ .sh _ [] sm g2.wf ⟨rfl,.tup (by lia) upd_same ((r1.sh g1.wf e1).same g2.sh)⟩ xaB (fun a h=>nomatch h) q
 | false =>
  rw [e1] at q
  cases e2:ps.all okOw with
  | false =>
   rw [e2] at q
   exact k4 _ _ _ .bo _ [] sm g2.wf ⟨rfl,.tup (by lia) upd_same (rl.same g2.all)⟩ xaB (fun a h=>nomatch h) q
  | true =>
   rw [e2] at q
   obtain ⟨Bs,sb,nz,ro⟩:=r1.ow (fl:=ps.all okFl) g1.wf e2 fun z=>z
   have hne:flats (ps.map (·.2))=false:=by
    cases hf:flats (ps.map (·.2)) with
    | false=>rfl
    | true=>rw [nq hf] at e1; cases e1
   exact k4 _ _ _ (.ow _) _ Bs sm g2.wf ⟨.tup (by lia) upd_same hne (ro.grow g2.sh g2.all),nz e1⟩ (sb.nodup nd1) (fun a ha=>g2.hsn (o1 a (sb.subset ha)).1 (ro.own a ha).ne) q
end
def spLaw:SpD:=fun ds Q=>∃ ns:List Int,ds=[.list (ns.map .int)]/\ns.length<=63/\∀ m,Q m (.bl true)
theorem ints_rep {K:PySem.W.Frag}:∀ (ns:List Int),Reps K H (ns.map .int) (ns.map V.int)
 | []=>.nil
 | n :: ns=>.cons (.int n) (ints_rep ns)
theorem ye {K:PySem.W.Frag} {H:Hp} {a:Addr} {ns:List Int} {E:XK} (hl:ns.length<=63) (hS:SqL K H a (ns.map V.int)):aA K spLaw [.ref a] H (fun v _=>v=.bl true) E:=by
 refine ⟨[.list (ns.map .int)],fun _ d=>d=.bl true,.cons (.list (by rw [xad]; exact xaz hl (by decide)) hS (ints_rep ns)) .nil,⟨ns,rfl,hl,fun _=>rfl⟩,?_⟩
 intro v H' Hs' m d As s w r nd own q
 subst q
 have:=r.rep w
 cases this
 rfl
abbrev sg (x:Str):List Nat:=x.cps.toList
theorem yV (x y:Str):sg (x++y)=sg x++sg y:=by
 show (x.cps++y.cps).toList=_
 simp [sg]
theorem empty_app (x:Str):Str.empty++x=x:=vX (by rw [<- sg,yV]; rfl)
def okS (x:Str):Prop:=∀ c∈sg x,c<0x110000
theorem Ah (x:Str):PyData.strOk x=true↔okS x:=by
 unfold PyData.strOk okS sg
 rw [Array.all_eq_true']
 simp
theorem atI0 {α:Type} (x:α) (l:List α):atI (x :: l) 0=some x:=by simp [L2.atI,ixN]
theorem atI1 {α:Type} (x y:α) (l:List α):atI (x :: y :: l) 1=some y:=by
 have:=atI_nat (xs:=x :: y :: l) (j:=1) (v:=y) rfl
 exact this
theorem atI2 {α:Type} (x y z:α) (l:List α):atI (x :: y :: z :: l) 2=some z:=by
 have:=atI_nat (xs:=x :: y :: z :: l) (j:=2) (v:=z) rfl
 exact this
theorem Dl:Str.empty.length=0:=by decide
end L2.Q
namespace L2.Q.R
open PySem PySem.Spec PyProof.Rows L2.Q
section
variable {f:D->Prop} {k:Kt f}
theorem Ji:onK .non k=f .non:=rfl
theorem J7:onK (.bl b) k=f (.bl b):=rfl
theorem Jw:onK (.int i) k=f (.int i):=rfl
theorem Ie:onK (.str x) k=f (.str x):=rfl
theorem Ht:onK (.list xs) k=f (.list xs):=rfl
theorem Iw:onK (.tup xs) k=f (.tup xs):=rfl
theorem Kh:onK (.dK xs) k=f (.dK xs):=rfl
theorem KC:onK (.dT xs) k=f (.dT xs):=rfl
end
theorem Gq {f:Bool->Prop} {k:Kt f}:onK true k=f true:=rfl
theorem Fb {f:Bool->Prop} {k:Kt f}:onK false k=f false:=rfl
theorem Jm {d:D} {f:Md × D->Prop} {k:Kt f}:onK (Md.sh,d) k=f (.sh,d):=rfl
theorem Iu {b:Bool} {d:D} {f:Md × D->Prop} {k:Kt f}:onK (Md.ow b,d) k=f (.ow b,d):=rfl
theorem Jf {d:D} {f:Md × D->Prop} {k:Kt f}:onK (Md.bo,d) k=f (.bo,d):=rfl
theorem I_ {d:D} {f:Option Sl->Prop} {k:Kt f}:onK (some (.sh d)) k=f (some (.sh d)):=rfl
theorem Ib {b:Bool} {d:D} {f:Option Sl->Prop} {k:Kt f}:onK (some (.ow b d)) k=f (some (.ow b d)):=rfl
theorem Ik {p:Md × D} {f:Option (Md × D)->Prop} {k:Kt f}:onK (some p) k=f (some p):=rfl
theorem K8 {p:Bool} {f:Option Bool->Prop} {k:Kt f}:onK (some p) k=f (some p):=rfl
theorem Jo {d:D} {f:Option (Option Sl)->Prop} {k:Kt f}:onK (some (some (.sh d))) k=f (some (some (.sh d))):=rfl
theorem Jg {b:Bool} {d:D} {f:Option (Option Sl)->Prop} {k:Kt f}:onK (some (some (.ow b d))) k=f (some (some (.ow b d))):=rfl
section
variable {E:nJ} {ρ:Env} {Q:Md->D->Prop} {B:Bool->Prop} {t u:WS} {te ta tb tc:WE} {tt tu:WT} {tar:WA} {i j n:Nat} {m m':Md} {d d':D} {sp:SpD} {p:WP} {R:List (Md × D)->Prop}
theorem Jl:cQ E ρ=E.nx ρ:=rfl
theorem K9:wSeq t u E ρ=t { E with nx:=u E } ρ:=rfl
theorem KZ:wRet te E ρ=te ρ E.rt:=rfl
def put (sl:Option Sl) (k:Sl->Prop):Prop:=match sl with
 | some s=>k s
 | none=>False
theorem Jb:put (some (.sh d)) k=k (.sh d):=rfl
theorem Je:put (some (.ow b d)) k=k (.ow b d):=rfl
theorem Kf:wSet i te E ρ=te ρ fun m d=>onK (asg m d) (f:=fun o=>put o fun sl=>E.nx (ρ.set i (some sl))) ⟨⟩:=rfl
theorem Kp:wIfS tt t u E ρ=tt ρ fun b=>onK b (f:=fun b=>if b=true then t E ρ else u E ρ) ⟨⟩:=rfl
theorem G_:tE E ρ=False:=rfl
theorem Hy:pW i E ρ=onK ρ[i]? (f:=fun o=>match o with
 | some (some (.sh d))=>E.rt .sh d
 | some (some (.ow fl d))=>E.rt (.ow fl) d
 | _=>False) ⟨⟩:=rfl
theorem HF:qR pl E ρ=jG pl ρ fun ps=>ps.length<=sizeLine/\E.rt (pJ ps) (.tup (ps.map (·.2))):=rfl
theorem C_:jG [] ρ R=R []:=rfl
theorem Fw:jG (.inl te :: r) ρ R=te ρ fun m x=>jG r ρ fun ps=>R ((m,x) :: ps):=rfl
def mov (o:Option (Md × D)) (k:Md × D->Prop):Prop:=match o with
 | some p=>k p
 | none=>False
theorem Fi {p:Md × D} {k:Md × D->Prop}:mov (some p) k=k p:=rfl
theorem FQ:jG (.inr i :: r) ρ R=onK (movS ρ[i]?) (f:=fun o=>mov o fun p=>jG r ρ fun ps=>R (p :: ps)) ⟨⟩:=rfl
theorem Kg:wFrz i t E ρ=t E (frzE i ρ):=rfl
-- tests
def bol (d:D) (B:Bool->Prop):Prop:=match d with
 | .bl b=>B b
 | _=>False
theorem Jh:bol (.bl b) B=B b:=rfl
theorem wB_:wB te ρ B=te ρ fun _ x=>onK x (f:=fun x=>bol x B) ⟨⟩:=rfl
theorem JW:wNot tt ρ B=tt ρ fun c=>B (!c):=rfl
theorem J0:wAnd tt tu ρ B=tt ρ fun c=>onK c (f:=fun c=>if c=true then tu ρ B else B false) ⟨⟩:=rfl
theorem wOr_:wOr tt tu ρ B=tt ρ fun c=>onK c (f:=fun c=>if c=true then B true else tu ρ B) ⟨⟩:=rfl
theorem KD:wYes ρ B=B true:=rfl
-- expressions
theorem KY:wVar i ρ Q=onK ρ[i]? (f:=fun o=>useS o Q) ⟨⟩:=rfl
theorem Fq:useS (some (some (.sh d))) Q=Q .sh d:=rfl
theorem GZ:useS (some (some (.ow b d))) Q=Q .bo d:=rfl
theorem wC_:wC d ρ Q=Q .sh d:=rfl
theorem wOp_:wOp f ta tb ρ Q=ta ρ fun m x=>tb ρ fun n y=>f m x n y Q:=rfl
theorem wUn_:wUn f ta ρ Q=ta ρ fun m x=>f m x Q:=rfl
theorem G8:qG f g ta tb tc ρ Q=ta ρ fun m x=>tb ρ fun n y=>f m x n y fun _ z=>onK z (f:=fun z=>bol z fun k=>onK k (f:=fun k=>if k=true then tc ρ fun l w=>g n y l w Q else Q .sh (.bl false)) ⟨⟩) ⟨⟩:=by
 unfold qG onK bol
 rfl
theorem wIf_:wIf tt ta tb ρ Q=tt ρ fun c=>onK c (f:=fun c=>if c=true then ta ρ Q else tb ρ Q) ⟨⟩:=rfl
theorem HW:ak te tar ρ R=te ρ fun m x=>tar ρ fun ps=>R ((m,x) :: ps):=rfl
theorem K3:wNil ρ R=R []:=rfl
theorem J3:wTup tar ρ Q=tar ρ fun ps=>ps.length<=sizeLine/\Q (pJ ps) (.tup (ps.map (·.2))):=rfl
theorem Ke:wLst tar ρ Q=tar ρ fun ps=>ps.length<=sizeLine/\Q (Al ps) (.list (ps.map (·.2))):=rfl
theorem Hz:dg sp tar ρ Q=tar ρ fun ps=>sp (ps.map (·.2)) fun m d=>onK (m,d) (f:=fun p=>Q (retM p.1 p.2) p.2) ⟨⟩:=rfl
-- operators
section
variable {x y:Str} {a b:Int} {xs ys:List D} {kvs:List (Key × D)} {kts:List (List Key × D)}
theorem GX:fAdd m (.int a) m' (.int b) Q=Q .sh (.int (a+b)):=rfl
theorem G7:fAdd m (.str x) m' (.str y) Q=(x.length+y.length<=sizeLine/\Q .sh (.str (x++y))):=rfl
theorem G4:fAdd m (.list xs) m' (.list ys) Q=(xs.length+ys.length<=sizeLine/\((flats xs=true/\flats ys=true/\Q (.ow true) (.list (xs++ys)))\/(m=.sh/\m'=.sh/\Q (.ow false) (.list (xs++ys))))):=rfl
theorem GF:fAdd m (.tup xs) m' (.tup ys) Q=(xs≠[]/\xs.length+ys.length<=sizeLine/\flats xs=true/\flats ys=true/\Q .sh (.tup (xs++ys))):=rfl
theorem Hn:fSub m (.int a) m' (.int b) Q=Q .sh (.int (a - b)):=rfl
theorem Gj:fMul m (.int a) m' (.int b) Q=(CMul a b/\Q .sh (.int (a * b))):=rfl
theorem Gf:fDiv m (.int a) m' (.int b) Q=((0<b/\b<1073741824)/\Q .sh (.int (a / b))):=rfl
theorem FW:fMod m (.int a) m' (.int b) Q=(0<b/\Q .sh (.int (a % b))):=rfl
theorem Gd:fPow m (.int a) m' (.int b) Q=(CPow a b/\Q .sh (.int (a ^ b.toNat))):=rfl
theorem HR:fLt m (.int a) m' (.int b) Q=Q .sh (.bl (decide (a<b))):=rfl
theorem Il:fLt m (.str x) m' (.str y) Q=Q .sh (.bl (ltS x y)):=rfl
theorem Jc:fLe m (.int a) m' (.int b) Q=Q .sh (.bl (decide (a<=b))):=rfl
theorem Ii:fLe m (.str x) m' (.str y) Q=Q .sh (.bl (!ltS y x)):=rfl
theorem HX:fGe m (.int a) m' (.int b) Q=Q .sh (.bl (decide (b<=a))):=rfl
theorem IV:fEq m (.int a) m' (.int b) Q=Q .sh (.bl (decide (a=b))):=rfl
theorem Im:fEq m (.str x) m' (.str y) Q=Q .sh (.bl (decide (x=y))):=rfl
theorem Jz:fEq m (.bl k) m' (.bl l) Q=Q .sh (.bl (decide (k=l))):=rfl
theorem JT:fEq m (.list xs) m' d Q=(okD 12 (.list xs)=true/\okD 12 d=true/\Q .sh (.bl (eqD (.list xs) d))):=by cases d <;> rfl
theorem K1:fEq m (.tup xs) m' d Q=(okD 12 (.tup xs)=true/\okD 12 d=true/\Q .sh (.bl (eqD (.tup xs) d))):=by cases d <;> rfl
theorem Km:fEq m .non m' d Q=(okD 12 .non=true/\okD 12 d=true/\Q .sh (.bl (eqD .non d))):=by cases d <;> rfl
theorem Io:fNe m (.int a) m' (.int b) Q=Q .sh (.bl (!decide (a=b))):=rfl
theorem Jx:fNe m (.str x) m' (.str y) Q=Q .sh (.bl (!decide (x=y))):=rfl
theorem Kw:fNe m (.list xs) m' d Q=(okD 12 (.list xs)=true/\okD 12 d=true/\Q .sh (.bl (!eqD (.list xs) d))):=by cases d <;> rfl
theorem Ku:fNe m (.tup xs) m' d Q=(okD 12 (.tup xs)=true/\okD 12 d=true/\Q .sh (.bl (!eqD (.tup xs) d))):=by cases d <;> rfl
theorem Ka:fNe m .non m' d Q=(okD 12 .non=true/\okD 12 d=true/\Q .sh (.bl (!eqD .non d))):=by cases d <;> rfl
theorem Jk:Ax m d m' .non Q=Q .sh (.bl (!d.isN)):=rfl
theorem KN:fIn neg m (.str x) m' (.str y) Q=Q .sh (.bl (if neg then !inS x y else inS x y)):=rfl
theorem JP:fIn neg m d m' (.list ys) Q=(gj d=true/\ys.all gj=true/\Q .sh (.bl (if neg then !inD d ys else inD d ys))):=rfl
theorem J_:fIn neg m d m' (.tup ys) Q=(gj d=true/\ys.all gj=true/\Q .sh (.bl (if neg then !inD d ys else inD d ys))):=rfl
theorem J9:fIn neg m d m' (.dK kvs) Q = ∃ k,d.key1=some k/\Q .sh (.bl (if neg then !(getG kvs k).isSome else (getG kvs k).isSome)):=rfl
theorem J5:fIn neg m (.tup xs) m' (.dT kts) Q = ∃ ks,dM xs=some ks/\Q .sh (.bl (if neg then !(getG kts ks).isSome else (getG kts ks).isSome)):=rfl
theorem Ks:fNeg m (.int a) Q=Q .sh (.int (-a)):=rfl
theorem Kd:fIx m (.list xs) m' (.int a) Q = ∃ d,atI xs a=some d/\onK d (f:=fun d=>Q (itm m d) d) ⟨⟩:=rfl
theorem Kc:fIx m (.tup xs) m' (.int a) Q = ∃ d,atI xs a=some d/\onK d (f:=fun d=>Q (itm m d) d) ⟨⟩:=rfl
theorem J1:fIx m (.str x) m' (.int a) Q = ∃ c,atI x.cps.toList a=some c/\Q .sh (.str ⟨#[c]⟩):=rfl
theorem K4:fIx m (.dK kvs) m' d Q = ∃ k d',d.key1=some k/\getG kvs k=some d'/\onK d' (f:=fun d'=>Q (itm m d') d') ⟨⟩:=rfl
theorem Ko:fIx m (.dT kts) m' (.tup ys) Q = ∃ ks d',dM ys=some ks/\getG kts ks=some d'/\onK d' (f:=fun d'=>Q (itm m d') d') ⟨⟩:=rfl
theorem Jp:fLen m (.str x) Q=Q .sh (.int x.length):=rfl
theorem Ja:fLen m (.list xs) Q=Q .sh (.int xs.length):=rfl
theorem Js:fLen m (.tup xs) Q=Q .sh (.int xs.length):=rfl
theorem JH:fLen m (.dK kvs) Q=Q .sh (.int kvs.length):=rfl
theorem Jd:fLen m (.dT kts) Q=Q .sh (.int kts.length):=rfl
theorem JK {T:String}:fIsi T m d Q=Q .sh (.bl (isiT d.ty T)):=rfl
theorem Hj:ue m (.list xs) Q=((flats xs=true/\Q (.ow true) (.list xs))\/(m=.sh/\Q (.ow false) (.list xs))):=rfl
theorem Hf:ue m (.tup xs) Q=((flats xs=true/\Q (.ow true) (.list xs))\/(m=.sh/\Q (.ow false) (.list xs))):=rfl
theorem Gi:ue m (.dT kts) Q=Q (.ow true) (.list (kts.map fun kv=>.tup (kv.1.map keyD))):=rfl
theorem wSl_:wSl te tl th ρ Q=te ρ fun m x=>tl ρ fun lo=>th ρ fun hi=>fSl m x lo hi Q:=rfl
theorem Eu:nZ ρ O=O none:=rfl
def int' (d:D) (k:Int->Prop):Prop:=match d with
 | .int i=>k i
 | _=>False
theorem HJ:int' (.int a) k=k a:=rfl
theorem Hx:q_ te ρ O=te ρ fun _ x=>onK x (f:=fun x=>int' x fun i=>O (some i)) ⟨⟩:=by unfold q_ onK int'; rfl
theorem J2 {lo hi:Option Int}:fSl m (.str x) lo hi Q=Q .sh (.str (cutS x lo hi)):=rfl
theorem JZ {lo hi:Option Int}:fSl m (.list xs) lo hi Q=((flats xs=true/\Q (.ow true) (.list (cutG xs lo hi)))\/(m=.sh/\Q (.ow false) (.list (cutG xs lo hi)))):=rfl
theorem KJ {lo hi:Option Int}:fSl m (.tup xs) lo hi Q=(flats xs=true/\¬ (HT.sIx xs.length 0 lo=0/\HT.sIx xs.length xs.length hi=xs.length)/\Q .sh (.tup (cutG xs lo hi))):=rfl
end
-- texts
def str' (d:D) (k:Str->Prop):Prop:=match d with
 | .str x=>k x
 | _=>False
theorem Jy:str' (.str x) k=k x:=rfl
def list' (d:D) (k:List D->Prop):Prop:=match d with
 | .list x=>k x
 | _=>False
theorem GQ:list' (.list x) k=k x:=rfl
-- places
theorem wpN_ {P:Bool->D->(Bool->D->Env)->Prop}:wpN i ρ P=onK ρ[i]? (f:=fun o=>match o with
 | some (some (.ow fl d))=>P fl d fun fl2 d2=>ρ.set i (some (.ow fl2 d2))
 | _=>False) ⟨⟩:=rfl
def fl' (o:Option Bool) (k:Bool->Prop):Prop:=match o with
 | some b=>k b
 | none=>False
theorem Fd:fl' (some b) k=k b:=rfl
theorem J8:wApp p te E ρ=p ρ fun fl d up=>onK d (f:=fun d=>list' d fun xs=>te ρ fun m x=>xs.length<sizeLine/\onK (lX fl m x) (f:=fun o=>fl' o fun fl2=>E.nx (up fl2 (.list (xs++[x])))) ⟨⟩) ⟨⟩:=by unfold wApp onK list' fl'; rfl
theorem Gn:iJ ρ Q=Q (.ow true) (.dT []):=rfl
def dct (d y:D) (k1:List (Key × D)->Prop) (k2:List (List Key × D)->List D->Prop):Prop:=match d with
 | .dK kvs=>k1 kvs
 | .dT kvs=>match y with
  | .tup ys=>k2 kvs ys
  | _=>False
 | _=>False
theorem JL:dct (.dK kvs) y k1 k2=k1 kvs:=rfl
theorem Ky:dct (.dT kvs) (.tup ys) k1 k2=k2 kvs ys:=rfl
theorem Jr:pN p tk tv E ρ=tv ρ fun _ x=>p ρ fun fl d up=>tk ρ fun _ y=>x.flat=true/\onK d (f:=fun d=>dct d y (fun kvs=>∃ k,y.key1=some k/\kvs.length<sizeLine/\E.nx (up fl (.dK (putG kvs k x)))) (fun kvs ys=>∃ ks,dM ys=some ks/\kvs.length<sizeLine/\E.nx (up fl (.dT (putG kvs ks x))))) ⟨⟩:=by
 unfold pN onK dct
 rfl
-- loops
variable {LQ:List D->Prop}
theorem KH:wFor wi g b E ρ=wi ρ fun ds=>qm g b E ds ρ:=rfl
theorem Gx:gR te ρ LQ=te ρ fun m d=>lR m/\onK d (f:=fun d=>list' d LQ) ⟨⟩:=by unfold gR onK list'; rfl
def tup' (d:D) (k:List D->Prop):Prop:=match d with
 | .tup x=>k x
 | _=>False
theorem Jv:tup' (.tup x) k=k x:=rfl
theorem Ip:wG te ρ LQ=te ρ fun m d=>lR m/\onK d (f:=fun d=>tup' d LQ) ⟨⟩:=by unfold wG onK tup'; rfl
theorem Ft:dW te ρ LQ=te ρ fun _ d=>onK d (f:=fun d=>int' d fun j=>j<=16777216/\-(2 ^ 62)<=j/\LQ (jo 0 j.toNat)) ⟨⟩:=by unfold dW onK int'; rfl
theorem Fj:lR .sh=True:=rfl
theorem E_:lR (.ow b)=True:=rfl
theorem Ew:lR .bo=False:=rfl
theorem gN_:gN i d ρ N=N (ρ.set i (some (.sh d))):=rfl
theorem gT_:gT n gs d ρ N=onK d (f:=fun d=>tup' d fun ds=>ds.length=n/\gs ds ρ N) ⟨⟩:=by unfold gT onK tup'; rfl
theorem HQ:di g gs (d :: ds) ρ N=g d ρ fun ρ'=>gs ds ρ' N:=rfl
theorem K5:ql [] ρ N=N ρ:=by simp [ql]
theorem Hw:iC wi g tt te tn ix ρ Q=wi ρ fun ds=>iU g tt te ds (zX tn ix ρ) fun out=>Q (.ow true) (.list out):=rfl
end
theorem B {c:Bool} {f:Bool->Prop} {k:Kt f} (h1:c=true->f true) (h2:c=false->f false):onK c k:=by
 cases c with
 | true=>exact h1 rfl
 | false=>exact h2 rfl
theorem D {p:Prop} [Decidable p] {f:Bool->Prop} {k:Kt f} (h1:p->f true) (h2:¬ p->f false):onK (decide p) k :=
 B (fun h=>h1 (of_decide_eq_true h)) fun h=>h2 (of_decide_eq_false h)
theorem T {c:Bool} {f:Bool->Prop} {k:Kt f} (h:c=true) (h1:f true):onK c k:=by subst h; exact h1
theorem F {c:Bool} {f:Bool->Prop} {k:Kt f} (h:c=false) (h1:f false):onK c k:=by subst h; exact h1
end L2.Q.R
namespace L2
open PySem PySem.Spec PyProof.Rows
end L2
namespace L2.Q
open PySem PySem.Spec PyProof.Rows
section
variable {K:PySem.W.Frag} {p:Pos}
def Eg:W1:=fun _ x Q=>match x with
 | .list xs=>∃ ks b,xs=ks.map keyD/\(∀ k∈ks,isI k=b)/\∀ ms:List Key,ms.Perm ks->(ms.Pairwise fun a b=>lt1 b a=false)->Q (.ow true) (.list (ms.map keyD))
 | .dK kvs=>∃ b,(∀ p∈kvs,isI p.1=b)/\∀ ms:List Key,ms.Perm (kvs.map (·.1))->(ms.Pairwise fun a b=>lt1 b a=false)->Q (.ow true) (.list (ms.map keyD))
 | _=>False
section
variable {Hs H:Hp} {fl:Bool}
theorem az.erase (k:Nat) (r:az K Hs H fl ds vs As):∃ Bs,Bs.Sublist As/\az K Hs H fl (ds.eraseIdx k) (vs.eraseIdx k) Bs:=by
 induction ds generalizing vs As k with
 | nil =>
  obtain ⟨rfl,rfl⟩:=r.n0
  exact ⟨[],List.Sublist.refl _,.nil⟩
 | cons d ds ih =>
  obtain ⟨u,us,A,B,rfl,rfl,r,rs⟩:=r.c
  cases k with
  | zero=>exact ⟨B,xan _ _,rs⟩
  | succ k =>
   obtain ⟨C,sb,q⟩:=ih k rs
   exact ⟨A++C,sb.append_left _,.cons r q⟩
end
end
abbrev WIL:=Env->(List D->Prop)->Prop
section
variable {X:Cx} {K:PySem.W.Frag}
theorem dH (hN:X.N.Nodup) (hi0:X.N[i]? = some x) (hx:Loc X.env.scope x) (hc:X.calm=true)
  (hi:QIb X K tg iter wi) (O:cg X scope tn cn ix)
  (hg:∀ C fp s₃ H₃,QG (cN X scope C (tn++cn) fp s₃ H₃) K tg g) (hcs:∀ C fp s₃ H₃,QTs (cN X scope C (tn++cn) fp s₃ H₃) K ifs tc) (he:∀ C fp s₃ H₃,QE (cN X scope C (tn++cn) fp s₃ H₃) K elt te)
  (hsw:swapsWith (.ListComp elt [⟨tg,iter,ifs,0⟩] scope pos) (some (.Name x pos')) spos.line X.env=pure true:=by rfl)
  (hs:∀ x,foldedSetIterable iter X.env x=pure x:=by intro _; rfl) (hf:X.fn x=true\/X.env.scope.names.lookup x=some .local:=by first | exact .inl rfl | exact .inr rfl | assumption) :
  QS X K L (.Assign [.Name x pos'] (.ListComp elt [⟨tg,iter,ifs,0⟩] scope pos) spos) (wSet i (iC wi g tc te tn.length ix)) :=
 PS.imp (uv hN hi0 hx hc hi O hg hcs he hsw hs hf) fun D σ H hx=>fK hx fun Hs ρ tot E sr h k1 k2 k3 k4=>by
  refine jz ⟨Hs,ρ,tot,_,sr,h,fun v H1 Hs1 m d As g1 r1 f1 q1=>?_⟩
  have q1:match asg m d with
   | some sl=>E.nx (ρ.set i (some sl))
   | none=>False:=q1
  cases e:asg m d with
  | none=>rw [e] at q1; exact q1.elim
  | some sl =>
   rw [e] at q1
   obtain ⟨tot',s'⟩:=(sr.grow g1).set i r1 f1.1 (fun a ha=>⟨(f1.2 a ha).1,fun m=>(sr.sr.own a m).ne (f1.2 a ha).2⟩) e
   exact k1 _ H1 Hs1 _ tot' g1.sh s' q1
end
end L2.Q
namespace L2.Q.R
open PySem PySem.Spec PyProof.Rows L2.Q
section
variable {ρ:Env} {Q:Md->L2.Q.D->Prop} {te:WE} {i:Nat} {d:L2.Q.D} {p:WP} {a:Addr} {b:Bool} {LQ:List L2.Q.D->Prop}
theorem Ij {f:Option Sl->Prop} {k:Kt f}:onK (some (.lk a b d)) k=f (some (.lk a b d)):=rfl
theorem Ih {f:Option (Option Sl)->Prop} {k:Kt f}:onK (some (some (.lk a b d))) k=f (some (some (.lk a b d))):=rfl
theorem G6:useS (some (some (.lk a b d))) Q=Q .bo d:=rfl
def own' (o:Option (Option Sl)) (k:Bool->L2.Q.D->Prop):Prop:=match o with
 | some (some (.ow fl d))=>k fl d
 | _=>False
theorem Gr:own' (some (some (.ow b d))) k=k b d:=rfl
theorem G9:sJ te ρ LQ=te ρ fun m d=>lR m/\onK d (f:=fun d=>list' d fun xs=>LQ (lQ xs)) ⟨⟩:=by unfold sJ onK list'; rfl
theorem Gz:iV te ρ LQ=te ρ fun _ d=>onK d (f:=fun d=>list' d LQ) ⟨⟩:=by unfold iV onK list'; rfl
def wpAt (d:L2.Q.D) (i:Int) (P:Bool->L2.Q.D->(Bool->L2.Q.D->Env)->Prop) (up:Bool->L2.Q.D->Env):Prop:=match d with
 | .list ds=>∃ j d',ixN ds.length i=some j/\ds[j]? = some d'/\d'.flat=false/\onK d' (f:=fun d'=>P true d' fun fl2 d2=>up fl2 (.list (ds.set j d2))) ⟨⟩
 | .tup ds=>∃ j d',ixN ds.length i=some j/\ds[j]? = some d'/\d'.flat=false/\onK d' (f:=fun d'=>P true d' fun fl2 d2=>up fl2 (.tup (ds.set j d2))) ⟨⟩
 | _=>False
section
variable {P:Bool->L2.Q.D->(Bool->L2.Q.D->Env)->Prop} {up:Bool->L2.Q.D->Env} {ds:List L2.Q.D} {j:Int}
theorem Hv:wpAt (.list ds) j P up = ∃ k d',ixN ds.length j=some k/\ds[k]? = some d'/\d'.flat=false/\onK d' (f:=fun d'=>P true d' fun fl2 d2=>up fl2 (.list (ds.set k d2))) ⟨⟩:=rfl
theorem IW:wpAt (.tup ds) j P up = ∃ k d',ixN ds.length j=some k/\ds[k]? = some d'/\d'.flat=false/\onK d' (f:=fun d'=>P true d' fun fl2 d2=>up fl2 (.tup (ds.set k d2))) ⟨⟩:=rfl
theorem JN:wpIx p te ρ P=p ρ fun fl d up=>te ρ fun _ y=>fl=true/\onK y (f:=fun y=>int' y fun i=>onK d (f:=fun d=>wpAt d i P up) ⟨⟩) ⟨⟩:=by
 unfold wpIx onK int' wpAt
 rfl
end
end
end L2.Q.R
namespace L2
open PySem PySem.Spec PyProof.Rows Builtin Builtin.Str Builtin.Int
def repS (n:Int) (z:Str):Str:=⟨(List.replicate n.toNat z.cps.toList).flatten.toArray⟩
theorem lZ (xs:Array Nat):∀ (k:Nat) (acc:Array Nat),(List.replicate k xs).foldl (· ++ ·) acc=acc++(List.replicate k xs.toList).flatten.toArray
 | 0,acc=>by simp
 | k+1,acc=>by
  rw [xbt,List.foldl_cons,lZ xs k,xbt,xbT]
  apply Array.ext'
  simp
theorem Af (h:1<=n):Txt.mul z n=repS n z:=by
 unfold Txt.mul repS
 rw [if_neg (by lia)]
 by_cases h1:n=1
 ·subst h1
  simp
 ·by_cases h0:z.length=0
  ·have hz:z.cps = #[]:=xaX h0
   rw [if_pos (by simp [h0])]
   obtain ⟨c⟩:=z
   cases hz
   simp
  ·rw [if_neg (by simp [h1,h0]),lZ]
   simp
def DR:R2:=fun x y H Q=>match x,y with
 | .int n,.str z=>(1<=n/\n<=100/\z.length<=100)/\Q (.str (repS n z)) H
 | _,_=>False
end L2
namespace L2
open PySem PySem.Spec PyProof.Rows
end L2
namespace L2.Q
open PySem PySem.Spec PyProof.Rows
section
variable {X:Cx} {K:PySem.W.Frag} {e a b:Expr} {ta tb:WE} {p pos:Pos} {x:Str} {id:String}
theorem nU (n:Int) (z:Str):(repS n z).length=n.toNat * z.length:=by
 unfold repS Str.length
 rw [xav,len_rep,xaY]
theorem DY:bootBuiltins "min" = some (.builtin "min"):=by decide +kernel
def z_:R2:=fun x y H Q=>match x,y with
 | .int i,.int j=>Q (.int (if j<i then j else i)) H
 | _,_=>False
def z9:W2:=fun _ x _ y Q=>match x,y with
 | .int i,.int j=>Q .sh (.int (if j<i then j else i))
 | _,_=>False
theorem BP:Br2 K z_ z9:=by
 intro Hs H m x v As n y u Bs Qd Qv w rx ry h f
 have r1:=rx.rep w
 have r2:=ry.rep w
 cases r1 with
 | int i=>cases r2 with
  | int j=>exact f.sh w (.int _) h
  | _=>exact h.elim
 | _=>cases r2 <;> exact h.elim
theorem zY (hc:CallR X (.builtin id) fun xs H Q=>∃ x y,xs=[x,y]/\r x y H Q) (br:Br2 K r f) (hg:Gl X x) (hm:X.mg x=none) (hv:bootBuiltins x=some (.builtin id)) (ha:QE X K a ta) (hb:QE X K b tb)
  (hs:starEach [a,b] X.env=(false,eval a X.env) :: starEach [b] X.env:=by rfl) (hs2:starEach [b] X.env=(false,eval b X.env) :: starEach [] X.env:=by rfl) (hn:x ≠ "__name__" := by decide) (hdb:(x == ("__debug__" : Str))=false:=by decide)
  (hpl:(backTo pos (starEach [b] X.env)).any (·.1)=false:=by rfl):QE X K (.Call (.Name x p) [a,b] [] pos) (wOp f ta tb):=by
 refine PE.imp (pe_callB hc hg hm hv (pa_cons ha (pa_cons hb pa_nil hs2) hs) hn hdb hs hpl) fun σ H Qv h=>?_
 obtain ⟨Hs,ρ,tot,Q,sr,h,fin⟩:=jL br σ H Qv h
 exact ⟨Hs,ρ,tot,Q,sr,h,fun v H1 Hs1 m x As g1 r1 f1 q1=>by
  obtain ⟨Hs2,ρ2,tot2,Q2,sr2,h2,fin2⟩:=fin v H1 Hs1 m x As g1 r1 f1 q1
  exact ⟨Hs2,ρ2,tot2,Q2,sr2,h2,fun u H2 Hs3 n y Bs g2 r2 f2 q2=>⟨v,u,rfl,fin2 u H2 Hs3 n y Bs g2 r2 f2 q2⟩⟩⟩
theorem CN (hc:X.calm=true:=by rfl):CallR X (.builtin "min") fun xs H Q=>∃ x y,xs=[x,y]/\z_ x y H Q:=fun pins s σ H xs us Q I r hx9=>by
 obtain ⟨x,y,e,q⟩:=hx9
 subst e
 unfold z_ at q
 split at q
 ·exact call_min2 hc pins s σ H _ us Q I r ⟨_,_,rfl,q⟩
 ·exact q.elim
end
end L2.Q
namespace L2.Q.R
open PySem PySem.Spec PyProof.Rows L2.Q
section
variable {Q:Md->L2.Q.D->Prop} {m m':Md} {a b:Int}
theorem Ju:z9 m (.int a) m' (.int b) Q=Q .sh (.int (if b<a then b else a)):=rfl
end
end L2.Q.R
namespace L2.Q
open PySem PySem.Spec PyProof.Rows
end L2.Q
namespace TS
open PySem PySem.SetTable
def adv (M:Nat) (p:Probe):Probe :=
 if p.more>0 then { p with j:=p.j+1,more:=p.more - 1 } else
 { p with j:=(leap M p.i p.perturb).1,more:=runEnd M (leap M p.i p.perturb).1 - (leap M p.i p.perturb).1,i:=(leap M p.i p.perturb).1,perturb:=(leap M p.i p.perturb).2 }
def ps (M:Nat) (h:Int):Nat->Probe
 | 0=>{ j:=bits h % (M+1),more:=runEnd M (bits h % (M+1)) - bits h % (M+1),i:=bits h % (M+1),perturb:=bits h,dummy:=none }
 | n+1=>adv M (ps M h n)
def J (M:Nat) (h:Int) (n:Nat):Nat:=(ps M h n).j
def Up (xs:Array Nat):Prop:=∀ i j:Nat,i<j->j<xs.size->xs.getD i 0<xs.getD j 0
theorem sI {xs:Array Nat} {i d d':Nat} (h:i<xs.size):xs.getD i d=xs.getD i d':=by simp [Array.getD,h]
theorem oH {xs:Array Nat} (U:Up xs) (j:Nat):∀ (fuel lo hi:Nat),hi - lo<=fuel->lo<=hi->hi<=xs.size->(∀ i<lo,xs.getD i 0<j)->(∀ i,hi<=i->i<xs.size->j<=xs.getD i 0) ->
  below.go xs j fuel lo hi<=xs.size/\(∀ i<below.go xs j fuel lo hi,xs.getD i 0<j)/\(∀ i,below.go xs j fuel lo hi<=i->i<xs.size->j<=xs.getD i 0)
 | 0,lo,hi,hf,h1,h2,h3,h4=>by
  obtain rfl:lo=hi:=by lia
  exact ⟨h2,h3,h4⟩
 | fuel+1,lo,hi,hf,h1,h2,h3,h4=>by
  unfold below.go
  by_cases c:lo<hi
  ·rw [if_pos c]
   dsimp only
   have hm:(lo+hi) / 2<xs.size:=by lia
   by_cases d:xs.getD ((lo+hi) / 2) j<j
   ·rw [if_pos d]
    rw [sI (d':=0) hm] at d
    refine oH U j fuel _ _ (by lia) (by lia) h2 (fun i hi'=>?_) h4
    by_cases e:i=(lo+hi) / 2
    ·rw [e]; exact d
    ·exact Nat.lt_trans (U i _ (by lia) hm) d
   ·rw [if_neg d]
    rw [sI (d':=0) hm] at d
    refine oH U j fuel _ _ (by lia) (by lia) (by exact xaT ‹_›) h3 fun i hi' hs=>?_
    by_cases e:i=(lo+hi) / 2
    ·rw [e]; exact xbH ‹_›
    ·have:=U ((lo+hi) / 2) i (by lia) hs; lia
  ·rw [if_neg c]
   obtain rfl:lo=hi:=by lia
   exact ⟨h2,h3,h4⟩
theorem dG (U:Up xs) (j:Nat):below xs j<=xs.size/\(∀ i<below xs j,xs.getD i 0<j)/\(∀ i,below xs j<=i->i<xs.size->j<=xs.getD i 0) :=
 oH U j xs.size 0 xs.size (by lia) (by lia) (xah _) (fun i h=>absurd h (Nat.not_lt_zero i)) fun i h1 h2=>by lia
theorem below_at (U:Up xs) (h:i<xs.size):below xs (xs.getD i 0)=i:=by
 obtain ⟨a,b,c⟩:=dG U (xs.getD i 0)
 by_cases h1:below xs (xs.getD i 0)<i
 ·have:=c _ (xah _) (by lia)
  have:=U _ i h1 h
  lia
 ·by_cases h2:i<below xs (xs.getD i 0)
  ·have:=b i h2; lia
  ·lia
def taken (xs:Array Nat) (j:Nat):Bool:=xs[below xs j]? == some j
theorem wW {xs:Array Nat} {i j:Nat} (h:xs[i]? = some j):i<xs.size/\xs.getD i 0=j:=by
 obtain ⟨h1,h2⟩:=xbk.mp h
 exact ⟨h1,by simp [Array.getD,h1,h2]⟩
theorem zz {xs:Array Nat} {i:Nat} (h:i<xs.size):xs[i]? = some (xs.getD i 0):=by simp [Array.getD,h]
theorem jX {xs:Array Nat} (U:Up xs) {j:Nat}:taken xs j=true↔∃ i,i<xs.size/\xs.getD i 0=j:=by
 unfold taken
 rw [beq_iff_eq]
 constructor
 ·intro h; exact ⟨_,wW h⟩
 ·rintro ⟨i,h,rfl⟩
  rw [below_at U h]
  exact zz h
theorem m5 {xs:Array Nat} (U:Up xs) {j:Nat} (h:taken xs j=true):below xs j<xs.size/\xs.getD (below xs j) 0=j:=by
 unfold taken at h
 rw [beq_iff_eq] at h
 exact wW h
theorem fZ {α:Type} (xs:Array α) {p:Nat} (x:α) (h:p<=xs.size):(insertAt xs p x).size=xs.size+1:=by
 unfold insertAt
 simp
 lia
theorem ins_get {α:Type} (xs:Array α) {p:Nat} (x:α) (h:p<=xs.size) (i:Nat):(insertAt xs p x)[i]? = if i<p then xs[i]? else if i=p then some x else xs[i - 1]? := by
 unfold insertAt
 have hs:((xs.extract 0 p).push x).size=p+1:=by simp; exact Nat.min_eq_left ‹_›
 by_cases h1:i<p
 ·rw [if_pos h1,Array.getElem?_append_left (by lia),Array.getElem?_push,if_neg (by simp; lia),xbz]
  rw [if_pos (by lia)]; simp
 ·rw [if_neg h1]
  by_cases h2:i=p
  ·rw [if_pos h2,Array.getElem?_append_left (by lia),Array.getElem?_push,if_pos (by simp; lia)]
  ·rw [if_neg h2,Array.getElem?_append_right (by lia),hs,xbz]
   by_cases h3:i - (p+1)<min xs.size xs.size - p
   ·rw [if_pos h3]
    congr 1; lia
   ·rw [if_neg h3,xby (by lia)]
theorem dh (h:p<=xs.size) (i:Nat):(insertAt xs p x).getD i 0=if i<p then xs.getD i 0 else if i=p then x else xs.getD (i - 1) 0:=by
 have e:∀ (ys:Array Nat) (k:Nat),ys.getD k 0=ys[k]?.getD 0:=fun ys k=>by
  simp [xbh]
 rw [e,ins_get xs x h]
 split
 ·rw [e]
 ·split
  ·rfl
  ·rw [e]
theorem yQ (U:Up xs) (hj:taken xs j=false):Up (insertAt xs (below xs j) j):=by
 obtain ⟨a,b,c⟩:=dG U j
 have ne:∀ i,i<xs.size->xs.getD i 0≠j:=fun i hi e=>by
  have:=(jX U (j:=j)).mpr ⟨i,hi,e⟩
  rw [hj] at this; cases this
 intro i k hik hk
 rw [fZ xs j a] at hk
 rw [dh a,dh a]
 by_cases h1:k<below xs j
 ·rw [if_pos (by lia),if_pos h1]; exact U i k hik (by lia)
 ·rw [if_neg h1]
  by_cases h2:k=below xs j
  ·rw [if_pos h2,if_pos (by lia)]; exact b i (by lia)
  ·rw [if_neg h2]
   by_cases h3:i<below xs j
   ·rw [if_pos h3]; exact U i (k - 1) (by lia) (by lia)
   ·rw [if_neg h3]
    by_cases h4:i=below xs j
    ·rw [if_pos h4]
     have:=c (k - 1) (by lia) (by lia)
     have:=ne (k - 1) (by lia)
     lia
    ·rw [if_neg h4]; exact U (i - 1) (k - 1) (by lia) (by lia)
theorem uX (U:Up xs) (hj:taken xs j=false):taken (insertAt xs (below xs j) j) k=(decide (k=j) || taken xs k):=by
 have a:=(dG U j).1
 have U':=yQ U hj
 apply xa3.mpr
 rw [jX U',Bool.or_eq_true,decide_eq_true_eq,jX U]
 rw [fZ xs j a]
 constructor
 ·rintro ⟨i,hi,e⟩
  rw [dh a] at e
  by_cases h1:i<below xs j
  ·rw [if_pos h1] at e; exact .inr ⟨i,by lia,e⟩
  ·rw [if_neg h1] at e
   by_cases h2:i=below xs j
   ·rw [if_pos h2] at e; exact .inl e.symm
   ·rw [if_neg h2] at e; exact .inr ⟨i - 1,by lia,e⟩
 ·rintro (rfl | ⟨i,hi,e⟩)
  ·exact ⟨below xs k,by lia,by rw [dh a,if_neg (by lia),if_pos rfl]⟩
  ·by_cases h1:i<below xs j
   ·exact ⟨i,by lia,by rw [dh a,if_pos h1]; exact e⟩
   ·exact ⟨i+1,by lia,by rw [dh a,if_neg (by lia),if_neg (by lia)]; exact e⟩
def Reach (M:Nat) (place:Array Nat) (h:Int) (j:Nat):Prop:=∃ n,n<=10 * (M+13)/\J M h n=j/\∀ k<n,taken place (J M h k)=true
structure TI {α:Type} (t:SetTable) (es:Array (Int × α)):Prop where
 pw:∃ m,t.mask+1=2 ^ m/\3<=m
 sz:t.place.size=es.size
 up:Up t.place
 le:∀ i,i<t.place.size->t.place.getD i 0<=t.mask
 dm:t.dummies = #[]
 few:es.size * 5<t.mask * 3
 path:∀ i h x,es[i]? = some (h,x)->Reach t.mask t.place h (t.place.getD i 0)
section
variable {α:Type} {t:SetTable} {es:Array (Int × α)}
theorem TI.slot (T:TI t es) (j:Nat):t.slot j=if taken t.place j then .live (below t.place j) else .empty:=by
 unfold SetTable.slot taken
 dsimp only
 split
 ·rfl
 ·have:has t.dummies j=false:=by rw [T.dm]; rfl
  rw [this]; rfl
theorem TI.free (T:TI t es):∃ e,e<=t.mask/\taken t.place e=false:=by
 have hf:=T.few
 have hs:=T.sz
 by_cases c:∃ e,e<=t.mask/\taken t.place e=false
 ·exact c
 ·exfalso
  have all:∀ e,e<=t.mask->taken t.place e=true:=fun e he=>by
   cases z:taken t.place e with
   | true=>rfl
   | false=>exact absurd ⟨e,he,z⟩ c
  -- slot e stands at place at most e
  have go:∀ e,e<=t.mask->e<=below t.place e:=by
   intro e
   induction e with
   | zero=>intro _; exact xar _
   | succ e ih =>
    intro he
    have h1:=m5 T.up (all e (by exact xaT ‹_›))
    have h2:=m5 T.up (all (e+1) he)
    have:=ih (by exact xaT ‹_›)
    obtain ⟨_,b,c⟩:=dG T.up (e+1)
    by_cases z:below t.place e<below t.place (e+1)
    ·walk_at "s1"
    ·have:=c (below t.place e) (by exact xbH ‹_›) h1.1
     lia
  have:=go t.mask (xah _)
  have:=(m5 T.up (all t.mask (xah _))).1
  lia
theorem TI.put (T:TI t es) (hj:j<=t.mask) (hn:taken t.place j=false) (hr:Reach t.mask t.place h j) (ht:t'.mask=t.mask) (hp:t'.place=insertAt t.place (below t.place j) j) (hd:t'.dummies = #[])
  (hf:(es.size+1) * 5<t.mask * 3):TI t' (insertAt es (below t.place j) (h,x)):=by
 have a:=(dG T.up j).1
 have a':below t.place j<=es.size:=by rw [<- T.sz]; exact a
 refine ⟨by rw [ht]; exact T.pw,by rw [hp,fZ _ _ a,fZ _ _ a',T.sz],by rw [hp]; exact yQ T.up hn,fun i hi=>?_,hd,by rw [fZ _ _ a',ht]; exact hf,fun i g y e=>?_⟩
 ·rw [hp,fZ _ _ a] at hi
  rw [hp,dh a,ht]
  split
  ·exact T.le i (by lia)
  ·split
   ·exact hj
   ·exact T.le (i - 1) (by lia)
 ·have mono:∀ {g:Int} {k:Nat},Reach t.mask t.place g k->Reach t'.mask t'.place g k:=fun {g k} ⟨n,h1,h2,h3⟩=>⟨n,by rw [ht]; exact h1,by rw [ht]; exact h2,fun q hq=>by
   rw [hp,ht,uX T.up hn,h3 q hq,Bool.or_true]⟩
  rw [ins_get es _ a'] at e
  rw [hp,dh a,<- hp]
  by_cases h1:i<below t.place j
  ·rw [if_pos h1] at e ⊢
   exact mono (T.path i g y e)
  ·rw [if_neg h1] at e ⊢
   by_cases h2:i=below t.place j
   ·rw [if_pos h2] at e ⊢
    cases e
    exact mono hr
   ·rw [if_neg h2] at e ⊢
    exact mono (T.path (i - 1) g y e)
end
theorem pB {α:Type} [DecidableEq α]:∀ {l m:List α},l.Nodup->(∀ x∈l,x∈m)->l.length<=m.length
 | [],_,_,_=>xar _
 | x :: l,m,nd,h=>by
  rw [xax] at nd
  have hx:=h x xac
  have:=pB (l:=l) (m:=m.erase x) nd.2 fun y hy=>(List.mem_erase_of_ne (fun e=>nd.1 (by rw [<- e]; exact hy))).mpr (h y (xab _ hy))
  rw [List.length_erase_of_mem hx] at this
  have:0<m.length:=List.length_pos_of_mem hx
  simp only [xaK]; lia
def occ (owner:Array (Option Nat)) (j:Nat):Bool:=(owner.getD j (some 0)).isSome
structure OI (M:Nat) (hs:List Int) (owner:Array (Option Nat)):Prop where
 sz:owner.size=M+1
 lt:∀ j v:Nat,owner[j]? = some (some v)->v<hs.length
 inj:∀ j j' v:Nat,owner[j]? = some (some v)->owner[j']? = some (some v)->j=j'
 all:∀ v:Nat,v<hs.length->∃ j:Nat,owner[j]? = some (some v)
 path:∀ j v:Nat,owner[j]? = some (some v)->∃ n,n<=10 * (M+13)/\J M (hs.getD v 0) n=j/\∀ q<n,occ owner (J M (hs.getD v 0) q)=true
theorem Aa (h:j<owner.size):occ owner j=true↔∃ v,owner[j]? = some (some v):=by
 unfold occ
 rw [Array.getElem?_eq_getElem h]
 simp only [Array.getD,h,dite_true,Option.some.injEq]
 cases hh:owner[j] with
 | none =>
  have:owner.getInternal j h=none:=hh
  rw [this]; simp
 | some v =>
  have:owner.getInternal j h=some v:=hh
  rw [this]; simp
theorem OI.free (O:OI M hs owner) (hl:hs.length<=M):∃ e,e<=M/\occ owner e=false:=by
 by_cases c:∃ e,e<=M/\occ owner e=false
 ·exact c
 ·exfalso
  have all:∀ e,e<=M->∃ v,owner[e]? = some (some v):=fun e he=>by
   refine (Aa (by rw [O.sz]; lia)).mp ?_
   cases z:occ owner e with
   | true=>rfl
   | false=>exact absurd ⟨e,he,z⟩ c
  have nd:((List.range (M+1)).map fun j=>(owner.getD j none).getD 0).Nodup:=by
   rw [List.nodup_iff_pairwise_ne,xaR]
   refine List.Pairwise.imp_of_mem ?_ (List.nodup_iff_pairwise_ne.mp List.nodup_range)
   intro a b ha hb hne z
   obtain ⟨va,ea⟩:=all a (by have:=xaS.mp ha; lia)
   obtain ⟨vb,eb⟩:=all b (by have:=xaS.mp hb; lia)
   rw [xbh,xbh,ea,eb] at z
   have z:va=vb:=z
   subst z
   exact hne (O.inj _ _ _ ea eb)
  have:=pB (m:=List.range hs.length) nd fun x hx=>by
   obtain ⟨j,hj,rfl⟩:=xai.mp hx
   obtain ⟨v,e⟩:=all j (by have:=xaS.mp hj; lia)
   rw [xbh,e]
   exact xaS.mpr (O.lt _ _ e)
  simp at this
  lia
theorem OI.nil (M:Nat):OI M [] (Array.replicate (M+1) none):=by
 have no:∀ (j v:Nat),¬ (Array.replicate (M+1) (none:Option Nat))[j]? = some (some v):=fun j v z=>by
  rw [Array.getElem?_replicate] at z
  split at z <;> cases z
 exact ⟨by simp,fun j v z=>absurd z (no j v),fun j j' v z _=>absurd z (no j v),fun v hv=>absurd hv (Nat.not_lt_zero v),fun j v z=>absurd z (no j v)⟩
section
variable {prog:Program} {w:World} {K:Type} [DecidableEq K] {knd:KeyKind prog w K}
abbrev GK (knd:KeyKind prog w K) (k:List K):Int:=tupleKeyHash knd k
def Hg (knd:KeyKind prog w K) (p:List K × Addr):Int × Value:=(GK knd p.1,.ref p.2)
structure SetT (knd:KeyKind prog w K) (h:Heap) (a:Addr) (ks:List (List K × Addr)):Prop where
 ob:∃ o es ep t,h.get? a=some o/\o.ExactSet/\o.data=.set es ep t/\TI t es/\t.mask<=8191/\t.led=(!w.params.followText "set-order")/\es.toList=ks.map (Hg knd)
 nd:(ks.map (·.1)).Nodup
 is:∀ p∈ks,IsTupleKey knd h p.1 p.2
end
local macro_rules | `(tactic| walk_at $s:str) => do
 let x:=s.getString
 if x.startsWith "PV" then `(tactic| exact $(Lean.mkIdent (.str (.str (.num (.str (.str (.str .anonymous "_private") "PySem") "SetOps") 0) "PySem") (x.drop 2).toString)))
 else Lean.Macro.throwUnsupported
section
variable {prog:Program} {w:World} {K:Type} [DecidableEq K] {knd:KeyKind prog w K}
theorem IsTupleKey.stay (hk:IsTupleKey knd h k a) (e:∀ o,h.get? a=some o->h'.get? a=some o):IsTupleKey knd h' k a:=by
 obtain ⟨o,items,n,ho,r⟩:=hk
 exact ⟨o,items,n,e o ho,r⟩
theorem SetT.stay (S:SetT knd h a ks) (e:∀ b o,h.get? b=some o->h'.get? b=some o):SetT knd h' a ks:=by
 obtain ⟨⟨o,es,ep,t,ho,r⟩,nd,is⟩:=S
 exact ⟨⟨o,es,ep,t,e _ _ ho,r⟩,nd,fun p hp=>IsTupleKey.stay (is p hp) fun o ho=>e _ _ ho⟩
theorem SetT.ne (S:SetT knd h a ks) (hx:IsTupleKey knd h k x):x≠a:=by
 obtain ⟨⟨o,es,ep,t,ho,hex,_⟩,_,_⟩:=S
 obtain ⟨o',items,n,ho',hc,_⟩:=hx
 intro z
 subst z
 rw [ho] at ho'
 cases ho'
 rw [hex.1] at hc
 exact absurd hc (by decide)
end
end TS
namespace TS
open PySem PySem.SetTable PyProof.Rows
section
variable {s:Shared}
def SIt (h:Heap) (I:Addr) (first:Value) (i:Nat) (a:Addr) (n ep:Nat):Prop :=
 h.get? I=some { cls:=.type "set_iterator",dict:=none,data:=.fields #[first,.int i 0,.ref a,.int n 0,.int ep 0],slots:=#[] }
def SOb (h:Heap) (a:Addr) (es:Array (Int × Value)) (ep:Nat) (t:SetTable):Prop:=∃ o,h.get? a=some o/\o.data=.set es ep t
variable {a I:Addr} {es:Array (Int × Value)} {ep:Nat} {t:SetTable} {first:Value} {i n:Nat}
theorem SIt.typeIs (h:SIt s.heap I first i a n ep):s.TypeIs (.ref I) "set_iterator" := ⟨_,h,rfl⟩
def PV (ys:List (Int × Value)) (i:Nat) (v:Value):Prop:=∃ e,ys[i]? = some e/\v=e.2
theorem SIt.keep (x:SIt h I first i a n ep) (e:∀ o,h.get? I=some o->h'.get? I=some o):SIt h' I first i a n ep:=e _ x
theorem SOb.keep (x:SOb h a es ep t) (e:∀ o,h.get? a=some o->h'.get? a=some o):SOb h' a es ep t:=let ⟨o,ho,r⟩:=x; ⟨o,e _ ho,r⟩
end
end TS
namespace Tim
open PySem PyProof.Rows
end Tim
namespace TS
open PySem PySem.SetTable PyProof.Rows
end TS
namespace L2
open PySem PySem.Spec PyProof.Rows
section
variable {X:Cx} {pins:List (Addr × Obj)} {σ:St} {H:Hp} {s:Shared}
theorem Inv.drawn {d} (I:Inv X pins σ H s):Inv X pins σ H { s with drawn:=d }:=⟨I.ok,I.os,I.bare,I.base,I.loc,I.cell,I.free,I.freeC,I.pin,I.hok,I.len⟩
theorem cT.pairs (h:cT H ys ks) (hv:Vals ys vs):∃ xs:List (List Key × Addr),vs=xs.map (fun p=>Value.ref p.2)/\xs.map (·.1)=ks/\∀ p∈xs,H p.2=some (.tup (p.1.map kV)):=by
 induction ys generalizing ks vs with
 | nil=>exact ⟨[],Paired.n0 hv,(show ks=[] from Paired.n0 h).symm,fun p hp=>nomatch hp⟩
 | cons y ys ih =>
  obtain ⟨k,ks,rfl,⟨b,rfl,g⟩,t⟩:=Paired.c h
  obtain ⟨v,vs,rfl,rfl,rs⟩:=Paired.c hv
  obtain ⟨xs,e1,e2,e3⟩:=ih t rs
  refine ⟨(k,b) :: xs,by rw [e1]; rfl,by rw [<- e2]; rfl,fun p hp=>?_⟩
  rcases xak.mp hp with rfl | hp
  ·exact g
  ·exact e3 p hp
end
end L2
namespace TS
open PySem PySem.SetTable PyProof.Rows
section
variable {prog:Program} {w:World} {K:Type} [DecidableEq K] {knd:KeyKind prog w K}
def entK (knd:KeyKind prog w K) (p:K × Value):Int × Value:=(knd.hash p.1,p.2)
structure SetK (knd:KeyKind prog w K) (h:Heap) (a:Addr) (ks:List (K × Value)):Prop where
 ob:∃ o es ep t,h.get? a=some o/\o.ExactSet/\o.data=.set es ep t/\TI t es/\t.mask<=8191/\t.led=(!w.params.followText "set-order")/\es.toList=ks.map (entK knd)
 nd:(ks.map (·.1)).Nodup
 is:∀ p∈ks,knd.is p.1 p.2=true
end
end TS
namespace L2
open PySem PySem.Spec PyProof.Rows
end L2
namespace L2.Q
open PySem PySem.Spec PyProof.Rows
end L2.Q
namespace L2.Q.R
open PySem PySem.Spec PyProof.Rows L2.Q
end L2.Q.R
namespace L2
open PySem PySem.Spec PyProof.Rows
end L2
namespace L2.Q
open PySem PySem.Spec PyProof.Rows
end L2.Q
namespace L2.Q.R
open PySem PySem.Spec PyProof.Rows L2.Q
end L2.Q.R
namespace L2.Q
open PySem PySem.Spec PyProof.Rows PySem.W
abbrev bmVE:List Value:=[.type "ValueError",.type "Exception",.type "BaseException",.type "object"]
structure XcK (K:PySem.W.Frag) (C:Addr):Prop where
 ex:excIn K C bmVE "ValueError.__new__" = true
 gx:findIn K (.ref C) "__getattr__" = some none
 ga:findIn K (.ref C) "__getattribute__" = some (some (.builtin "BaseException.__getattribute__"))
 cl:findIn K (.ref C) "__class__" = some (some (.builtin "object.__class__"))
 ob:mroIn K C (.type "object")=some true
theorem XcK.obj {K:PySem.W.Frag} (x:XcK K C) (X:K.In h):∃ bm N nm q bs hdct sn sub ab col dd k0 k1 k2 k3 k5 mN,
  h.get? C=some (excClassObj nm q C N bs bm hdct sn sub ab col dd k0 k1 k2 k3 k5 "ValueError.__new__")/\h.Ns N mN/\mN "__init__" = none/\OwnTail h bmVE bm:=by
 have q:=x.ex
 unfold excIn at q
 split at q
 ·rename_i dd cd sl ho
  split at q
  ·rename_i C' bm k0 k1 k2 k3 n k5 hm hs
   simp only [xay,beq_iff_eq,xck] at q
   obtain ⟨⟨⟨⟨⟨e1,e2⟩,hdel⟩,ht⟩,hok⟩,hni⟩:=q
   cases e1; cases e2
   cases cd
   dsimp only at hm hdel hok hni
   cases hm; cases hdel
   have hsl:sl = #[k0,k1,k2,k3,some (.builtin "ValueError.__new__"),k5]:=by
    cases sl
    dsimp only at hs
    rw [hs]
   cases hsl
   exact ⟨bm,_,_,_,_,_,_,_,_,_,dd,k0,k1,k2,k3,k5,_,X _ _ ho,.of_isNs (isNs_of_in X hok),nsMap_none_of_in X hok hni,tail_of_in X ht⟩
  ·cases q
 ·cases q
section
variable {prog:Program} {w:World} {A:Around} {E:Value->Shared->Prop} {h:Heap} {g:Array GenState} {d:Drawn} {t:Nat} {os:OsState} {a C:Addr} {o:Obj} {K:PySem.W.Frag}
theorem yw {R:Result->Shared->Prop} (x:XcK K C) (X:K.In h) (hx:h.get? a=some o) (hc:o.cls=.ref C) (hq:R (.ok (.ret (.ref C))) ⟨h,g,d,t,os⟩) :
  codeAny (model prog w) A (.call (.builtin "getset_descriptor.__get__") ⟨[.builtin "object.__class__",.ref a,.ref C],[]⟩) R ⟨h,g,d,t,os⟩:=by
 obtain ⟨bm,N,nm,q,bs,hdct,sn,sub,ab,col,dd,k0,k1,k2,k3,k5,mN,hC,hN,hni,T⟩:=x.obj X
 have hT5:(⟨h,g,d,t,os⟩:Shared).TypeIs (.builtin "object.__class__") "getset_descriptor" := F.typeOf_object_class
 have hcB:(Value.ref C :: bm).contains (.type (".".intercalate ("object.__class__".cutAt '.').dropLast))=true:=by
  rw [F.owner_object_class,xcg,T.hasType (X := "object") (b:=true) rfl]; rfl
 refine codeAny_call_builtin F.slot_gs_get.plain F.entry_gs_get (F.slot_gs_get.check _ _ _ _ _ _ _ _ hT5 (F.args_gs_get _ _ _) ?_)
 repeat (any_goals (first | assumption | (with_reducible refine wpAny_loadPart_at hx ?_; rw [hc]) | (with_reducible refine wpAny_isSubtype_exc hC ?_; rw [hcB]) | wp_step))
 refine ⟨Code.quiet_builtin _ (by decide +kernel),codeAny_builtin F.entry_object_class ?_⟩
 repeat (any_goals (first | assumption | (with_reducible refine wpAny_loadPart_at hx ?_; rw [hc]) | wp_step))
theorem uE (x:XcK K C) (X:K.In h) (hx:h.get? a=some o) (hc:o.cls=.ref C) (hq:Q (.done (.ret (.ref C))) ⟨h,g,d,t,os⟩) :
  wpAny (model prog w) A (Builtin.«object.__getattribute__» ⟨[.ref a,.str "__class__" tk],[]⟩) Q E ⟨h,g,d,t,os⟩:=by
 have hT5:(⟨h,g,d,t,os⟩:Shared).TypeIs (.builtin "object.__class__") "getset_descriptor" := F.typeOf_object_class
 have f5:=F.typeOf_object_class
 have f6:=F.slot_gs_get.lookup
 have f7:=F.slot_gs_set.lookup
 have Lk:=looks_findIn (M:=model prog w) X x.cl
 repeat (any_goals (first | assumption | (with_reducible refine wpAny_loadPart_at hx ?_; rw [hc]) | with_reducible refine Lk.at ?_ | wp_step))
 refine yw x X hx hc ?_
 repeat (any_goals (first | assumption | wp_step))
theorem Ab (x:XcK K C) (X:K.In h) (hx:h.get? a=some o) (hc:o.cls=.ref C) (hq:Q (.ref C) ⟨h,g,d,t,os⟩) :
  wpAny (model prog w) A (getAttrBy (.ref a) (.str "__class__" tk) false) Q E ⟨h,g,d,t,os⟩:=by
 have f3:=F.attr_ValueError.ga.bind (.ref a)
 have hx2:(Value.builtin "BaseException.__getattribute__" == Value.builtin "object.__getattribute__")=false:=by decide +kernel
 have hx1:(onTheHeap (Value.ref C) && Value.builtin "BaseException.__getattribute__" == Value.builtin "object.__getattribute__")=false:=by rw [hx2]; rfl
 have Lk:=looks_findIn (M:=model prog w) X x.ga
 have Lg:=looks_findIn (M:=model prog w) X x.gx
 repeat (any_goals (first | assumption | (with_reducible refine wpAny_loadPart_at hx ?_; rw [hc]) | with_reducible refine Lk.at ?_ | with_reducible refine Lg.at ?_ | wp_step))
 obtain ⟨bm,N,nm,q,bs,hdct,sn,sub,ab,col,dd,k0,k1,k2,k3,k5,mN,hC,hN,hni,T⟩:=x.obj X
 have hk:builtinKind "BaseException.__getattribute__" = some .slot:=by decide +kernel
 have hsplit:splitId "BaseException.__getattribute__" = some ("BaseException", "__getattribute__"):=by decide +kernel
 have hcB:(Value.ref C :: bm).contains (.type "BaseException")=true:=by rw [xcg,T.hasType (X := "BaseException") (b:=true) rfl]; rfl
 have chk:∀ {Q':Unit->Shared->Prop} {E':Value->Shared->Prop} {A':Around},Q' () ⟨h,g,d,t,os⟩->wpAny (model prog w) A' (checkBuiltinCall "BaseException.__getattribute__" ⟨[.ref a,.str "__class__" tk],[]⟩) Q' E' ⟨h,g,d,t,os⟩:=fun {Q' E' A'} hq'=>by
  have ha:=F.args_bexc_ga (.ref a) (.str "__class__" tk)
  simp only [checkBuiltinCall,hk,hsplit]
  refine xaa ?_
  unfold isInstance
  repeat (first | (with_reducible refine wpAny_loadPart_at hx ?_; rw [hc]) | (with_reducible refine wpAny_isSubtype_exc hC ?_; rw [hcB]) | wp_step)
  exact hq'
 refine codeAny_call_builtin F.attr_ValueError.ga.plain F.entry_bexc_ga (chk (uE x X hx hc ?_))
 repeat (any_goals (first | assumption | wp_step))
theorem wK (x:XcK K C) (X:K.In h) (hx:h.get? a=some o) (hc:o.cls=.ref C) (hq:Q (some (.ref C)) ⟨h,g,d,t+1,os⟩):wpAny (model prog w) A (getAttr? (.ref a) "__class__") Q E ⟨h,g,d,t,os⟩:=by
 unfold getAttr? getAttrBy?
 repeat (any_goals (first | assumption | with_reducible apply Ab x X hx hc | wp_step))
end
def XAt (a C:Addr) (h:Heap):Prop:=∃ o,h.get? a=some o/\o.cls=.ref C
theorem XcK.looks {K:PySem.W.Frag} (x:XcK K C) (X:K.In h):Looks M h (isType (.ref C)) true:=by
 obtain ⟨bm,N,nm,q,bs,hdct,sn,sub,ab,col,dd,k0,k1,k2,k3,k5,mN,hC,hN,hni,T⟩:=x.obj X
 intro A' Q' E' s' k q
 unfold isType loadHead
 exact xaa (wpAny_loadPart (k _ _ hC) (xae q))
theorem xU {K:PySem.W.Frag} (x:XcK K C):KitX K (.ref a) (.ref C) (XAt a C) where
 ty:=fun M h X p=>by
  obtain ⟨o,h1,h2⟩:=p
  exact h2 ▸ (Looks.ld h1).andThen .now
 it:=fun M h X p=>x.looks X
 ne:=fun h tp dd its n sl X htp=>by
  obtain ⟨bm,N,nm,q,bs,hdct,sn,sub,ab,col,dd,k0,k1,k2,k3,k5,mN,hC,hN,hni,T⟩:=x.obj X
  refine xcl.mpr fun q=>?_
  have e:C=tp:=Value.ref.inj (beq_iff_eq.mp q)
  subst e
  have z:=congrArg (fun o=>o.map (·.data)) (hC.symm.trans htp)
  cases z
 ca:=fun {prog w A E Q s} X p k=>by
  obtain ⟨h,g,d,t,os⟩:=s
  obtain ⟨o,h1,h2⟩:=p
  exact wK x X h1 h2 k
theorem qX {K:PySem.W.Frag} {a C R:Addr} {os:OsState} (x:XcK K C) (r:XcK K R) (sub:mroIn K C (.ref R)=some true) (X:K.In h) (p:XAt a C h)
  (hq:Q true ⟨h,g,d,t,os⟩):wpAny M A (excMatches (.ref a) (.ref R)) Q E ⟨h,g,d,t,os⟩:=by
 obtain ⟨bm,N,nm,q,bs,hdct,sn,sub',ab,col,dd,k0,k1,k2,k3,k5,mN,hC,hN,hni,T⟩:=r.obj X
 obtain ⟨oe,he,hcls⟩:=p
 have hcB:(Value.ref R :: bm).contains (.type "BaseException")=true:=by rw [xcg,T.hasType (X := "BaseException") (b:=true) rfl]; rfl
 have f:=tc_notTuple
 have Lk:=looks_mroIn (M:=M) X sub
 unfold excMatches
 repeat (first | (with_reducible refine wpAny_loadPart_at he ?_; rw [hcls]) | with_reducible refine wpAny_loadPart_at hC ?_ | (with_reducible refine wpAny_isSubtype_exc hC ?_; rw [hcB]) | with_reducible refine Lk.at ?_ | wp_step)
 exact hq
theorem FunFrames.rebase {h base B:Heap}:∀ {l:List PySem.Env},h.FunFrames base l->(∀ b∈frs l,B.get? b=none)->h.FunFrames B l
 | [],_,_=>trivial
 | env :: rest,⟨hk,⟨L,o,hf,hn,ho,hd⟩,hr⟩,hB=>⟨hk,⟨L,o,hf,hB L (by unfold frs; rw [xaP,hf]; exact xac),ho,hd⟩,
   FunFrames.rebase hr fun b hb=>hB b (by unfold frs; rw [xaP,hf]; exact xab _ hb)⟩
theorem ObjOk.there {P:Program} (x:ObjOk P w H h a o):∃ u,h.get? a=some u:=by
 cases o with
 | lst xs=>obtain ⟨_,_,_,_,e⟩:=x; exact ⟨_,e⟩
 | tup xs=>obtain ⟨_,_,_,_,e,_⟩:=x; exact ⟨_,e⟩
 | dK kvs=>obtain ⟨_,_,_,_,o,_,_,e,_⟩:=x; exact ⟨_,e⟩
 | dT kvs=>obtain ⟨_,_,_,_,o,_,_,e,_⟩:=x; exact ⟨_,e⟩
 | set S n=>obtain ⟨o,_,_,_,e,_⟩:=x; exact ⟨_,e⟩
 | ins C dx fs=>obtain ⟨_,_,_,e,_⟩:=x; exact ⟨_,e⟩
 | own y=>exact x
 | xd fs=>obtain ⟨_,⟨_,_,_,e,_⟩,_⟩:=x; exact ⟨_,e⟩
 | rng lo hi=>obtain ⟨_,_,_,e⟩:=x; exact ⟨_,e⟩
 | frz ob u=>obtain ⟨e,_⟩:=x; exact ⟨_,e⟩
 | tbl ps=>exact ⟨_,(show h.get? a=some _ from x)⟩
 | met f y=>exact ⟨_,(show h.get? a=some _ from x)⟩
 | ext φ=>obtain ⟨_,e,_⟩:=x; exact e
def Cov (B:Heap) (fs:List Addr) (H':Hp) (h₀ h:Heap):Prop:=∀ b o,h.get? b=some o->(H' b≠none\/h₀.get? b≠none)->b∉fs->B.get? b=some o
def CXx (P:Program) (w:World) (mg:Str->Option Value) (rn:List Str):CXT:=fun outer H s E e s' =>
 ∃ a n C a0 H' B,e=.ref a/\(n∈rn/\mg n=some (.ref C))/\s'.os=s.os/\AllBare s'.gens/\Un (frs outer) [] H H' s.heap s'.heap/\HOk P w H' s'.heap /\
  Heap.FlyingW B outer a (.ref C) a0 s'.heap/\Cov B (frs outer) H' s.heap s'.heap/\(∀ b∈frs outer,H' b=none)/\E (.ref C) none H'
structure eQ (fs:List Addr) (H':Hp) (h₀ h h':Heap):Prop where
 keep:∀ b o,h.get? b=some o->(H' b≠none\/h₀.get? b≠none)->b∉fs->h'.get? b=some o
 slot:∀ b o,h.get? b=some o->b∈fs->∃ sl,h'.get? b=some { o with slots:=sl }
theorem eQ.of {B:Heap} (c:Cov B (frs l) H' h₀ h) (st:B.StaysIn h') (up:h.UpToSlots h') (ff:h.FunFrames base l):eQ (frs l) H' h₀ h h' :=
 ⟨fun b o e k n=>st b o (c b o e k n),fun b o e m=>by
  obtain ⟨_,o',e',d⟩:=ff.mem m
  rw [e] at e'; cases e'
  exact up b o e d⟩
theorem eQ.trans (a:eQ fs H' h₀ h h1) (b:eQ fs H' h₀ h1 h2):eQ fs H' h₀ h h2 :=
 ⟨fun x o e k n=>b.keep x o (a.keep x o e k n) k n,fun x o e m=>by
  obtain ⟨_,e1⟩:=a.slot x o e m
  obtain ⟨sl,e2⟩:=b.slot x _ e1 m
  exact ⟨sl,e2⟩⟩
theorem eQ.un (m:eQ fs H' h₀ h h') (u:Un fs [] H H' h₀ h):Un fs [] H H' h₀ h' where
 keep:=fun b o e n nb nx=>m.keep b o (u.keep b o e n nb nx) (.inr (by rw [e]; exact fun z=>nomatch z)) nb
 slot:=fun b o e n hb nx=>by
  obtain ⟨_,e1⟩:=u.slot b o e n hb nx
  obtain ⟨sl,e2⟩:=m.slot b _ e1 hb
  exact ⟨sl,e2⟩
 free:=u.free
 there:=fun b o e nx=>by
  obtain ⟨o',e1⟩:=u.there b o e nx
  by_cases hb:b∈fs
  ·obtain ⟨sl,e2⟩:=m.slot b o' e1 hb
   exact ⟨_,e2⟩
  ·exact ⟨o',m.keep b o' e1 (.inr (by rw [e]; exact fun z=>nomatch z)) hb⟩
 tups:=u.tups
 frzs:=u.frzs
 tbls:=u.tbls
theorem eQ.hok {P:Program} (m:eQ fs H' h₀ h h') (f:∀ b∈fs,H' b=none) (x:HOk P w H' h):HOk P w H' h':=fun a o e =>
 (x a o e).stay (fun b u hb q=>by
  have hH:H' b≠none:=by
   rcases hb with z | z
   ·rw [z,e]; exact fun z=>nomatch z
   ·rw [z]; exact fun z=>nomatch z
  exact m.keep b u q (.inl hH) fun z=>hH (f b z)) (fun _ q=>q) fun _ _ q=>q
section
variable {X:Cx} {pins:List (Addr × Obj)} {σ:St} {H H':Hp} {s:Shared} {e:Value}
theorem Cov.up {B h h':Heap} (hst:X.stack=X.env :: X.outer) (hf:X.env.frame=some X.env.locals) (hex:X.ex=[]) (I:Inv X pins σ H s) (un:Un (frs X.stack) [] H H' s.heap h) (c:Cov B (frs X.stack) H' s.heap h) (m:eQ (frs X.stack) H' s.heap h h') (fr:∀ b∈frs X.stack,H' b=none) (hok:HOk X.prog X.w H' h) :
  Un X.fs [] X.H₀ H' X.s₀.heap h'/\Cov B X.fs H' X.s₀.heap h':=by
 have hs:∀ b,b∈frs X.stack↔b=X.env.locals\/b∈X.fs:=fun b=>by
  rw [hst]; unfold frs; rw [xaP,hf]; exact xak
 have neL:∀ b o,X.s₀.heap.get? b=some o->b≠X.env.locals:=fun b o e=>xaA (xal (xao e) I.ok.above)
 have nex:∀ b:Addr,b∉X.ex:=fun b z=>by rw [hex] at z; exact nomatch z
 have m':=m.un un
 have th:∀ b o,X.s₀.heap.get? b=some o->∃ o',s.heap.get? b=some o':=fun b o e=>I.base.there b o e (nex b)
 refine ⟨⟨fun b o e n nb nx=>?_,fun b o e n hb nx=>?_,fun b o e n nx=>?_,fun b o e nx=>?_,fun b xs e=>un.tups b xs (I.base.tups b xs e),fun b ob u e=>un.frzs b ob u (I.base.frzs b ob u e),fun b ps e=>?_⟩,fun b o e k nb=>?_⟩
 ·exact m'.keep b o (I.base.keep b o e n nb (nex b)) (I.base.free b o e n (nex b)) (fun z=>((hs b).mp z).elim (neL b o e) nb) (by simp)
 ·obtain ⟨_,e1⟩:=I.base.slot b o e n hb (nex b)
  obtain ⟨sl,e2⟩:=m'.slot b _ e1 (I.base.free b o e n (nex b)) ((hs b).mpr (.inr hb)) (by simp)
  exact ⟨sl,e2⟩
 ·obtain ⟨o',e1⟩:=th b o e
  exact un.free b o' e1 (I.base.free b o e n (nex b)) (by simp)
 ·obtain ⟨o',e1⟩:=th b o e
  exact m'.there b o' e1 (by simp)
 ·obtain ⟨m1,e1⟩:=I.base.tbls b ps e
  obtain ⟨m2,e2⟩:=un.tbls b _ e1
  exact ⟨m1++m2,by rw [e2,xbi]⟩
 ·have key:∀ o',h.get? b=some o'->(H' b≠none\/s.heap.get? b≠none)->b∉frs X.stack->B.get? b=some o:=fun o' e' k' n'=>by
   have:=m.keep b o' e' k' n'
   rw [e] at this; cases this
   exact c b o e' k' n'
  rcases k with k | k
  ·have nf:b∉frs X.stack:=fun z=>k (fr b z)
   cases q:H' b with
   | none=>exact absurd q k
   | some u =>
    obtain ⟨o',e'⟩:=ObjOk.there (hok b u q)
    exact key o' e' (.inl k) nf
  ·cases q:X.s₀.heap.get? b with
   | none=>exact absurd q k
   | some o0 =>
    obtain ⟨o1,e1⟩:=th b o0 q
    obtain ⟨o2,e2⟩:=un.there b o1 e1 (by simp)
    exact key o2 e2 (.inr (by rw [e1]; exact fun z=>nomatch z)) fun z=>((hs b).mp z).elim (neL b o0 q) nb
end
section
variable {P:Program} {w:World} {K:PySem.W.Frag} {mg:Str->Option Value} {base:Heap} {N:List Str} {qual:Str} {scope:Scope} {f:Addr} {cd:Value} {A:Around} {outer:List PySem.Env} {s₀:Shared} {H₀:Hp} {E:XK} {rn:List Str}
theorem wU (hf:env.frame=some L) (h:b∈frs l):b∈frs (env :: l):=by
 unfold frs; rw [xaP,hf]; exact xab _ h
theorem lM:Passes (CXx P w mg rn) (cxOf (CXx P w mg rn) P w K mg base N qual scope f cd A outer s₀ H₀ E) E:=by
 intro pins σ H s e s' I hx
 obtain ⟨a,n,C,a0,H',B,he,hn,os,bare,un,hok,fly,cov,fr,hE⟩:=hx
 subst he
 refine wpAny_leaves_onW I.ok.frames rfl fly fun h' fly' up=>?_
 have mv:=eQ.of cov fly'.1 up fly.2.2.1
 obtain ⟨u1,c1⟩:=Cov.up (X:=cxOf (CXx P w mg rn) P w K mg base N qual scope f cd A outer s₀ H₀ E) rfl rfl rfl I un cov mv fr hok
 exact ⟨a,n,C,a0,H',B,rfl,hn,os.trans I.os,bare,u1,mv.hok fr hok,fly',c1,fun b hb=>fr b (wU rfl hb),hE⟩
def rO (X:Cx) (rn:List Str) (E:XK):Prop:=∀ (pins:List (Addr × Obj)) (σ:St) (H:Hp) (s:Shared) (h':Heap) (e:Addr) (n:Str) (C:Addr) (vs:List Value),Inv X pins σ H s->Heap.MadeExcOf s.heap h' e (.ref C) vs ->
 n∈rn->X.mg n=some (.ref C)->E (.ref C) none H->X.xe (.ref e) { s with heap:=h' }
theorem El:rO (cxOf (CXx P w mg rn) P w K mg base N qual scope f cd A outer s₀ H₀ E) rn E:=by
 intro pins σ H s h' e n C vs I hx hn hm hE
 have st:=I.stack
 have ff:s.heap.FunFrames (hideAll s.heap (frs (envOfC qual scope s₀.heap.objs.size f cd :: outer))) (envOfC qual scope s₀.heap.objs.size f cd :: outer):=FunFrames.rebase st fun b hb=>hideAll_none _ hb
 refine wpAny_leaves_madeW (h:=s.heap) I.ok.frames rfl (fun b o q=>of_hideAll _ q) ff hx fun h'' t fly tup hnt up=>?_
 have ff':h'.FunFrames (hideAll s.heap (frs (envOfC qual scope s₀.heap.objs.size f cd :: outer))) (envOfC qual scope s₀.heap.objs.size f cd :: outer):=ff.of_keeps fun b o q _=>⟨o,hx.keeps b o q,rfl⟩
 have hok:HOk P w H h':=I.hok.kept hx.keeps
 have fr:∀ b∈frs (envOfC qual scope s₀.heap.objs.size f cd :: outer),H b=none:=I.stkFree
 have cov:Cov (hideAll s.heap (frs (envOfC qual scope s₀.heap.objs.size f cd :: outer))) (frs (envOfC qual scope s₀.heap.objs.size f cd :: outer)) H s.heap h':=fun b o q k nb=>by
  have ho:∃ o1,s.heap.get? b=some o1:=by
   rcases k with k | k
   ·cases z:H b with
    | none=>exact absurd z k
    | some u=>exact ObjOk.there (I.hok b u z)
   ·exact Option.ne_none_iff_exists'.mp k
  obtain ⟨o1,e1⟩:=ho
  have e2:=hx.keeps b o1 e1
  rw [q] at e2; cases e2
  exact hideAll_get _ e1 nb
 have mv:eQ (frs (envOfC qual scope s₀.heap.objs.size f cd :: outer)) H s.heap h' h'':=eQ.of cov fly.1 up ff'
 obtain ⟨u1,c1⟩:=Cov.up (X:=cxOf (CXx P w mg rn) P w K mg base N qual scope f cd A outer s₀ H₀ E) rfl rfl rfl I (Un.kept hx.keeps) cov mv fr hok
 exact ⟨e,n,C,_,H,_,rfl,⟨hn,hm⟩,I.os,I.bare,u1,mv.hok fr hok,fly,c1,fun b hb=>fr b (wU rfl hb),hE⟩
theorem Fz {X:Cx}:Passes (CXx P w mg rn) X E0:=by
 intro _ _ _ _ _ _ _ hx
 obtain ⟨_,_,_,_,_,_,_,_,_,_,_,_,_,_,_,h⟩:=hx
 exact h.elim
def LX (rn:List Str) (mg:Str->Option Value) (E:XK):Str->Hp->Prop:=fun n H'=>n∈rn->∀ C,mg n=some (.ref C)->E (.ref C) none H'
def cB (K:PySem.W.Frag) (rn:List Str) (mg:Str->Option Value) (sp:SpD):Sp:=fun vs H Qv E=>∃ ds Qd,Reps K H ds vs/\sp ds Qd /\
 (∀ v H' Hs' m d As,Same H Hs'->Wf Hs' H'->RM K Hs' H' m d v As->As.Nodup->(∀ a∈As,Hs' a=none)->Qd m d->Qv v H') /\
 ∀ n H',Same H H'->Qd (.ow false) (.str n)->LX rn mg E n H'
theorem ur (h:cB K rn mg sp vs H Qv E) (hp:∀ ds Q,sp ds Q->t { nx:=fun _=>Q .sh .non,rt:=Q } (aX N.length ds)) :
  tpS K (LX rn mg E) t { nx:=fun _ H'=>Qv .non H',rt:=Qv } (start N vs) H:=by
 obtain ⟨ds,Qd,rs,hs,fin,fx⟩:=h
 have hl:=rs.length
 refine ⟨H,aX N.length ds,[],{ nx:=fun _=>Qd .sh .non,rt:=Qd },⟨?_,⟨Same.refl _,fun _ _ e=>e⟩,xaB,fun a h=>nomatch h⟩,hp ds Qd hs,?_,?_,?_,?_,fx⟩
 ·unfold aX start
  rw [hl]
  exact SR.start rs
 ·exact fun σ' H' Hs' ρ' tot' s sr q=>fin .non H' Hs' .sh .non [] s sr.wf ⟨rfl,.non⟩ xaB (fun a h=>nomatch h) q
 ·exact fun σ' H' Hs' ρ' tot' s sr q=>q.elim
 ·exact fun σ' H' Hs' ρ' tot' s sr q=>q.elim
 ·exact fun v H' Hs' m d As s w r nd own q=>fin v H' Hs' m d As s w r nd own q
theorem FunX.ok {st:Stmt} {ps:List Str} (F:Fun K x qual st f fd) (S:FnScope N ps (defScope st)) (len:∀ ds Q,sp ds Q->ds.length=ps.length)
  (hbody:∀ (cdv:Value) (A:Around) (outer:List PySem.Env) (s:Shared) (H:Hp) (E:XK),Room k (A.deeper (envOfC qual (defScope st) s.heap.objs.size f cdv))->QSs (cxOf (CXx P w mg rn) P w K mg base N qual (defScope st) f cdv A outer s H E) K (LX rn mg E) (defBody st) t)
  (hp:∀ ds Q,sp ds Q->t { nx:=fun _=>Q .sh .non,rt:=Q } (aX N.length ds)):FnOk P w K mg base (CXx P w mg rn) (k+1) f fd ps (cB K rn mg sp):=by
 obtain ⟨oc,od,kV,doc,pm,an,cdv,ct,osl,rfl,lk,hcd⟩:=F.ex
 exact fn_of lk hcd S (fun vs H Q E ⟨ds,Qd,rs,hs,_⟩=>by rw [<- rs.length]; exact len ds Qd hs) fun A outer s H vs Q E hr hsp=>⟨_,hbody cdv A outer s H E hr,ur hsp hp⟩
structure CalX (P:Program) (w:World) (K:PySem.W.Frag) (mg:Str->Option Value) (base:Heap) (rn:List Str) (k:Nat) (x:Str) (ps:List Str) (sp:SpD):Prop where
 ex:∃ (g:Addr) (fd:FuncData),mg x=some (.ref g)/\PySem.W.keepIn K (.ref g)=true/\Binds K fd ps []/\FnOk P w K mg base (CXx P w mg rn) k g fd ps (cB K rn mg sp)
theorem Fun.calX {st:Stmt} {ps:List Str} (F:Fun K x qual st f fd) (hm:mg x=some (.ref f)) (ok:FnOk P w K mg base (CXx P w mg rn) k f fd ps (cB K rn mg sp))
  (h:∀ (kV doc pm:Value) (an:Option Addr) (cdv ct:Value) (us:List Value),us.length=ps.length->bindArgs (PySem.W.fnOf x qual (defArgs st) (defBody st) (defScope st) .none kV doc pm an cdv ct) ⟨us,[]⟩=pure (ps.zip us)):CalX P w K mg base rn k x ps sp:=⟨f,fd,hm,F.kp,F.binds h,ok⟩
end
def XCl (K:PySem.W.Frag) (mg:Str->Option Value) (n:Str):Prop:=∃ C,mg n=some (.ref C)/\XcK K C
def xch (m:Md) (d:D) (Y:Str->Prop) (N:Prop):Prop:=match m,d with
 | .ow false,.str n=>Y n
 | _,_=>N
theorem vI {K:PySem.W.Frag} (r:RM K Hs H m d v As) (h:xch m d Y N):N:=by
 unfold xch at h
 split at h
 ·obtain ⟨r,ne⟩:=r
  cases r
  exact absurd rfl ne
 ·exact h
section
variable {X:Cx} {K:PySem.W.Frag} {rn:List Str} {E:XK} {e:Expr} {es:List Expr} {te:WE} {t:WA} {pos:Pos}
def u_ (n:Str) (te:WE):WS:=fun E ρ=>te ρ fun _ _=>E.rt (.ow false) (.str n)
theorem yo (hc:X.calm=true) (ok:rO X rn E) (hn:x∈rn) (hm:X.mg x=some (.ref C)) (xc:XcK X.K C) (ha:PA X [e] ta) (hg:Gl X x) (hdb:(x == ("__debug__" : Str))=false)
  (he:starEach [e] X.env=[(false,eval e X.env)]):PS X (.Raise (some (.Call (.Name x np) [e] [] cpos)) none pos) (fun D σ H=>ta σ H fun vs H1=>vs.length<=sizeLine/\E (.ref C) none H1):=by
 intro pins s σ H D I h
 obtain ⟨bm,N,nm,q,bs,hdct,sn,sub,ab,col,dd,k0,k1,k2,k3,k5,mN,hC,hN,hni,T⟩:=xc.obj I.mod.kin
 refine wpAny_Raise_call_subT (C:=C) (nm:=nm) (q:=q) (N:=N) (bs:=bs) (bm:=bm) (hdct:=hdct) (sn:=sn) (sub:=sub) (ab:=ab) (col:=col) (dd:=dd) (k0:=k0) (k1:=k1) (k2:=k2) (k3:=k3) (k5:=k5)
  F.excBase_ValueError (mN:=mN) (T.hasType F.excBase_ValueError.hasBase) (I.ok.hd hc) (by rw [he]; rfl) hni (ld_glob I hg hm ⟨rfl,?_⟩ hdb)
 have h2:=ha cpos pins s σ H _ I h
 rw [he] at h2 ⊢
 exact Calls.evalArgs_plain (thn h2 fun vs s1 ⟨xs,H1,I1,r,hl,q⟩=>⟨rfl,by rw [<- r.length]; exact hl,I1.bk _ _ hC,hN.keeps I1.bk,T.keeps I1.bk,fun h' e' hx=>ok pins σ H1 s1 h' e' x C vs I1 hx hn hm q⟩)
theorem xF (hc:X.calm=true) (ok:rO X rn E) (xc:XCl K X.mg x) (hn:x∈rn) (he:QE X K e te) (hg:Gl X x:=by rfl) (hdb:(x == ("__debug__" : Str))=false:=by decide) (hK:X.K=K:=by rfl)
  (hs:starEach [e] X.env=[(false,eval e X.env)]:=by rfl):QS X K (LX rn X.mg E) (.Raise (some (.Call (.Name x np) [e] [] cpos)) none pos) (u_ x te):=by
 subst hK
 obtain ⟨C,hm,xc⟩:=xc
 refine PS.imp (yo hc ok hn hm xc (pa_cons he pa_nil hs) hg hdb hs) fun D σ H hx=>dY hx fun Hs ρ tot E' sr h k1 k2 k3 k4 kx=>?_
 exact ⟨Hs,ρ,tot,_,sr,h,fun v H1 Hs1 m d As g1 r1 f1 q1=>⟨(by decide:1<=sizeLine),kx x H1 (g1.sh.trans g1.wf.sub) q1 hn C hm⟩⟩
section
variable {k:Nat} {x:Str} {ps:List Str} {sp:SpD} {p cpos:Pos}
theorem jW (C:CalX X.prog X.w X.K X.mg X.base rn k x ps sp) (hr:Room k X.A) (hx:Passes (CXx X.prog X.w X.mg rn) X E) (ha:PA X (e :: es) ta) (hg:Gl X x) (hdb:(x == ("__debug__" : Str))=false) (he:starEach (e :: es) X.env=(false,eval e X.env) :: starEach es X.env)
  (hpl:(backTo pos (starEach es X.env)).any (·.1)=false):PE X (.Call (.Name x p) (e :: es) [] pos) (tCall (cB X.K rn X.mg sp) [] E ta):=by
 obtain ⟨g,fd,hm,hk,hb,F⟩:=C.ex
 exact pe_call F hr hg hm hk hb .nil hx ha hdb he hpl
theorem dU {σ:St} {H:Hp} {Qv:VK} {Hs:Hp} {ρ:Env} {tot:List Addr} {Y:Str->Prop} {Q:Md->D->Prop} (sr:SRel K Hs ρ σ H tot) (h:t ρ fun ps=>sp (ps.map (·.2)) fun m d=>xch m d Y (onK (m,d) (f:=fun p=>Q (retM p.1 p.2) p.2) ⟨⟩))
  (f:∀ v H' Hs' m d As,Grow Hs H Hs' H'->RM K Hs' H' m d v As->cL Hs' H As->Q m d->Qv v H') (fx:∀ n H',Same Hs H'->Y n->LX rn X.mg E n H'):tCall (cB K rn X.mg sp) [] E (tpA K t) σ H Qv:=by
 refine ⟨Hs,ρ,tot,_,sr,h,fun vs H1 Hs1 ps As g1 r1 f1 q1=>?_⟩
 refine ⟨_,_,by rw [xaE]; exact r1.reps g1.wf,q1,fun v H' Hs' m d As s w r nd own q=>?_,fun n H' s q=>fx n H' (g1.sh.trans (g1.wf.sub.trans s)) q⟩
 obtain ⟨As',r',fr⟩:=rE g1.wf s w r nd own
 exact Fin.after f g1 v H' _ (retM m d) d As' (gW g1.wf s w) r' fr (vI r q)
def sX (sp:SpD) (t:WA):WE:=fun ρ Q=>t ρ fun ps=>sp (ps.map (·.2)) fun m d=>xch m d (fun _=>False) (onK (m,d) (f:=fun p=>Q (retM p.1 p.2) p.2) ⟨⟩)
def jD (sp:SpD) (t:WA):WS:=fun E ρ=>t ρ fun ps=>sp (ps.map (·.2)) fun m d=>xch m d (fun n=>E.rt (.ow false) (.str n)) (onK (m,d) (f:=fun _=>E.nx ρ) ⟨⟩)
def uq (sp:SpD) (t:WA):WS:=fun E ρ=>t ρ fun ps=>sp (ps.map (·.2)) fun m d=>xch m d (fun n=>E.rt (.ow false) (.str n)) (onK (m,d) (f:=fun p=>E.rt (retM p.1 p.2) p.2) ⟨⟩)
def zy (i:Nat) (sp:SpD) (t:WA):WS:=fun E ρ=>t ρ fun ps=>sp (ps.map (·.2)) fun m d=>xch m d (fun n=>E.rt (.ow false) (.str n)) (onK (m,d) (f:=fun p=>match asg (retM p.1 p.2) p.2 with
 | some sl=>E.nx (ρ.set i (some sl))
 | none=>False) ⟨⟩)
variable (C:CalX X.prog X.w X.K X.mg X.base rn k x ps sp) (hr:Room k X.A)
include C hr
theorem za (ha:QA X K (e :: es) t) (hK:X.K=K:=by rfl) (hg:Gl X x:=by rfl) (hdb:(x == ("__debug__" : Str))=false:=by decide) (he:starEach (e :: es) X.env=(false,eval e X.env) :: starEach es X.env:=by rfl)
  (hpl:(backTo pos (starEach es X.env)).any (·.1)=false:=by rfl):QE X K (.Call (.Name x p) (e :: es) [] pos) (sX sp t):=by
 subst hK
 exact PE.imp (jW C hr Fz ha hg hdb he hpl) fun σ H Qv h=>ex4 h fun Hs ρ tot Q sr h f=>dU sr h f fun n H' _ z=>z.elim
variable (hx:Passes (CXx X.prog X.w X.mg rn) X E)
include hx
theorem gZ (ha:QA X K (e :: es) t) (hs:swapsWith (.Call (.Name x p) (e :: es) [] cpos) none pos.line X.env=pure false:=by rfl) (hK:X.K=K:=by rfl) (hg:Gl X x:=by rfl) (hdb:(x == ("__debug__" : Str))=false:=by decide) (he:starEach (e :: es) X.env=(false,eval e X.env) :: starEach es X.env:=by rfl)
  (hpl:(backTo cpos (starEach es X.env)).any (·.1)=false:=by rfl):QS X K (LX rn X.mg E) (.Expr (.Call (.Name x p) (e :: es) [] cpos) pos) (jD sp t):=by
 subst hK
 exact PS.imp (ps_expr (jW C hr hx ha hg hdb he hpl) hs) fun D σ H hx=>dY hx fun Hs ρ tot E' sr h k1 k2 k3 k4 kx=>dU (Q:=fun _ _=>E'.nx ρ) sr h (fun v H1 Hs1 m d As g1 r1 f1 q1=>k1 σ H1 Hs1 ρ tot g1.sh (sr.grow g1) q1) kx
theorem nu (ha:QA X K (e :: es) t) (hK:X.K=K:=by rfl) (hg:Gl X x:=by rfl) (hdb:(x == ("__debug__" : Str))=false:=by decide) (he:starEach (e :: es) X.env=(false,eval e X.env) :: starEach es X.env:=by rfl)
  (hpl:(backTo cpos (starEach es X.env)).any (·.1)=false:=by rfl):QS X K (LX rn X.mg E) (.Return (some (.Call (.Name x p) (e :: es) [] cpos)) pos) (uq sp t):=by
 subst hK
 exact PS.imp (ps_ret (jW C hr hx ha hg hdb he hpl)) fun D σ H hx=>dY hx fun Hs ρ tot E' sr h k1 k2 k3 k4 kx=>dU (Q:=E'.rt) sr h (fun v H1 Hs1 m d As g1 r1 f1 q1=>k4 v H1 Hs1 m d As g1.sh g1.wf r1 f1.1 (fun a ha=>(f1.2 a ha).1) q1) kx
theorem Am (hN:X.N.Nodup) (hi:X.N[i]? = some y) (hy:Loc X.env.scope y) (ha:QA X K (e :: es) t) (hs:swapsWith (.Call (.Name x p) (e :: es) [] cpos) (some (.Name y pos')) pos.line X.env=pure false:=by rfl)
  (hf:X.fn y=true\/X.env.scope.names.lookup y=some .local:=by first | exact .inl rfl | exact .inr rfl | assumption) (hK:X.K=K:=by rfl) (hg:Gl X x:=by rfl) (hdb:(x == ("__debug__" : Str))=false:=by decide) (he:starEach (e :: es) X.env=(false,eval e X.env) :: starEach es X.env:=by rfl)
  (hpl:(backTo cpos (starEach es X.env)).any (·.1)=false:=by rfl):QS X K (LX rn X.mg E) (.Assign [.Name y pos'] (.Call (.Name x p) (e :: es) [] cpos) pos) (zy i sp t):=by
 subst hK
 refine PS.imp (ps_set hN hi hy (jW C hr hx ha hg hdb he hpl) hs hf) fun D σ H hx=>dY hx fun Hs ρ tot E' sr h k1 k2 k3 k4 kx=>dU (Q:=fun m d=>match asg m d with
  | some sl=>E'.nx (ρ.set i (some sl))
  | none=>False) sr h (fun v H1 Hs1 m d As g1 r1 f1 q1=>?_) kx
 cases e:asg m d with
 | none=>rw [e] at q1; exact q1.elim
 | some sl =>
  rw [e] at q1
  obtain ⟨tot',s'⟩:=(sr.grow g1).set i r1 f1.1 (fun a ha=>⟨(f1.2 a ha).1,fun m=>(sr.sr.own a m).ne (f1.2 a ha).2⟩) e
  exact k1 _ H1 Hs1 _ tot' g1.sh s' q1
end
def wIsx (j:Nat) (a:Addr) (b:Bool):WE:=fun ρ Q=>ρ[j]? = some (some (.xc a))/\Q .sh (.bl b)
theorem lu (hm:X.mg "isinstance" = none) (hp:(a,oe)∈X.pn) (hcl:oe.cls=.ref C) (xc:XcK X.K C) (hk:kitOne X.K (.ref C) c=some b) (he:PE X e (tVar j)) (ht:PE X e2 (tC vc)) (hvc:∀ u,RelV vc u->u=c)
  (hg:Gl X "isinstance" := by rfl) (hs:starEach (e :: [e2]) X.env=(false,eval e X.env) :: starEach [e2] X.env:=by rfl) (hs2:starEach (e2 :: []) X.env=(false,eval e2 X.env) :: starEach [] X.env:=by rfl) (hpl:(backTo pos (starEach [e2] X.env)).any (·.1)=false:=by rfl) :
  QE X K (.Call (.Name "isinstance" p) [e,e2] [] pos) (wIsx j a b):=by
 have hc:CallR X (.builtin "isinstance") (fun xs H Q=>xs=[.ref a,vc]/\Q (.bl b) H):=by
  intro pins s σ H xs us Q I r h
  obtain ⟨rfl,q⟩:=h
  obtain ⟨u,v,rfl,ru,rv⟩:=Vals.two r
  obtain rfl:u=Value.ref a:=ru
  obtain rfl:=hvc v rv
  obtain ⟨ho,_⟩:=I.pin (a,oe) (xap _ hp)
  exact kia_one (xU xc) I.kIn ⟨oe,ho,hcl⟩ hk (fun z=>nomatch z) fun tk=>⟨.bl b,H,I.tok tk,rfl,q⟩
 refine PE.imp (pe_callB hc hg hm g8 (pa_cons he (pa_cons ht pa_nil hs2) hs) (by decide) (by decide) hs hpl) fun σ H Qv hx=>ex4 hx fun Hs ρ tot Q sr h f=>?_
 obtain ⟨ea,q⟩:=h
 obtain ⟨v,e1,r⟩:=sr.sr.get ea
 have r:v=V.ref a:=r
 subst r
 exact ⟨_,e1,rfl,Fin.sh f sr.wf (.bl _) q⟩
end
abbrev iw (X:Cx) (pn:List (Addr × Obj)) (xe:Value->Shared->Prop):Cx:={ X with pn:=pn,xe:=xe }
abbrev inHand (X:Cx) (pn:List (Addr × Obj)) (a:Addr):Cx:={ X with A:=X.A.mark (some (.ref a)),calm:=false,pn:=pn,xe:=fun _ _=>False }
abbrev zQ (X:Cx) (H:Hp) (s:Shared) (p:Addr × Obj):Prop:=s.heap.get? p.1=some p.2/\H p.1=none/\p.1≠X.env.locals/\p.1∉X.fs/\∀ v,p.2.data≠.cell v
section
variable {X:Cx} {pins pins' pn:List (Addr × Obj)} {σ:St} {H:Hp} {s:Shared} {xe:Value->Shared->Prop} {a:Addr}
theorem Inv.iw (I:Inv X pins σ H s) (h:∀ p∈pn++pins',zQ X H s p):Inv (iw X pn xe) pins' σ H s :=
 ⟨⟨I.ok.mod,I.ok.kind,I.ok.glob,I.ok.blt,I.ok.above,I.ok.inj,I.ok.has,I.ok.cab,I.ok.hd,I.ok.frames,I.ok.stk,I.ok.exf,I.ok.bs,I.ok.bsz,I.ok.noex,I.ok.exfs,I.ok.funs,I.ok.frf⟩,I.os,I.bare,I.base,I.loc,I.cell,I.free,I.freeC,h,I.hok,I.len⟩
theorem Inv.mF (I:Inv (L2.Q.iw X pn xe) pins' σ H s) (h:∀ p∈X.pn++pins,p∈pn++pins'):Inv X pins σ H s :=
 ⟨⟨I.ok.mod,I.ok.kind,I.ok.glob,I.ok.blt,I.ok.above,I.ok.inj,I.ok.has,I.ok.cab,I.ok.hd,I.ok.frames,I.ok.stk,I.ok.exf,I.ok.bs,I.ok.bsz,I.ok.noex,I.ok.exfs,I.ok.funs,I.ok.frf⟩,I.os,I.bare,I.base,I.loc,I.cell,I.free,I.freeC,fun p hp=>I.pin p (h p hp),I.hok,I.len⟩
theorem Inv.inHand (I:Inv (L2.Q.iw X pn xe) pins' σ H s) (h:∀ p∈pn2++pins2,zQ X H s p):Inv (L2.Q.inHand X pn2 a) pins2 σ H s :=
 ⟨⟨I.ok.mod,I.ok.kind,I.ok.glob,I.ok.blt,I.ok.above,I.ok.inj,I.ok.has,I.ok.cab,(fun z=>nomatch z),I.ok.frames,I.ok.stk,I.ok.exf,I.ok.bs,I.ok.bsz,I.ok.noex,I.ok.exfs,I.ok.funs,I.ok.frf⟩,I.os,I.bare,I.base,I.loc,I.cell,I.free,I.freeC,h,I.hok,I.len⟩
theorem Inv.Hb (I:Inv (L2.Q.iw X pn xe) pins σ H s):Inv (L2.Q.iw X pn xe2) pins σ H s :=
 ⟨⟨I.ok.mod,I.ok.kind,I.ok.glob,I.ok.blt,I.ok.above,I.ok.inj,I.ok.has,I.ok.cab,I.ok.hd,I.ok.frames,I.ok.stk,I.ok.exf,I.ok.bs,I.ok.bsz,I.ok.noex,I.ok.exfs,I.ok.funs,I.ok.frf⟩,I.os,I.bare,I.base,I.loc,I.cell,I.free,I.freeC,I.pin,I.hok,I.len⟩
theorem Inv.zW (I:Inv (L2.Q.inHand X pn a) pins' σ H s) (hd:X.calm=true->X.A.handled=none) (h:∀ p∈X.pn++pins,p∈pn++pins'):Inv X pins σ H s :=
 ⟨⟨I.ok.mod,I.ok.kind,I.ok.glob,I.ok.blt,I.ok.above,I.ok.inj,I.ok.has,I.ok.cab,hd,I.ok.frames,I.ok.stk,I.ok.exf,I.ok.bs,I.ok.bsz,I.ok.noex,I.ok.exfs,I.ok.funs,I.ok.frf⟩,I.os,I.bare,I.base,I.loc,I.cell,I.free,I.freeC,fun p hp=>I.pin p (h p hp),I.hok,I.len⟩
theorem SP.mF {D:Ends} (h:SP (L2.Q.iw X pn xe) pins' D f s) (hp:∀ p∈X.pn++pins,p∈pn++pins'):SP X pins D f s:=by
 cases f with
 | next=>obtain ⟨σ',H',I,q⟩:=h; exact ⟨σ',H',Inv.mF I hp,q⟩
 | brk=>obtain ⟨σ',H',I,q⟩:=h; exact ⟨σ',H',Inv.mF I hp,q⟩
 | cont=>obtain ⟨σ',H',I,q⟩:=h; exact ⟨σ',H',Inv.mF I hp,q⟩
 | ret u=>obtain ⟨v,σ',H',I,r,q⟩:=h; exact ⟨v,σ',H',Inv.mF I hp,r,q⟩
theorem Inv.forget (I:Inv X pins σ H s) (hn:h'.Ns X.env.locals m) (hs:Heap.SameBut X.env.locals s.heap h'):Inv X pins (List.replicate X.N.length none) H { s with heap:=h',toks:=t }:=by
 have ne:∀ b o,X.s₀.heap.get? b=some o->b≠X.env.locals:=fun b o e=>xaA (xal (xao e) I.ok.above)
 refine ⟨I.ok,I.os,I.bare,⟨fun b o e n hb hx=>(hs.2 b (ne b o e)).trans (I.base.keep b o e n hb hx),fun b o e n hb hx=>?_,I.base.free,fun b o e hx=>?_,I.base.tups,I.base.frzs,I.base.tbls⟩,⟨m,hn,fun i x v e1 e2=>?_⟩,fun x c e=>?_,I.free,I.freeC,fun p hp=>?_,fun b o e=>?_,xbV⟩
 ·obtain ⟨sl,e1⟩:=I.base.slot b o e n hb hx
  exact ⟨sl,(hs.2 b (ne b o e)).trans e1⟩
 ·obtain ⟨o',e1⟩:=I.base.there b o e hx
  exact ⟨o',(hs.2 b (ne b o e)).trans e1⟩
 ·rw [xbP] at e2
  split at e2 <;> cases e2
 ·obtain ⟨v,z⟩:=I.cell x c e
  exact ⟨v,z.sameBut hs (I.cne x c e)⟩
 ·obtain ⟨e,n,nl,nf,d⟩:=I.pin p hp
  exact ⟨(hs.2 p.1 nl).trans e,n,nl,nf,d⟩
 ·refine (I.hok b o e).stay (fun c u hc q=>(hs.2 c ?_).trans q) (fun _ q=>q) fun _ _ q=>q
  intro z
  rcases hc with w | w
  ·rw [<- w,z,I.free] at e; cases e
  ·rw [z,I.free] at w; cases w
end
theorem SR.nones {K:PySem.W.Frag}:∀ σ:St,SR K Hs H (List.replicate σ.length none) σ []
 | []=>.nil
 | _ :: σ=>.non (SR.nones σ)
theorem SR.exc {K:PySem.W.Frag}:∀ (σ:St) (j:Nat),SR K Hs H ((List.replicate σ.length none).set j (some (.xc a))) (σ.set j (some (.ref a))) []
 | [],_=>.nil
 | _ :: σ,0=>.xc (SR.nones σ)
 | _ :: σ,j+1=>.non (SR.exc σ j)
theorem Cov.next {P:Program} {B:Heap} (c:Cov B fs H' h₀ h) (m:eQ fs H' h₀ h h') (hok:HOk P w H' h) (th:∀ b o,h₀.get? b=some o->∃ o',h.get? b=some o'):Cov B fs H' h₀ h':=fun b o e k nb=>by
 have ho:∃ o',h.get? b=some o':=by
  rcases k with k | k
  ·cases z:H' b with
   | none=>exact absurd z k
   | some u=>exact ObjOk.there (hok b u z)
  ·obtain ⟨o0,e0⟩:=Option.ne_none_iff_exists'.mp k
   exact th b o0 e0
 obtain ⟨o',e'⟩:=ho
 have e2:=m.keep b o' e' k nb
 rw [e] at e2; cases e2
 exact c b o e' k nb
def wTry (body:WS) (ρh:Addr->Env) (hd:Addr->Str->WS):WS:=fun E ρ =>
 body { E with rt:=fun m d=>xch m d (fun n=>∀ a,hd a n { nx:=fun _=>False,rt:=E.rt } (ρh a)) (E.rt m d) } ρ
structure Dd (K:PySem.W.Frag) (mg:Str->Option Value) (rn:List Str) (R:Str):Prop where
 ex:∃ r,mg R=some (.ref r)/\XcK K r/\∀ n C,n∈rn->mg n=some (.ref C)->XcK K C/\mroIn K C (.ref r)=some true
theorem Cy {X:Cx} {K:PySem.W.Frag} {R:Str}
  (xr:Dd X.K X.mg rn R) (hN:X.N.Nodup) (hj:X.N[j]? = some en) (hl:X.env.scope.names.lookup en=some .local) (hst:X.stack=X.env :: X.outer) (hf:X.env.frame=some X.env.locals)
  (hρ:∀ a,ρh a=(List.replicate X.N.length none).set j (some (.xc a)))
  (hb:∀ pn xe E1,Passes (CXx X.prog X.w X.mg rn) (iw X pn xe) E1->QSs (iw X pn xe) K (LX rn X.mg E1) body wb)
  (hh:∀ pn a oe n C,n∈rn->X.mg n=some (.ref C)->XcK X.K C->(a,oe)∈pn->oe.cls=.ref C->QSs (inHand X pn a) K L (b₀ :: suite) (hd a n)) (hg:Gl X R:=by rfl) (hdb:(R == ("__debug__" : Str))=false:=by decide) :
  QS X K L (.Try body [.ExceptHandler (some (.Name R np)) (some en) (b₀ :: suite) hpos] [] [] pos) (wTry wb ρh hd):=by
 intro pins s σ H D I hx
 obtain ⟨Hs,ρ,tot,E,sr,h,k1,k2,k3,k4,kx⟩:=hx
 obtain ⟨r,hm,xr,sub⟩:=xr.ex
 have sp0:∀ p∈X.pn++pins,p∈(X.pn++pins)++[]:=fun p hp=>by rw [xaE]; exact hp
 have hbody:=hb (X.pn++pins) (fun e s'=>∃ pins' σ' H1 s1,Inv (iw X (X.pn++pins) X.xe) pins' σ' H1 s1/\CXx X.prog X.w X.mg rn X.stack H1 s1 (fun c _ H'=>∃ n C,c=.ref C/\n∈rn/\X.mg n=some (.ref C)/\Same Hs H'/\∀ a,hd a n { nx:=fun _=>False,rt:=E.rt } (ρh a)) e s') _
  (fun pins' σ' H1 s1 e s' I1 c=>⟨pins',σ',H1,s1,Inv.Hb I1,c⟩)
  [] s σ H D (Inv.iw I fun p hp=>I.pin p (by rw [xaE] at hp; exact hp)) ⟨Hs,ρ,tot,_,sr,h,k1,k2,k3,fun v H' Hs' m d As s2 w2 r2 nd own q=>k4 v H' Hs' m d As s2 w2 r2 nd own (vI r2 q),fun n H' s2 q hn C hC=>⟨n,C,rfl,hn,hC,s2,q⟩⟩
 refine wpAny_Try_except (xaM hbody (fun f s1 hs=>?_) fun e s' hx=>?_)
 ·have hs:=SP.mF hs sp0
  cases f with
  | next =>
   obtain ⟨σ',H',I',q⟩:=hs
   exact pss_nil pins s1 σ' H' D I' q
  | brk=>exact hs
  | cont=>exact hs
  | ret u=>exact hs
 ·obtain ⟨pins',σ',H1,s1,I1,a,n',C,a0,H',B,rfl,hn',os,bare,un,hok,fly,cov,fr,n,C2,eC,hn,hm2,sm,hq⟩:=hx
  cases eC
  obtain ⟨xc,hsub⟩:=sub n C hn hm2
  obtain ⟨hh',g',d',t',os'⟩:=s'
  obtain rfl:os'=s1.os:=os
  have fly1:Heap.FlyingW B (X.env :: X.outer) a (.ref C) a0 hh':=hst ▸ fly
  have th:∀ b o,s1.heap.get? b=some o->∃ o',hh'.get? b=some o':=fun b o e=>un.there b o e (by simp)
  refine wpAny_looks_onW (hst ▸ I.ok.frames) hf fly1 fun h4 held up4=>wpAny_landsW held fun h5 fly5 up5=>?_
  have mv5:eQ (frs X.stack) H' s1.heap hh' h5:=eQ.of cov fly5.1 (up4.trans up5) fly.2.2.1
  have cov5:=cov.next mv5 hok th
  have un5:=mv5.un un
  have hok5:=mv5.hok fr hok
  have I5:Inv (iw X (X.pn++pins) X.xe) pins' σ' H' ⟨h5,g',d',t',s1.os⟩:=I1.call (h':=h5) (g':=g') (d':=d') (t':=t') (ch:=[]) un5 hok5 bare (fun b z=>absurd z (by simp))
  refine wpAny_handleBy_cons (codeAny_handlers_test ?_) (by intro q; cases q)
  refine ld_glob (X:=inHand X (X.pn++pins) a) (pins:=pins') (Inv.inHand I5 fun p hp=>I5.pin p hp) hg hm ?_ hdb
  refine qX xc xr hsub I5.kIn fly5.there (codeAny_handlers_suite_as ?_)
  refine lands_againW fly5 fun h6 fly6 up6=>?_
  have ff5:h5.FunFrames B X.stack:=hst ▸ fly5.2.2.1
  have mv6:eQ (frs X.stack) H' s1.heap h5 h6:=eQ.of cov5 fly6.1 up6 ff5
  have un6:=mv6.un un5
  have hok6:=mv6.hok fr hok5
  have I6:Inv (iw X (X.pn++pins) X.xe) pins' σ' H' ⟨h6,g',d',t',s1.os⟩:=I1.call (h':=h6) (g':=g') (d':=d') (t':=t') (ch:=[]) un6 hok6 bare (fun b z=>absurd z (by simp))
  obtain ⟨oe,vs,he,hcl,hdt,_⟩:=fly6.first
  have nf:a∉frs X.stack:=fun z=>by
   have ff6:h6.FunFrames B X.stack:=hst ▸ fly6.2.2.1
   obtain ⟨_,o,e1,d1⟩:=ff6.mem z
   rw [he] at e1; cases e1
   exact d1 vs hdt
  have na:H' a=none:=by
   cases z:H' a with
   | none=>rfl
   | some u =>
    have:=(cov5.next mv6 hok5 fun b o e=>un5.there b o e (by simp)) a oe he (.inl (by rw [z]; exact fun z=>nomatch z)) nf
    rw [fly6.2.1] at this; cases this
  have frm:∀ b,b∈frs X.stack↔b=X.env.locals\/b∈X.fs:=fun b=>by
   rw [hst]; unfold frs; rw [xaP,hf]; exact xak
  have pa:zQ X H' ⟨h6,g',d',t',s1.os⟩ (a,oe):=⟨he,na,fun z=>nf ((frm a).mpr (.inl z)),fun z=>nf ((frm a).mpr (.inr z)),fun v z=>by rw [hdt] at z; cases z⟩
  have I6h:Inv (inHand X ((a,oe) :: (X.pn++pins)) a) [] σ' H' ⟨h6,g',d',t',s1.os⟩:=Inv.inHand I6 fun p hp=>by
   rw [xaE] at hp
   rcases xak.mp hp with z | z
   ·rw [z]; exact pa
   ·exact I6.pin p (xap _ z)
  refine store_ok2 (X:=inHand X ((a,oe) :: (X.pn++pins)) a) (v:=.ref a) I6h hN hj (.inl hl) rfl (fun s7 I7 _=>?_) (.inr hl)
  refine xaM (hh ((a,oe) :: (X.pn++pins)) a oe n C hn hm2 xc xac hcl [] s7 (σ'.set j (some (.ref a))) H' { nx:=fun _ _=>False,rt:=D.rt } I7
   ⟨H',ρh a,[],_,⟨by rw [hρ a,<- (show σ'.length=X.N.length from I1.len)]; exact SR.exc σ' j,⟨Same.refl _,fun _ _ e=>e⟩,xaB,fun a h=>nomatch h⟩,hq a,fun _ _ _ _ _ _ _ z=>z,fun _ _ _ _ _ _ _ z=>z,fun _ _ _ _ _ _ _ z=>z,
    fun v H2 Hs2 m d As s2=>k4 v H2 Hs2 m d As (sm.trans s2),fun n H2 s2=>kx n H2 (sm.trans s2)⟩) (fun f s8 hs=>?_) fun _ _ z=>z.elim
  cases f with
  | next=>obtain ⟨_,_,_,z⟩:=hs; exact z.elim
  | brk=>obtain ⟨_,_,_,z⟩:=hs; exact z.elim
  | cont=>obtain ⟨_,_,_,z⟩:=hs; exact z.elim
  | ret u =>
   obtain ⟨v,σ8,H8,I8,rv,q⟩:=hs
   have I9:Inv X pins σ8 H8 s8:=Inv.zW I8 I.ok.hd fun p hp=>by rw [xaE]; exact xab _ hp
   obtain ⟨m,hn8,_⟩:=id I9.loc
   exact wpAny_nameGoes hl hn8 (by rw [I9.ok.kind]; rfl) fun h9 m9 hn9 sb=>⟨v,_,H8,Inv.forget I9 hn9 sb,rv,q⟩
end L2.Q
namespace L2.Q
open PySem PySem.Spec PyProof.Rows
theorem nT:bootBuiltins "ValueError" = some (.type "ValueError"):=by decide +kernel
end L2.Q
namespace L2.Q.R
open PySem PySem.Spec PyProof.Rows L2.Q
section
variable {E:nJ} {ρ:Env} {Q:Md->L2.Q.D->Prop} {te:WE} {tar:WA} {i j:Nat} {a:Addr} {b:Bool} {sp:SpD} {n:Str} {d:L2.Q.D} {Y:Str->Prop} {N:Prop} {t:WS} {ρh:Addr->Env} {hd:Addr->Str->WS}
theorem G5:u_ n te E ρ=te ρ fun _ _=>E.rt (.ow false) (.str n):=rfl
theorem Gw:sX sp tar ρ Q=tar ρ fun ps=>sp (ps.map (·.2)) fun m d=>xch m d (fun _=>False) (onK (m,d) (f:=fun p=>Q (retM p.1 p.2) p.2) ⟨⟩):=rfl
theorem Hq:jD sp tar E ρ=tar ρ fun ps=>sp (ps.map (·.2)) fun m d=>xch m d (fun n=>E.rt (.ow false) (.str n)) (onK (m,d) (f:=fun _=>E.nx ρ) ⟨⟩):=rfl
theorem JG:uq sp tar E ρ=tar ρ fun ps=>sp (ps.map (·.2)) fun m d=>xch m d (fun n=>E.rt (.ow false) (.str n)) (onK (m,d) (f:=fun p=>E.rt (retM p.1 p.2) p.2) ⟨⟩):=rfl
theorem HN:zy i sp tar E ρ=tar ρ fun ps=>sp (ps.map (·.2)) fun m d=>xch m d (fun n=>E.rt (.ow false) (.str n)) (onK (m,d) (f:=fun p=>onK (asg (retM p.1 p.2) p.2) (f:=fun o=>put o fun sl=>E.nx (ρ.set i (some sl))) ⟨⟩) ⟨⟩):=rfl
theorem K6:wTry t ρh hd E ρ=t { E with rt:=fun m d=>xch m d (fun n=>∀ a,hd a n { nx:=fun _=>False,rt:=E.rt } (ρh a)) (E.rt m d) } ρ:=rfl
theorem KQ:wIsx j a b ρ Q=(ρ[j]? = some (some (.xc a))/\Q .sh (.bl b)):=rfl
theorem JM:xch (.ow false) (.str n) Y N=Y n:=rfl
theorem JD:xch .sh d Y N=N:=rfl
theorem Ir:xch .bo d Y N=N:=rfl
theorem Jq:xch (.ow true) d Y N=N:=rfl
theorem Kr:xch (.ow b) (.list xs) Y N=N:=by cases b <;> rfl
theorem J4:xch (.ow b) (.tup xs) Y N=N:=by cases b <;> rfl
theorem Kv:xch (.ow b) (.dK xs) Y N=N:=by cases b <;> rfl
theorem K7:xch (.ow b) (.dT xs) Y N=N:=by cases b <;> rfl
end
end L2.Q.R
namespace L2
open PySem PySem.Spec PyProof.Rows Builtin Builtin.Str Builtin.Int
section
variable {prog:Program} {w:World} {A:Around} {E:Value->Shared->Prop} {s:Shared} {x:Str} {n:Int} {t u:Tok}
theorem jA (hok:MulOk x n) (h:∀ t' k,Q (.str (Txt.mul x n) t') { s with toks:=k }):wpAny (model prog w) A (binaryOp .Mult (.str x t) (.int n u)) Q E s:=by
 refine P.mul_str hok.1 hok.2.1 hok.2.2 ?_
 unfold Txt.mul at h
 by_cases h1:n<1
 ·rw [if_pos h1]; have h':=h s.toks (s.toks+1); rw [if_pos h1] at h'; exact ⟨by decide,h'⟩
 ·rw [if_neg h1]; refine post_val_or_made (fun hc=>fits_reps (hok.2.2 h1 (by simpa using hc))) fun t' k=>?_
  have h':=h t' k; rw [if_neg h1] at h'; exact h'
end
def Cz:R2:=fun x y H Q=>DR y x H Q
theorem zU {X:Cx}:OpR X (binaryOp .Mult) Cz:=by
 intro pins s σ H y x u v Q I ry rx h
 unfold Cz DR at h
 split at h
 ·rename_i n z
  obtain ⟨⟨h1,h2,h3⟩,q⟩:=h
  obtain ⟨t,rfl⟩:=rx
  obtain ⟨t',rfl⟩:=ry
  refine jA ⟨?_,fun _ _=>?_,fun _ _=>?_⟩ fun t' k=>⟨.str (repS n z),H,I.tok _,⟨_,by rw [Af h1]⟩,q⟩
  ·have a1:¬ n < -(2 ^ 63:Int):=by lia
   have a2:¬ n >= 2 ^ 63:=by lia
   rw [decide_eq_false a1,decide_eq_false a2]; rfl
  ·have:(2 ^ 63 - 1:Int) / 100<=(2 ^ 63 - 1) / n:=by
    apply Int.le_ediv_of_mul_le (by lia)
    have:(2 ^ 63 - 1:Int) / 100 * n<=(2 ^ 63 - 1:Int) / 100 * 100:=Int.mul_le_mul_of_nonneg_left h2 (by decide)
    lia
   have e:(2 ^ 63 - 1:Int) / 100=92233720368547758:=by decide
   lia
  ·have:z.length * n.toNat<=100 * 100:=xbQ h3 (by lia)
   have hs:=sizeLine_eq
   simp only [tooLong,decide_eq_false_iff_not]
   generalize z.length * n.toNat=m at this ⊢
   lia
 ·exact h.elim
end L2
namespace L2.Q
open PySem PySem.Spec PyProof.Rows
section
def owl (o:Option (Option Sl)) (k:List D->Prop):Prop:=match o with
 | some (some (.ow true (.list xs)))=>k xs
 | _=>False
def intD (y:D) (k:Int->Prop):Prop:=match y with
 | .int i=>k i
 | _=>False
def outM (d:D):Md:=bif d.flat then .sh else .ow true
end
end L2.Q
namespace L2.Q.R
open PySem PySem.Spec PyProof.Rows L2.Q
section
variable {ys:List L2.Q.D}
theorem Jj:owl (some (some (.ow true (.list ys)))) k=k ys:=rfl
theorem Ia:intD (.int i) k=k i:=rfl
end
end L2.Q.R
namespace L2
open PySem PySem.Spec PyProof.Rows
section
variable {prog:Program} {w:World} {A:Around} {E:Value->Shared->Prop} {s:Shared}
theorem Ac {κ:Type} [DecidableEq κ] {kd:HeapKind prog w κ} {d b:Addr} {xs:List (κ × Addr × Value)} {k:κ} {r:Value} {Q:Value->Shared->Prop} (hu:kd.room A) (hk:kd.is s.heap k b) (hm:s.heap.DictOfH kd d xs) (hz:xs.length<=sizeLine)
  (h1:∀ p,atKey xs k=some p->Q p.2 { s with toks:=s.toks+kd.draws k })
  (h2:atKey xs k=none->∀ h',h'.DictOfH kd d (storedH xs k b r)->Heap.SameBut d s.heap h'->Q r { s with heap:=h',toks:=s.toks+kd.draws k }):wpAny (model prog w) A (dictSetDefault d (.ref b) r) Q E s:=by
 obtain ⟨o,es,ep,ho,hc,hd,he,his,hn⟩:=hm
 unfold dictSetDefault
 try with_reducible refine wpAny_holding ?_
 refine xaa (kd.pyHash hu hk (xaa (wpAny_dictFind_heap (s:={ s with toks:=s.toks+kd.draws k }) hu hk ho hd he his hn (fun no=>?_) fun j p hj=>?_)))
 ·have nk:=atKey_none_of_get no
  refine xaa (wpAny_rule (xaa (wpAny_updateDictKeys (hz:=by have e:=size_of_entries he; lia) (s:={ s with toks:=s.toks+kd.draws k }) ho hd (xae (h2 nk _ ?_ (Heap.SameBut.update ..))))))
  rw [storedH_new nk]
  refine ⟨_,_,ep+1,xbB _ ho (Obj.isFreed_of_dict (Obj.data_mapDictKeys hd _)),hc.mapDictKeys _,Obj.data_mapDictKeys hd _,by simp [he,entryOfKey],fun x hx=>?_,?_⟩
  ·rcases xaf.mp hx with q | q
   ·exact kd.keeps (his x q) ho hd (Heap.SameBut.update ..)
   ·obtain rfl:=xaH.mp q
    exact kd.keeps hk ho hd (Heap.SameBut.update ..)
  ·rw [xaF]
   refine xaj.mpr ⟨hn,by simp,fun x hx y hy e=>?_⟩
   obtain rfl:y=k:=by simpa using hy
   exact not_mem_keys_of_get no (e ▸ hx)
 ·refine xaa (wpAny_dictEntries (s:={ s with toks:=s.toks+kd.draws k }) ho hd ?_)
  rw [entry_at he j,hj]
  exact xaa (wpAny_rule (xae (h1 _ (atKey_of_get hn hj))))
theorem xR {κ:Type} [DecidableEq κ] (kd:HeapKind prog w κ) (d b:Addr) (hd:(d == sysModules)=false) (r:Value) :
  MeetsIn prog w (Builtin.«dict.setdefault» ⟨[.ref d,.ref b,r],[]⟩) (fun A R s=>kd.room A.in1/\∃ k xs,kd.is s.heap k b/\s.heap.DictOfH kd d xs/\xs.length<=sizeLine /\
   (∀ p,atKey xs k=some p->R (.ok (.ret p.2)) { s with toks:=s.toks+kd.draws k }) /\
   (atKey xs k=none->∀ h',h'.DictOfH kd d (storedH xs k b r)->Heap.SameBut d s.heap h'->R (.ok (.ret r)) { s with heap:=h',toks:=s.toks+kd.draws k })) :=
 .of_wp fun A R s hx9=>by
  obtain ⟨hu,k,xs,hk,hm,hz,h1,h2⟩:=hx9
  unfold Builtin.«dict.setdefault» Builtin.Dict.keyAndDefault
  refine xaa (xaa (wpAny_notOrdered_dict hm.typeIs ?_))
  refine (show wpAny _ _ (pure (d,Value.ref b,some r)) _ _ s from xae ?_)
  refine (show wpAny _ _ (if (d == sysModules)=true then _ else (dictSetDefault d (Value.ref b) r >>= _)) _ _ s from ?_)
  rw [if_neg (by rw [hd]; decide)]
  exact xaa (Ac hu hk hm hz (fun p q=>xae ⟨p.2,rfl,h1 p q⟩) fun q h' a c=>xae ⟨r,rfl,h2 q h' a c⟩)
end
section
variable {X:Cx} {pins:List (Addr × Obj)} {σ:St} {H:Hp} {s:Shared} {a b:Addr} {A:Around} {E:Value->Shared->Prop}
theorem yq (hu:A.units+1<cLine) (I:Inv X pins σ H s) (e:H a=some (.dT kvs)) (eb:H b=some (.tup (k.map kV))) (hl:kvs.length<sizeLine) (rv:RelV v r)
  (h1:∀ v' w' s',valV kvs k=some v'->Inv X pins σ H s'->RelV v' w'->Q w' s') (h2:valV kvs k=none->∀ s',Inv X pins σ (upd H a (.dT (putK kvs k v))) s'->Q r s') :
  wpAny (model X.prog X.w) A (call (.builtin "dict.setdefault") [.ref a,.ref b,r]) Q E s:=by
 obtain ⟨z,hd,xs,rel,dd⟩:=dt_of I.hok e
 have hz:xs.length<=sizeLine:=by rw [<- Paired.length rel]; exact z
 have hp:(putK kvs k v).length<=sizeLine:=by have:=length_putK kvs k v; lia
 have vl:=rel.val k
 refine call_meetsIn PySem.F.slot_dict_setdefault dd.typeIs PySem.F.entry_dict_setdefault (PySem.F.args_dict_setdefault_3 _ _ _) (xR (tupleKind (mixKind X.prog X.w)) a b hd r) ⟨tupleKind_room_in1 hu,k,xs,key_of I.hok eb,dd,hz,fun p hp'=>?_,fun hn h' dd' hs=>?_⟩
 ·rw [hp'] at vl
  cases ev:valV kvs k with
  | none=>rw [ev] at vl; exact (vl:False).elim
  | some v'=>rw [ev] at vl; exact h1 v' _ _ ev (I.tok _) vl
 ·have ev:valV kvs k=none:=by
   rw [hn] at vl
   cases ev:valV kvs k with
   | none=>rfl
   | some v'=>rw [ev] at vl; exact (vl:False).elim
  refine h2 ev _ ?_
  obtain ⟨q,es,ep,hq,g2,g3,g4,_,g5⟩:=dd'
  refine d_write I (by rw [e]; exact True.intro) hs ⟨q,hq⟩ ⟨hp,hd,_,(rel.put k eb rv).keeps fun c ys ec=>?_,q,es,ep,hq,g2,g3,g4,g5⟩
  rw [upd_ne (ne_of ec e fun z=>nomatch z)]
  exact ec
end
def tSd (td ty tx:TE):TE:=fun σ H Q=>td σ H fun x H1=>∃ a,x=.ref a/\IsD H1 a/\ty σ H1 fun y H2=>tx σ H2 fun z H3=>∃ kvs k b,H3 a=some (.dT kvs)/\y=.ref b/\H3 b=some (.tup (k.map kV))/\kvs.length<sizeLine /\
 (∀ v,valV kvs k=some v->Q v H3)/\(valV kvs k=none->Q z (upd H3 a (.dT (putK kvs k z))))
theorem Ho {X:Cx} (hu:X.A.units+1<cLine) (ho:PE X o td) (he:PE X e ty) (hf:PE X f tx) (m:M2 X o "setdefault" apos e f cpos):PE X (.Call (.Attribute o "setdefault" apos) [e,f] [] cpos) (tSd td ty tx):=by
 intro pins s σ H Q I h
 refine wpAny_Call_method m.base m.few m.line PySem.F.plainAttrs_dict PySem.F.slot_dict_setdefault PySem.F.type_dict_setdefault (thn (ho pins s σ H _ I h) fun u s1 hx9=>?_)
 obtain ⟨x,H1,I1,rx,a,ex,d,q1⟩:=hx9
 subst ex
 cases (show u=Value.ref a from rx)
 have td:=isD_at I1 d
 refine ⟨td.1,td.2.1,?_⟩
 rw [m.trees]
 refine Calls.callWith_builtin rfl (Calls.evalArgs_plain (Calls.spliced_cons (thn (he pins s1 σ H1 _ I1 q1) fun iv s2 hx5=>L2.ex2 hx5 fun y H2 I2 ry q2=>Calls.spliced_cons (thn (hf pins s2 σ H2 _ I2 q2) fun fv s3 ⟨z,H3,I3,rz,kvs,k,b,e1,e2,e3,hl,q3,q4⟩=>Calls.spliced_nil ?_))))
 subst e2
 cases (show iv=Value.ref b from ry)
 exact yq hu I3 e1 e3 hl rz (fun v' w' s' ev I' r'=>⟨v',H3,I',r',q3 v' ev⟩) fun ev s' I'=>⟨z,_,I',rz,q4 ev⟩
end L2
namespace L2.Q
open PySem PySem.Spec PyProof.Rows
section
variable {X:Cx} {K:PySem.W.Frag} {a b c:Expr} {ta tb tc:WE} {pos apos cpos:Pos}
def onD (x:D) (f:List (Key × D)->Prop) (g:List (List Key × D)->Prop):Prop:=match x with
 | .dK kvs=>f kvs
 | .dT kvs=>g kvs
 | _=>False
def tupD (y:D) (k:List D->Prop):Prop:=match y with
 | .tup ys=>k ys
 | _=>False
def gotG (o:Option D) (m n:Md) (z:D) (Q:Md->D->Prop):Prop:=match o with
 | some d=>Q (itm m d) d
 | none=>Q n z
def wGet (ta tb tc:WE):WE:=fun ρ Q=>ta ρ fun m x=>onD x (fun kvs=>tb ρ fun _ y=>tc ρ fun n z=>∃ k,y.key1=some k/\gotG (getG kvs k) m n z Q)
 (fun kvs=>tb ρ fun _ y=>tc ρ fun n z=>tupD y fun ys=>∃ ks,dM ys=some ks/\gotG (getG kvs ks) m n z Q)
theorem tV (hx:tpE K (wGet ta tb tc) σ H Qv):tDGet2 (tpE K ta) (tpE K tb) (tpE K tc) σ H Qv:=ex4 hx fun Hs ρ tot Q sr h fin=>by
 refine ⟨Hs,ρ,tot,_,sr,h,fun v H1 Hs1 m x As g1 r1 f1 q1=>?_⟩
 have got:∀ {o:Option V} {d? : Option D} {H2 H3 Hs2 Hs3:Hp} {w:V} {n:Md} {z:D} {Cs:List Addr},Grow Hs1 H1 Hs2 H2->Grow Hs2 H2 Hs3 H3->RM K Hs3 H3 n z w Cs->cL Hs3 H2 Cs->(match d? with
   | some d=>∃ v,o=some v/\Rep K H3 d v/\(m=.sh->Rep K Hs3 d v)
   | none=>o=none)->gotG d? m n z Q->Qv (o.getD w) H3:=by
  intro o d? H2 H3 Hs2 Hs3 w n z Cs g2 g3 r3 f3 l q
  cases d? with
  | none=>rw [show o=none from l]; exact fin w H3 Hs3 n z Cs ((g1.trans g2).trans g3) r3 (f3.of (g1.trans g2).all) q
  | some d =>
   obtain ⟨v',e,u1,u2⟩:=l
   rw [e]
   exact (Fin.after fin ((g1.trans g2).trans g3)).itm g3.wf u1 u2 q
 have core:∀ G:Hp,Same G H1->(∀ H3 Hs3,Grow Hs1 H1 Hs3 H3->∀ d v,Rep K G d v->Rep K H3 d v/\(m=.sh->Rep K Hs3 d v))->Rep K G x v->∃ a,v=.ref a/\IsD H1 a/\tpE K tb σ H1 fun y H2=>tpE K tc σ H2 fun z H3=>∃ o,DGet H3 a y o/\Qv (o.getD z) H3:=by
  intro G sg up r
  cases r with
  | dK kk s q =>
   refine ⟨_,rfl,.inl ⟨_,Same.rd sg s⟩,Hs1,ρ,tot,_,sr.grow g1,q1,fun u H2 Hs2 n y Bs g2 r2 f2 q2=>⟨Hs2,ρ,tot,_,(sr.grow g1).grow g2,q2,fun w H3 Hs3 n3 z Cs g3 r3 f3 q3=>?_⟩⟩
   have ry:=(r2.grow g3).rep g3.wf
   obtain ⟨k,hk,q4⟩:=q3
   have ev:=ry.key hk
   subst ev
   refine ⟨_,DGet.k' (Same.rd (g2.trans g3).all (Same.rd sg s)),got g2 g3 r3 f3 ?_ q4⟩
   have z:=zip_get (k:=k) q
   split
   ·rename_i d e
    rw [e] at z
    obtain ⟨v',e',r'⟩:=z
    exact ⟨v',e',up _ _ (g2.trans g3) _ _ r'⟩
   ·rename_i e
    rw [e] at z
    exact z
  | dT kk s q =>
   refine ⟨_,rfl,.inr ⟨_,Same.rd sg s⟩,Hs1,ρ,tot,_,sr.grow g1,q1,fun u H2 Hs2 n y Bs g2 r2 f2 q2=>⟨Hs2,ρ,tot,_,(sr.grow g1).grow g2,q2,fun w H3 Hs3 n3 z Cs g3 r3 f3 q3=>?_⟩⟩
   have ry:=(r2.grow g3).rep g3.wf
   cases ry with
   | tup t2 e2 p2 =>
    obtain ⟨k,hk,q4⟩:=q3
    obtain ⟨b',eb,e3⟩:=Rep.keyT (.tup t2 e2 p2) hk
    cases eb
    refine ⟨_,DGet.t' (Same.rd (g2.trans g3).all (Same.rd sg s)) e3,got g2 g3 r3 f3 ?_ q4⟩
    have z:=zip_get (k:=k) q
    split
    ·rename_i d e
     rw [e] at z
     obtain ⟨v',e',r'⟩:=z
     exact ⟨v',e',up _ _ (g2.trans g3) _ _ r'⟩
    ·rename_i e
     rw [e] at z
     exact z
   | _=>exact q3.elim
  | _=>exact q1.elim
 rcases r1.here g1.wf with ⟨hm,r⟩ | ⟨hm,r⟩
 ·exact core Hs1 g1.wf.sub (fun H3 Hs3 g d v q=>⟨q.same (g1.wf.sub.trans g.all),fun _=>q.same g.sh⟩) r
 ·exact core H1 (Same.refl H1) (fun H3 Hs3 g d v q=>⟨q.same g.all,fun z=>absurd z hm⟩) r
theorem Fy (hu:X.A.units+64<cLine) (ha:QE X K a ta) (hb:QE X K b tb) (hc:QE X K c tc) (hm:M2 X a "get" apos b c cpos:=by exact ⟨rfl,rfl,rfl,rfl⟩):QE X K (.Call (.Attribute a "get" apos) [b,c] [] cpos) (wGet ta tb tc) :=
 PE.imp (pe_dget2 (by lia) ha hb hc hm) fun σ H Qv hx=>tV hx
theorem Dw (hu:X.A.units+64<cLine) (ha:QE X K a ta) (hb:QE X K b tb) (hm:M1 X a "get" apos b cpos:=by exact ⟨rfl,rfl,rfl,rfl⟩):QE X K (.Call (.Attribute a "get" apos) [b] [] cpos) (wGet ta tb (wC .non)) :=
 PE.imp (pe_dget1 (by lia) ha hb hm) fun σ H Qv hx=>sO (tV hx) fun x H1 ⟨a,e,d,q⟩=>⟨a,e,d,sO q fun y H2 q2=>ex4 q2 fun Hs ρ tot Q sr q f=>f .non H2 Hs .sh .non [] (Grow.refl sr.wf) ⟨rfl,.non⟩ ⟨xaB,fun _ h=>mem0 h⟩ q⟩
def appD (d x:D):D:=match d with
 | .list xs=>.list (xs++[x])
 | d=>d
def sdG:List (List Key × D)->List Key->D->List (List Key × D)
 | [],k,x=>[(k,.list [x])]
 | p :: r,k,x=>if p.1=k then (p.1,appD p.2 x) :: r else p :: sdG r k x
def sdN (kvs:List (List Key × D)) (k:List Key):List (List Key × D):=match getG kvs k with
 | some _=>kvs
 | none=>kvs++[(k,.list [])]
def zp:Option D->Prop
 | none=>True
 | some (.list xs)=>xs.length<sizeLine
 | _=>False
def owdT (o:Option (Option Sl)) (k:List (List Key × D)->Prop):Prop:=match o with
 | some (some (.ow true (.dT kvs)))=>k kvs
 | _=>False
def wSd (i:Nat) (tk te:WE):WS:=fun E ρ=>owdT ρ[i]? fun kvs=>tk ρ fun _ y=>tupD y fun ys=>∃ ks,dM ys=some ks/\kvs.length<sizeLine/\zp (getG kvs ks) /\
 te (ρ.set i (some (.ow true (.dT (sdN kvs ks))))) fun _ x=>x.flat=true/\E.nx (ρ.set i (some (.ow true (.dT (sdG kvs ks x)))))
theorem bC {κ β:Type} [DecidableEq κ] (p:κ × β) (r:List (κ × β)) (k:κ):getG (p :: r) k=if p.1=k then some p.2 else getG r k:=by
 by_cases h:p.1=k <;> simp [getG,h]
theorem Dg:∀ {kvs:List (List Key × D)},getG kvs k=some d->∃ j,(kvs.map (·.2))[j]? = some d/\(∀ vs:List V,vs.length=kvs.length->valV ((kvs.map (·.1)).zip vs) k=vs[j]?) /\
  ∀ x,(sdG kvs k x).map (·.1)=kvs.map (·.1)/\(sdG kvs k x).map (·.2)=(kvs.map (·.2)).set j (appD d x)
 | [],h=>by simp [getG] at h
 | p :: kvs,h=>by
  rw [bC] at h
  by_cases e:p.1=k
  ·rw [if_pos e] at h
   cases h
   refine ⟨0,rfl,fun vs hl=>?_,fun x=>?_⟩
   ·cases vs with
    | nil=>cases hl
    | cons v vs=>exact valV_pos (p:=(p.1,v)) e
   ·simp [sdG,e]
  ·rw [if_neg e] at h
   obtain ⟨j,h1,h2,h3⟩:=Dg h
   refine ⟨j+1,by simpa using h1,fun vs hl=>?_,fun x=>?_⟩
   ·cases vs with
    | nil=>cases hl
    | cons v vs =>
     show valV ((p.1,v) :: (kvs.map (·.1)).zip vs) k=_
     rw [valV_neg (p:=(p.1,v)) e,h2 vs (by simpa using hl)]
     rfl
   ·simp [sdG,e,h3 x]
theorem qJ:∀ {kvs:List (List Key × D)},getG kvs k=none->getG (kvs++[(k,d)]) k=some d
 | [],_=>by simp [getG]
 | p :: kvs,h=>by
  rw [bC] at h
  by_cases e:p.1=k
  ·rw [if_pos e] at h; cases h
  ·rw [if_neg e] at h
   rw [xbW,bC,if_neg e,qJ h]
theorem sV:∀ {kvs:List (List Key × D)},getG kvs k=none->sdG (kvs++[(k,.list [])]) k x=sdG kvs k x
 | [],_=>by simp [sdG,appD]
 | p :: kvs,h=>by
  rw [bC] at h
  by_cases e:p.1=k
  ·rw [if_pos e] at h; cases h
  ·rw [if_neg e] at h
   rw [xbW,sdG,sdG,if_neg e,if_neg e,sV h]
theorem SRel.place (sr:SRel K Hs ρ σ H tot) (e:ρ[i]? = some (some (.ow fl d))):∃ v,σ[i]? = some (some v)/\Place K Hs H σ fl d v fun fl2 d2=>ρ.set i (some (.ow fl2 d2)):=by
 obtain ⟨v,As,t,e2,ne,r,sb,g⟩:=SR.put i sr.sr e sr.nod
 refine ⟨v,e2,As,r,ne,sb.nodup sr.nod,fun a h=>sr.own a (sb.subset h),fun Hs2 H2 fl2 d2 As2 s2 w2 n2 _ r2 ne2 nd2 o2 st=>?_⟩
 obtain ⟨t2,x,y,z⟩:=g Hs2 H2 fl2 d2 As2 s2 r2 ne2 nd2 (fun a ha m=>(o2 a ha).2.elim id fun q=>absurd q (sr.sr.own a m).ne) fun a ha m=>st a (sr.sr.own a ha).ne m
 exact ⟨t2,z,w2,x,fun a h=>(y a h).elim (fun q=>n2 a (sr.own a q) (sr.sr.own a q).ne) fun q=>(o2 a q).1⟩
theorem tH (sr:SRel K Hs ρ σ H tot) (e1:ρ[i]? = some (some (.ow true (.dT kvs)))) (hg:getG kvs ks=some (.list xs)) :
  ∃ a kvv c ws,σ[i]? = some (some (.ref a))/\H a=some (.dT kvv)/\valV kvv ks=some (.ref c)/\H c=some (.lst ws)/\ws.length=xs.length /\
   ∀ x y,x.flat=true->Rep K Hs x y->ws.length<sizeLine->∃ tot2,SRel K Hs (ρ.set i (some (.ow true (.dT (sdG kvs ks x))))) σ (upd H c (.lst (ws++[y]))) tot2:=by
 obtain ⟨v,e2,pl⟩:=sr.place e1
 obtain ⟨As',r,ne,nd,own,k⟩:=pl.ex
 cases r with
 | sh hf _=>exact absurd rfl ne
 | @dT a0 vs _ A kk e rs =>
  obtain ⟨na,nA⟩:=xax.mp nd
  obtain ⟨j,ej,ev,es⟩:=Dg hg
  obtain ⟨w,B,e3,r3,sb,g⟩:=rs.at ej nA
  have hl:vs.length=kvs.length:=by have:=rs.length; rw [xad] at this; exact this.symm
  cases r3 with
  | sh hf _=>exact absurd (hf rfl) (by simp [D.flat])
  | @list c ws _ B' hz ec rs' =>
   have cA:c∈A:=sb.subset xac
   refine ⟨a0,_,c,ws,e2,e,(ev vs hl).trans e3,ec,rs'.length.symm,fun x y hx rx hw=>?_⟩
   have hca:a0≠c:=fun z=>na (z ▸ cA)
   obtain ⟨nc,nB⟩:=xax.mp (sb.nodup nA)
   have r4:RepO K Hs (upd H c (.lst (ws++[y]))) true (.list (xs++[x])) (.ref c) (c :: B'):=by
    have:=(rs'.stay (H':=upd H c (.lst (ws++[y]))) (Same.refl _) fun b hb=>upd_ne fun z=>nc (z ▸ hb)).append (az.cons (As:=[]) (.sh (fun _=>hx) rx) .nil)
    rw [xaE,xaE] at this
    exact .list (by rw [xam]; exact hw) upd_same this
   obtain ⟨As2,n2,y2,_,r5⟩:=g Hs (upd H c (.lst (ws++[y]))) true _ _ (Same.refl _) id r4 (sb.nodup nA) (fun _ h _=>h) (fun b _ nb=>upd_ne fun z=>nb (z ▸ xac))
   have in2:∀ b∈As2,b∈A:=fun b hb=>(y2 b hb).elim (fun q=>q.1) fun q=>sb.subset q
   obtain ⟨k1,k2⟩:=es x
   have kl:(sdG kvs ks x).length=kvs.length:=by have:=congrArg List.length k1; simpa using this
   refine k Hs _ true (.dT (sdG kvs ks x)) (a0 :: As2) (Same.refl _) (pA sr.wf (own c (xab _ cA)) fun _ z=>nomatch z) (fun _ h _=>h) id (.dT (vs:=vs) ⟨by rw [kl]; exact kk.1,fun p hp=>?_⟩ (by rw [upd_ne hca,k1]; exact e) (by rw [k2]; exact r5)) (by simp) (xax.mpr ⟨fun z=>na (in2 _ z),n2⟩) (fun b hb=>?_) fun b _ nb=>upd_ne fun z=>nb (z ▸ xab _ cA)
   ·have:p.1∈kvs.map (·.1):=k1 ▸ List.mem_map_of_mem hp
    obtain ⟨p',hp',e'⟩:=xai.mp this
    rw [<- e']; exact kk.2 p' hp'
   ·have hb':b∈a0 :: A:=(xak.mp hb).elim (fun z=>z ▸ xac) fun z=>xab _ (in2 b z)
    exact ⟨own b hb',.inl hb'⟩
theorem yX {te:WE} {Hs H:Hp} {ρ:Env} {σ:St} {tot:List Addr} {i:Nat} {kvs:List (List Key × D)} {ks:List Key} {xs:List D} {a:Addr} {kvv:List (List Key × V)} {v':V} {R:Env->Prop} {G:Hp->Prop} (sr:SRel K Hs ρ σ H tot) (e1:ρ[i]? = some (some (.ow true (.dT kvs)))) (hg:getG kvs ks=some (.list xs)) (hz:xs.length<sizeLine)
  (eσ:σ[i]? = some (some (.ref a))) (eH:H a=some (.dT kvv)) (ev:valV kvv ks=some v') (q:te ρ fun _ x=>x.flat=true/\R (ρ.set i (some (.ow true (.dT (sdG kvs ks x)))))) (k1:∀ H' Hs' ρ' tot',Same Hs Hs'->SRel K Hs' ρ' σ H' tot'->R ρ'->G H') :
  tyV K "list" v' H/\tCons (tpE K te) tNil σ H fun us H2=>rAppend v' us H2 fun _ H3=>G H3:=by
 obtain ⟨a',kv',c,ws,f1,f2,f3,f4,f5,f6⟩:=tH sr e1 hg
 have ea:a'=a:=by rw [f1] at eσ; cases eσ; rfl
 subst ea
 have ek:kv'=kvv:=by rw [f2] at eH; cases eH; rfl
 subst ek
 have e':v'=.ref c:=by rw [f3] at ev; cases ev; rfl
 subst e'
 refine ⟨.inl ⟨rfl,_,.inl (.inl f4)⟩,Hs,ρ,tot,_,sr,q,fun y H2 Hs2 m x Cs g2 r2 fr2 q2=>?_⟩
 obtain ⟨hx,q2⟩:=q2
 obtain ⟨b',kv2,c2,ws2,h1,h2,h3,h4,h5,h6⟩:=tH (sr.grow g2) e1 hg
 have ea:b'=a':=by rw [f1] at h1; cases h1; rfl
 subst ea
 have ek:kv2=kv':=by rw [g2.all _ _ f2] at h2; cases h2; rfl
 subst ek
 have e':c2=c:=by rw [f3] at h3; cases h3; rfl
 subst e'
 obtain ⟨tot2,sr2⟩:=h6 x y hx (r2.flat g2.wf hx) (by lia)
 exact ⟨c2,ws2,y,rfl,rfl,h4,by lia,k1 _ Hs2 _ tot2 g2.sh sr2 q2⟩
theorem set_own {α:Type} {ρ:List α} {i:Nat} {x:α} (h:ρ[i]? = some x):ρ.set i x=ρ:=by
 apply xbC
 intro j
 rw [List.getElem?_set]
 split
 ·rename_i e
  subst e
  have:=(xaw.mp h).1
  rw [if_pos this,h]
 ·rfl
theorem Gm {L:Str->Hp->Prop} {i:Nat} {p1 p2 p3 p4 p5:Pos} (hu:X.A.units+64<cLine) (he:PE X a (tVar i)) (hb:QE X K b tb) (hc:QE X K c tc) (hK:X.K=K:=by rfl) (hm:M2 X a "setdefault" p1 b (.List [] p2) p3:=by exact ⟨rfl,rfl,rfl,rfl⟩)
  (hs:swapsWith (.Call (.Attribute (.Call (.Attribute a "setdefault" p1) [b,.List [] p2] [] p3) "append" p4) [c] [] p5) none pos.line X.env=pure false:=by rfl)
  (hbase:attributeBase (.Call (.Attribute a "setdefault" p1) [b,.List [] p2] [] p3) "append" X.env (eval (.Call (.Attribute a "setdefault" p1) [b,.List [] p2] [] p3) X.env)=eval (.Call (.Attribute a "setdefault" p1) [b,.List [] p2] [] p3) X.env:=by rfl)
  (hfew:((backTo p5 (starEach [c] X.env)).all (fun x=>!x.1) && (backToKw p5 (keywordEach [] X.env)).all (fun x=>x.1.isSome)
   && decide ([c].length+([]:List Keyword).length+(if ([]:List Keyword).isEmpty then 0 else 1)<30))=true:=by rfl)
  (hline:(p4.endLine == p5.line)=true:=by rfl) (hss:starEach (c :: []) X.env=(false,eval c X.env) :: starEach [] X.env:=by rfl) (hplain:(backTo p5 (starEach [] X.env)).any (·.1)=false:=by rfl) :
  QS X K L (.Expr (.Call (.Attribute (.Call (.Attribute a "setdefault" p1) [b,.List [] p2] [] p3) "append" p4) [c] [] p5) pos) (wSd i tb tc):=by
 subst hK
 refine PS.imp (ps_expr (pe_bm PySem.F.plainAttrs_list PySem.F.slot_list_append PySem.F.type_list_append mt_append (Ho (by lia) he hb (gG (K:=X.K) aq) hm) (pa_cons hc pa_nil hss) hbase hfew hline hss hplain) hs) fun D σ H hx=>fK hx fun Hs ρ tot E sr h k1 k2 k3 k4=>?_
 unfold wSd owdT at h
 split at h
 ·rename_i kvs e1
  obtain ⟨v,e2,pl⟩:=sr.place e1
  obtain ⟨As',r,ne,nd,own,k⟩:=pl.ex
  have lv:∀ x∈As',Hs x=none/\H x≠none:=fun x hx=>⟨own x hx,(r.own x hx).ne⟩
  cases r with
  | sh hf _=>exact absurd rfl ne
  | @dT a0 vs _ A kk e rs =>
   refine ⟨_,e2,a0,rfl,.inr ⟨_,.inl e⟩,Hs,ρ,tot,_,sr,h,fun u H2 Hs2 m y Bs g2 r2 f2 q2=>?_⟩
   refine ⟨Hs2,ρ,tot,fun m d=>m=.ow true/\d=.list [],sr.grow g2,⟨xar _,rfl,rfl⟩,fun w H3 Hs3 n z Cs g3 r3 f3 q3=>?_⟩
   obtain ⟨rfl,rfl⟩:=q3
   have ry:=(r2.grow g3).rep g3.wf
   cases ry with
   | tup t2 ey p2 =>
    obtain ⟨ks,hk,hz,hsh,q⟩:=q2
    obtain ⟨b',eb,e3⟩:=Rep.keyT (.tup t2 ey p2) hk
    cases eb
    have g:=g2.trans g3
    have hl:kvs.length=vs.length:=by have:=rs.length; rwa [xad] at this
    have srg:=sr.grow g
    have zg:=zip_get (k:=ks) (rs.reps (G:=H) sr.wf.sub fun _ _=>rfl)
    refine ⟨_,ks,_,g.all _ _ e,rfl,e3,by rw [xbn,xad,<- hl,xcc]; exact hz,fun v' ev=>?_,fun ev=>?_⟩
    ·cases hg:getG kvs ks with
     | none=>rw [hg] at zg; rw [zg] at ev; cases ev
     | some d =>
      rw [hg] at hsh
      cases d with
      | list xs =>
       rw [show sdN kvs ks=kvs by unfold sdN; rw [hg],set_own e1] at q
       exact yX (G:=fun H'=>D.nx σ H') srg e1 hg hsh e2 (g.all _ _ e) ev q fun H' Hs' ρ' tot' s1 s2 q'=>k1 σ H' Hs' ρ' tot' (g.sh.trans s1) s2 q'
      | _=>exact hsh.elim
    ·have hg:getG kvs ks=none:=by
      cases hg:getG kvs ks with
      | none=>rfl
      | some d=>rw [hg] at zg; obtain ⟨v',z,_⟩:=zg; rw [z] at ev; cases ev
     rw [show sdN kvs ks=kvs++[(ks,.list [])] by unfold sdN; rw [hg]] at q
     obtain ⟨r3,_⟩:=r3
     cases r3 with
     | sh hf _=>exact absurd (hf rfl) (by simp [Q.D.flat])
     | @list c ws _ B' hw ec rs' =>
      cases rs'
      obtain ⟨na,nA⟩:=xax.mp nd
      have fc:=f3.2 c xac
      have hHc:H c=none:=g2.all.free fc.2
      have cA:∀ b∈a0 :: A,b≠c:=fun b hb z=>by
       subst z
       rcases xak.mp hb with rfl | hb
       ·rw [e] at hHc; cases hHc
       ·exact (rs.own _ hb).ne hHc
      have ek:putK ((kvs.map (·.1)).zip vs) ks (V.ref c)=((kvs++[(ks,Q.D.list [])]).map (·.1)).zip (vs++[V.ref c]):=by
       have:=valV_any ks ((kvs.map (·.1)).zip vs)
       rw [ev] at this
       unfold putK
       rw [this,if_neg (by decide),xaF,List.zip_append (by rw [xad]; exact hl)]
       rfl
      obtain ⟨kl,ko⟩:=tD p2 hk
      have l1:=p2.length
      have rs3:=rs.grow g.sh g.all
      have rs4:az X.K Hs3 (upd H3 a0 (.dT (((kvs++[(ks,Q.D.list [])]).map (·.1)).zip (vs++[V.ref c])))) true ((kvs++[(ks,Q.D.list [])]).map (·.2)) (vs++[V.ref c]) (A++[c]):=by
       have q1:=rs3.stay (H':=upd H3 a0 (.dT (((kvs++[(ks,Q.D.list [])]).map (·.1)).zip (vs++[V.ref c])))) (Same.refl _) fun b hb=>upd_ne fun z=>na (z ▸ hb)
       have q2:=q1.append (az.cons (RepO.list (ds:=[]) (As:=[]) hw ((upd_ne fun z=>cA a0 xac z.symm).trans ec) .nil) .nil)
       rw [show (kvs++[(ks,Q.D.list [])]).map (·.2)=kvs.map (·.2)++[Q.D.list []] by simp]
       exact q2
      obtain ⟨tot2,sr2⟩:=k.node (fl2:=true) (d2:=.dT (kvs++[(ks,.list [])])) (C:=A++[c]) g lv (fun _ z=>by cases z) id
       (.dT ⟨by rw [xam]; exact hz,fun p hp=>(xaf.mp hp).elim (kk.2 p) fun z=>by
        obtain rfl:p=(ks,.list []):=by simpa using z
        exact ⟨by show ks.length<=_; lia,ko⟩⟩ upd_same rs4)
       (xaj.mpr ⟨nA,by simp,fun x hx y hy z=>cA x (xab _ hx) (by rw [z]; simpa using hy)⟩) (fun z=>(xaf.mp z).elim na fun z=>cA a0 xac (by simpa using z))
       (fun x hx=>(xaf.mp hx).imp id fun z=>by
        obtain rfl:x=c:=by simpa using z
        exact ⟨fc.1,hHc⟩)
      rw [ek]
      have hi:i<ρ.length:=(xaw.mp e1).1
      refine yX (G:=fun H'=>D.nx σ H') (R:=E.nx) (kvs:=kvs++[(ks,.list [])]) (xs:=[]) sr2 (by simp [hi]) (qJ hg) (by rw [sizeLine_eq]; decide) e2 upd_same (by rw [<- ek,valV_put,if_pos rfl]) ?_ fun H' Hs' ρ' tot' s1 s2 q'=>k1 σ H' Hs' ρ' tot' (g.sh.trans s1) s2 q'
      simp only [List.set_set,sV hg]
      exact q
   | _=>exact q2.elim
 ·exact h.elim
end
end L2.Q
namespace L2
open PySem PySem.Spec PyProof.Rows
def Bf:R2:=fun x y H Q=>match x,y with
 | .str z,.int n=>(0<=n/\n<=100/\z.length<=100)/\Q (.str (repS n z)) H
 | _,_=>False
theorem BK {X:Cx}:OpR X (binaryOp .Mult) Bf:=by
 intro pins s σ H x y v u Q I rx ry h
 unfold Bf at h
 split at h
 ·rename_i z n
  obtain ⟨⟨h1,h2,h3⟩,q⟩:=h
  by_cases hn:n<1
  ·obtain ⟨t,rfl⟩:=rx
   obtain ⟨t',rfl⟩:=ry
   have e:n=0:=by lia
   subst e
   refine jA ⟨by decide,fun z=>absurd hn z,fun z=>absurd hn z⟩ fun t' k=>⟨.str (repS 0 z),H,I.tok _,⟨t',by rw [show Txt.mul z 0=repS 0 z from by unfold Txt.mul repS; rw [if_pos hn]; rfl]⟩,q⟩
  ·exact zU pins s σ H (.str z) (.int n) v u Q I rx ry ⟨⟨by lia,h2,h3⟩,q⟩
 ·exact h.elim
end L2
namespace L2.Q
open PySem PySem.Spec PyProof.Rows
section
variable {X:Cx} {K:PySem.W.Frag} {a b c:Expr} {ta tb:WE} {pos:Pos}
def xW:W2:=fun _ x _ y Q=>match x with
 | .str z=>match y with
  | .int n=>(0<=n/\n<=100/\z.length<=100)/\Q .sh (.str (repS n z))
  | _=>False
 | _=>False
theorem A_:Br2 K Bf xW:=by
 intro Hs H m x v As n y u Bs Qd Qv w rx ry h f
 have r1:=rx.rep w
 have r2:=ry.rep w
 cases r1 with
 | str hz=>cases r2 with
  | int n =>
   obtain ⟨hh,q⟩:=h
   refine ⟨hh,f.sh w (.str ?_) q⟩
   rw [nU,sizeLine_eq]
   have:n.toNat * Str.length _<=100 * 100:=xbQ (by lia) hh.2.2
   lia
  | _=>exact h.elim
 | _=>exact h.elim
theorem Eo (ha:QE X K a ta) (hb:QE X K b tb):QE X K (.BinOp a .Mult b pos) (wOp xW ta tb):=q_op BK A_ ha hb
def owdK (d:D) (k:List (Key × D)->Prop):Prop:=match d with
 | .dK kvs=>k kvs
 | _=>False
theorem SR.take (i:Nat) (s:SR K Hs H ρ σ tot):ρ[i]? = some (some (.ow fl d))->tot.Nodup ->
  ∃ (v:V) (As tot':List Addr),σ[i]? = some (some v)/\RepO K Hs H fl d v As/\As.Sublist tot/\tot'.Sublist tot/\(∀ a∈As,a∉tot')/\SR K Hs H (ρ.set i none) σ tot':=by
 induction s generalizing i with
 | nil=>intro e; simp at e
 | non q ih =>
  intro e n
  cases i with
  | zero=>simp at e
  | succ i =>
   obtain ⟨v,As,t,o,a,b,c,d,f⟩:=ih i e n
   exact ⟨v,As,t,o,a,b,c,d,.non f⟩
 | sh r q ih =>
  intro e n
  cases i with
  | zero=>simp at e
  | succ i =>
   obtain ⟨v,As,t,o,a,b,c,d,f⟩:=ih i e n
   exact ⟨v,As,t,o,a,b,c,d,.sh r f⟩
 | xc q ih =>
  intro e n
  cases i with
  | zero=>simp at e
  | succ i =>
   obtain ⟨v,As,t,o,a,b,c,d,f⟩:=ih i e n
   exact ⟨v,As,t,o,a,b,c,d,.xc f⟩
 | ow ne r q ih =>
  intro e n
  obtain ⟨n1,n2,n3⟩:=xaj.mp n
  cases i with
  | zero =>
   simp at e
   obtain ⟨rfl,rfl⟩:=e
   exact ⟨_,_,_,rfl,r,xa5 _ _,xan _ _,fun a h m=>n3 a h a m rfl,.non q⟩
  | succ i =>
   obtain ⟨v,As,t,o,a,b,c,d,f⟩:=ih i e n2
   exact ⟨v,As,_,o,a,b.trans (xan _ _),c.append_left _,ni n b d,.ow ne r f⟩
 | lk ne r q ih =>
  intro e n
  obtain ⟨n1,n2,n3⟩:=xaj.mp n
  cases i with
  | zero=>simp at e
  | succ i =>
   obtain ⟨v,As,t,o,a,b,c,d,f⟩:=ih i e n2
   exact ⟨v,As,_,o,a,b.trans (xan _ _),c.append_left _,ni n b d,.lk ne r f⟩
end
end L2.Q
namespace L2.Q.R
open PySem PySem.Spec PyProof.Rows L2.Q
section
variable {ρ:Env} {E:nJ} {te tb tc tk:WE} {m m':Md} {x y:L2.Q.D} {ys:List L2.Q.D} {Q:Md->L2.Q.D->Prop} {i k:Nat}
theorem Iz {a:Int} {x:Str}:xW m (.str x) m' (.int a) Q=((0<=a/\a<=100/\x.length<=100)/\Q .sh (.str (repS a x))):=rfl
theorem JR {kvs:List (Key × L2.Q.D)} {k:List (Key × L2.Q.D)->Prop}:owdK (.dK kvs) k=k kvs:=rfl
theorem JS:wGet te tb tc ρ Q=te ρ fun m x=>onK x (f:=fun x=>onD x (fun kvs=>tb ρ fun _ y=>tc ρ fun n z=>∃ k,y.key1=some k/\gotG (getG kvs k) m n z Q)
 (fun kvs=>tb ρ fun _ y=>tc ρ fun n z=>onK y (f:=fun y=>tupD y fun ys=>∃ ks,dM ys=some ks/\gotG (getG kvs ks) m n z Q) ⟨⟩)) ⟨⟩:=rfl
theorem Kz:onD (.dK kvs) f g=f kvs:=rfl
theorem JV:onD (.dT kvs) f g=g kvs:=rfl
theorem JQ {k:List L2.Q.D->Prop}:tupD (.tup ys) k=k ys:=rfl
theorem wSd_:wSd i tk te E ρ=onK ρ[i]? (f:=fun o=>owdT o fun kvs=>tk ρ fun _ y=>onK y (f:=fun y=>tupD y fun ys=>∃ ks,dM ys=some ks/\kvs.length<sizeLine/\zp (getG kvs ks) /\
 te (ρ.set i (some (.ow true (.dT (sdN kvs ks))))) fun _ x=>x.flat=true/\E.nx (ρ.set i (some (.ow true (.dT (sdG kvs ks x)))))) ⟨⟩) ⟨⟩:=rfl
theorem KR {kvs:List (List Key × L2.Q.D)} {k:List (List Key × L2.Q.D)->Prop}:owdT (some (some (.ow true (.dT kvs)))) k=k kvs:=rfl
end
end L2.Q.R
namespace L2
open PySem PySem.Spec PyProof.Rows
section
def insL {α:Type} (xs:List α) (k:Nat) (y:α):List α:=xs.take k++y :: xs.drop k
end
end L2
namespace L2.Q
open PySem PySem.Spec PyProof.Rows
section
variable {K:PySem.W.Frag} {e:Expr}
theorem zf:bootBuiltins "int" = some (.type "int"):=by decide +kernel
def fInt:W1:=fun _ x Q=>match x with
 | .int i=>Q .sh (.int i)
 | .bl b=>Q .sh (.int (if b then 1 else 0))
 | _=>False
theorem Er:BrC K (fun xs H Q=>(∃ i,xs=[.int i]/\Q (.int i) H)\/∃ k,xs=[.bl k]/\Q (.int (if k then 1 else 0)) H) fInt:=by
 intro Hs H m x v As Qd Qv w rx h f
 have r1:=rx.rep w
 cases r1 with
 | int i=>exact .inl ⟨i,rfl,f.sh w (.int _) h⟩
 | bl b=>exact .inr ⟨b,rfl,f.sh w (.int _) h⟩
 | _=>exact h.elim
theorem az.ins (r:RepO K Hs H fl d v []) (k:Nat) (q:az K Hs H fl ds vs As):az K Hs H fl (insL ds k d) (insL vs k v) As:=by
 induction k generalizing ds vs As with
 | zero=>exact az.cons r q
 | succ k ih =>
  cases ds with
  | nil =>
   obtain ⟨rfl,rfl⟩:=q.n0
   exact az.cons r .nil
  | cons e ds =>
   obtain ⟨u,us,A,B,rfl,rfl,q,qs⟩:=q.c
   exact az.cons q (ih qs)
end
end L2.Q
namespace L2.Q.R
open PySem PySem.Spec PyProof.Rows L2.Q
section
variable {m:Md} {Q:Md->L2.Q.D->Prop} {xs:List L2.Q.D} {k:List L2.Q.D->Prop}
def lstD (d:L2.Q.D) (k:List L2.Q.D->Prop):Prop:=match d with
 | .list xs=>k xs
 | _=>False
theorem Kl:lstD (.list xs) k=k xs:=rfl
theorem JB:gotG (some d) m n z Q=Q (itm m d) d:=rfl
theorem HH:gotG none m n z Q=Q n z:=rfl
theorem JF:fInt m (.int i) Q=Q .sh (.int i):=rfl
theorem HB:fInt m (.bl b) Q=Q .sh (.int (if b then 1 else 0)):=rfl
end
end L2.Q.R
namespace L2
open PySem PySem.Spec PyProof.Rows
def yU (sc scope:Scope) (N cn:List Str) (ix:List Nat):Bool :=
 scope.kind == .function && scope.names.all (fun y=>y.2 != .free || vis2 (sc.names.lookup y.1)) && scope.names.all (fun y=>y.2 != .local || scope.names.lookup y.1 == some .local) &&
 ix.length == cn.length && (List.range ix.length).all (fun k=>match ix[k]?,cn[k]? with
  | some j,some y=>N[j]? == some y && vis2 (sc.names.lookup y) && scope.names.contains (y,NameKind.free) && vis2 ((rlN sc scope.names).lookup y) && !scope.names.contains (y,NameKind.cell)
  | _,_=>false) &&
 (rlN sc scope.names).all (fun y=>!(y.2 == .cell || y.2 == .free) || scope.names.contains (y.1,NameKind.free) || scope.names.contains (y.1,NameKind.cell))
theorem fC.of {X:Cx} (hsc:X.env.scope=sc) (hN:X.N=N) (h:yU sc scope N cn ix=true):fC X scope tn cn ix:=by
 unfold yU at h
 simp only [xay] at h
 obtain ⟨⟨⟨⟨⟨h1,h3⟩,h4⟩,h5⟩,h6⟩,h7⟩:=h
 rw [xbY] at h3 h4 h6 h7
 have erl:(relabel scope X.env).names=rlN sc scope.names:=by
  unfold relabel rlN
  rw [<- hsc]
  rfl
 refine ⟨by simpa using h1,fun y hy hk=>?_,fun y hy hk=>?_,by simpa using h5,fun k j hk=>?_,fun x hx=>?_⟩
 ·have:=h3 y hy
  rw [hk] at this
  rw [hsc]
  exact iI (by simpa using this)
 ·have:=h4 y hy
  rw [hk] at this
  simpa using this
 ·have hk':k<ix.length:=(xaw.mp hk).1
  have:=h6 k (xaS.mpr hk')
  rw [hk] at this
  cases e:cn[k]? with
  | none=>rw [e] at this; cases this
  | some y =>
   rw [e] at this
   simp only [xay] at this
   obtain ⟨⟨⟨⟨a1,a2⟩,a3⟩,a4⟩,a5⟩:=this
   refine ⟨y,rfl,by rw [hN]; simpa using a1,by rw [hsc]; exact iI a2,by simpa using a3,by rw [erl]; exact iI a4,by simpa using a5⟩
 ·rw [erl] at hx
  have mem:∃ k,(x,k)∈rlN sc scope.names/\(k=.cell\/k=.free):=by
   rcases hx with hx | hx
   ·exact ⟨_,PySem.mem_of_lookup hx,.inl rfl⟩
   ·exact ⟨_,PySem.mem_of_lookup hx,.inr rfl⟩
  obtain ⟨k,hm,hk⟩:=mem
  have:=h7 _ hm
  rcases hk with rfl | rfl <;> simpa using this
def rlS (sc scope:Scope):Scope:={ scope with names:=rlN sc scope.names }
theorem cg.inC {X:Cx} (hsc:X.env.scope=sc) (h:zq (rlS sc scope0) scope N cn ix=true):cg (aP X scope0 C N fp s H) scope tn cn ix :=
 cg.of (sc:=rlS sc scope0) (by
  show relabel scope0 X.env=rlS sc scope0
  unfold relabel rlS rlN
  rw [<- hsc]
  rfl) rfl h
end L2
namespace L2.Q
open PySem PySem.Spec PyProof.Rows
section
variable {X:Cx} {K:PySem.W.Frag}
theorem zF (hc:X.calm=true) (hi:QIb X K tg iter wi) (O:fC X scope tn cn ix)
  (hg:∀ C fp s₃ H₃,QG (aP X scope C (tn++cn) fp s₃ H₃) K tg g) (hcs:∀ C fp s₃ H₃,QTs (aP X scope C (tn++cn) fp s₃ H₃) K ifs tc) (he:∀ C fp s₃ H₃,QE (aP X scope C (tn++cn) fp s₃ H₃) K elt te)
  (hs:∀ x,foldedSetIterable iter X.env x=pure x:=by intro _; rfl):QE X K (.ListComp elt [⟨tg,iter,ifs,0⟩] scope pos) (iC wi g tc te tn.length ix) :=
 PE.imp (rZ hc hi O hg hcs he hs) fun σ H Qv h=>jz h
def Hd (m:Md) (d:D):Prop:=d.flat=true\/m=.sh
structure uI (K:PySem.W.Frag) (H1:Hp) (b:Addr) (acc:List D) (ys:List V) (As:List Addr) (Hs:Hp) (ρ:Env) (τ:St) (H:Hp):Prop where
 sm:Same H1 Hs
 sr:SRel K Hs ρ τ H []
 eD:H b=some (.lst ys)
 nD:Hs b=none
 ra:az K Hs H false acc ys As
 nd:(b :: As).Nodup
 own:∀ a∈As,Hs a=none
theorem uI.grow (c:uI K H1 b acc ys As Hs ρ τ H) (g:Grow Hs H Hs' H'):uI K H1 b acc ys As Hs' ρ τ H' :=
 ⟨c.sm.trans g.sh,c.sr.grow g,g.all _ _ c.eD,g.hsn c.nD (by rw [c.eD]; exact fun z=>nomatch z),c.ra.grow g.sh g.all,c.nd,fun a ha=>g.hsn (c.own a ha) (c.ra.own a ha).ne⟩
theorem uI.push (c:uI K H1 b acc ys As Hs ρ τ H) (r:RM K Hs H m d v Bs) (ok:Hd m d) (nb:Bs.Nodup) (fb:∀ a∈Bs,Hs a=none/\a∉b :: As):∃ As',uI K H1 b (acc++[d]) (ys++[v]) As' Hs ρ τ (upd H b (.lst (ys++[v]))):=by
 obtain ⟨B,sb,rb⟩:∃ B,B.Sublist Bs/\RepO K Hs H false d v B:=by
  rcases ok with hf | rfl
  ·exact ⟨[],xaW _,.sh (fun _=>hf) (r.flat c.sr.wf hf)⟩
  ·exact ⟨[],xaW _,.sh (fun z=>nomatch z) r.2⟩
 obtain ⟨na,nA⟩:=xax.mp c.nd
 have fb':=fun a ha=>fb a (sb.subset ha)
 refine ⟨As++(B++[]),c.sm,⟨c.sr.sr.heap,pA c.sr.wf c.nD (fun _ z=>nomatch z),xaB,fun a h=>nomatch h⟩,upd_same,c.nD,(c.ra.stay (H':=upd H b (.lst (ys++[v]))) (Same.refl _) fun a ha=>upd_ne fun z=>na (by subst z; exact ha)).append (.cons (rb.stay (Same.refl _) fun a ha=>upd_ne fun z=>(fb' a ha).2 (by subst z; exact xac)) .nil),?_,?_⟩
 ·rw [xaE]
  refine xax.mpr ⟨fun m=>(xaf.mp m).elim na fun m=>(fb' b m).2 xac,xaj.mpr ⟨nA,sb.nodup nb,fun x hx y hy e=>(fb' y hy).2 (e ▸ xab _ hx)⟩⟩
 ·rw [xaE]
  exact fun a ha=>(xaf.mp ha).elim (c.own a) fun m=>(fb' a m).1
end
end L2.Q
namespace L2.Q.R
open PySem PySem.Spec PyProof.Rows L2.Q
end L2.Q.R
namespace L2
open PySem PySem.Spec PyProof.Rows
section
variable {prog:Program} {w:World} {A:Around} {E:Value->Shared->Prop} {s:Shared} {κ:Type} [DecidableEq κ] {knd:KeyKind prog w κ}
theorem m7 {d b:Addr} {xs:List (List κ × Addr × Value)} {k:List κ} {v:Value} {Q:Unit->Shared->Prop} (hu:(tupleKind knd).room A) (hkey:(tupleKind knd).is s.heap k b) (hm:s.heap.DictOfH (tupleKind knd) d xs) (hnot:k∉xs.map (·.1)) (hsz:xs.length<=sizeLine)
  (hQ:∀ h',h'.DictOfH (tupleKind knd) d (xs++[(k,b,v)])->Heap.SameBut d s.heap h'->Q () { s with heap:=h' }):wpAny (model prog w) A (dictSetHashed d (.ref b) ((tupleKind knd).hash k) v) Q E s:=by
 obtain ⟨o,es,ep,ho,hc,hd,he,his,hn⟩:=hm
 unfold dictSetHashed
 try with_reducible refine wpAny_holding ?_
 refine xaa (wpAny_dictFind_heap hu hkey ho hd he his hn (fun hno=>?_) fun j p hj=>?_)
 ·refine xaa (wpAny_rule (wpAny_updateDictKeys (hz:=by have e:=size_of_entries he; lia) ho hd (hQ _ ⟨_,_,ep+1,xbB _ ho (Obj.isFreed_of_dict (Obj.data_mapDictKeys hd _)),hc.mapDictKeys _,Obj.data_mapDictKeys hd _,?_,?_,?_⟩ (Heap.SameBut.update ..))))
  ·simp [he,entryOfKey]
  ·intro x hx
   rcases xaf.mp hx with hx | hx
   ·exact (tupleKind knd).keeps (his x hx) ho hd (Heap.SameBut.update ..)
   ·simp only [xaH] at hx
    subst hx
    exact (tupleKind knd).keeps hkey ho hd (Heap.SameBut.update ..)
  ·rw [xaF,xaj]
   refine ⟨hn,by simp,?_⟩
   intro x hx y hy
   simp only [xaq,xco,xaH] at hy
   subst hy
   exact fun e=>hnot (e ▸ hx)
 ·exact absurd (xai.mpr ⟨_,xaL hj,rfl⟩) hnot
theorem qZ {k:List κ} {b:Addr} {Q:Bool->Shared->Prop} (hk:(tupleKind knd).is s.heap k b) (h:Q false s):wpAny (model prog w) A (Builtin.Dict.quietEq (.ref b)) Q E s:=by
 unfold Builtin.Dict.quietEq
 refine xaa (wpAny_specialOf (IsTupleKey.typeIs hk) F.slot_tuple_eq.lookup ?_)
 exact xae h
theorem uz {es:List DictEntry} (h:(es.map (·.hash)).Nodup) (e:DictEntry) (he:e∈es):((es.filter (·.hash == e.hash)).length<=1):=by
 induction es with
 | nil=>simp
 | cons x es ih =>
  obtain ⟨h1,h2⟩:=xax.mp h
  have none:∀ {y:DictEntry},y.hash∉es.map (·.hash)->es.filter (·.hash == y.hash)=[]:=fun hy=>List.filter_eq_nil_iff.mpr fun z hz q=>hy (xai.mpr ⟨z,hz,beq_iff_eq.mp q⟩)
  rcases xak.mp he with rfl | he
  ·rw [xbX,none h1]; split <;> simp
  ·rw [xbX,if_neg]
   ·exact ih h2 he
   ·intro q
    exact h1 (xai.mpr ⟨e,he,(beq_iff_eq.mp q).symm⟩)
theorem pO {id:String} {d:Addr} {o:Obj} {es ep} {xs:List (List κ × Addr × Value)} {Q:Array DictEntry->Shared->Prop} (ho:s.heap.get? d=some o) (hd:o.data=.dict es ep) (he:es.toList=xs.map (entryOfKey (tupleKind knd))) (his:∀ x∈xs,(tupleKind knd).is s.heap x.1 x.2.1)
  (hh:(xs.map fun x=>(tupleKind knd).hash x.1).Nodup) (h:Q es s):wpAny (model prog w) A (Builtin.Dict.entriesForEmpty id d) Q E s:=by
 unfold Builtin.Dict.entriesForEmpty
 refine xaa (wpAny_dictEntries ho hd ?_)
 have hn:(es.toList.map (·.hash)).Nodup:=by rw [he,xaG]; exact hh
 refine xaa ?_
 rw [<- Array.forIn_toList]
 refine wpAny_forIn_list _ (fun rest _ s'=>s'=s/\∀ e∈rest,e∈es.toList) _ ?_ ?_ _ _ ⟨rfl,fun e h=>h⟩
 ·rintro x rest b s' ⟨rfl,hr⟩
  have hx:=hr x xac
  have hx2:=hx
  rw [he] at hx2
  obtain ⟨y,hy,rfl⟩:=xai.mp hx2
  refine xaa (qZ (his y hy) ?_)
  have one:=uz hn _ hx
  have sz:¬ (es.filter (·.hash == (entryOfKey (tupleKind knd) y).hash)).size>1:=by
   rw [<- xaY,Array.toList_filter]; lia
  simp only [Bool.not_false,if_true]
  rw [if_neg sz]
  exact xae ⟨rfl,fun e h=>hr e (xab _ h)⟩
 ·rintro b s' ⟨rfl,_⟩
  exact xae h
theorem uB {nm:String} {d o:Addr} {xs ys:List (List κ × Addr × Value)} {Q:Unit->Shared->Prop} (hu:(tupleKind knd).room A) (hdo:d≠o) (hoS:(o == sysModules)=false) (hd:s.heap.DictOfH (tupleKind knd) d xs) (ho:s.heap.DictOfH (tupleKind knd) o ys)
  (dj:∀ y∈ys,y.1∉xs.map (·.1)) (hh:(ys.map fun x=>(tupleKind knd).hash x.1).Nodup) (hsz:xs.length+ys.length<=sizeLine) (hQ:∀ h',h'.DictOfH (tupleKind knd) d (xs++ys)->Heap.SameBut d s.heap h'->Q () { s with heap:=h' }) :
  wpAny (model prog w) A (Builtin.Dict.mergeDict nm d o) Q E s:=by
 obtain ⟨od,esd,epd,hod,hcd,hdd,hed,hisd,hnd⟩:=id hd
 obtain ⟨oo,eso,epo,hoo,hco,hdo',heo,hiso,hno⟩:=id ho
 have hlen:eso.size=ys.length:=size_of_entries heo
 unfold Builtin.Dict.mergeDict
 rw [if_neg (by simpa using hdo)]
 unfold Builtin.Dict.showsAll
 rw [if_neg (by rw [hoS]; exact xas)]
 refine xaa (xae ?_)
 refine xaa (wpAny_dictEntries hoo hdo' ?_)
 have loop:wpAny (model prog w) A (do
   let epoch ← dictEpoch o
   let l ← dictEntries o
   forIn [:l.size] PUnit.unit fun i (_:PUnit)=>(do
     let l' ← dictEntries o
     match l'[i]? with
      | some e=>do
       holding [e.key,e.val] (dictSetHashed d e.key e.hash e.val)
       let ep' ← dictEpoch o
       if (ep' != epoch)=true then do
         (unsupported (toString nm++toString ":source-changed-during-callback"):Sem PUnit)
         pure (ForInStep.yield PUnit.unit)
        else pure (ForInStep.yield PUnit.unit)
      | _=>do
       (unsupported "internal:dict-merge" : Sem PUnit)
       pure (ForInStep.yield PUnit.unit):Sem (ForInStep PUnit))
   pure ()) Q E s:=by
  refine xaa (wpAny_dictEpoch hoo hdo' ?_)
  refine xaa (wpAny_dictEntries hoo hdo' ?_)
  refine xaa ?_
  rw [Std.Legacy.Range.forIn_eq_forIn_range']
  simp only [Std.Legacy.Range.size,Nat.sub_zero,Nat.add_sub_cancel,Nat.div_one]
  refine wpAny_forIn_list _
   (fun rest _ s'=>∃ h' i,s'={ s with heap:=h' }/\rest=List.range' i (eso.size - i)/\i<=eso.size/\h'.DictOfH (tupleKind knd) d (xs++ys.take i)/\h'.get? o=some oo/\Heap.SameBut d s.heap h')
   _ ?_ ?_ _ _ ⟨s.heap,0,rfl,by simp,xar _,by simpa using hd,hoo,Heap.SameBut.refl _ _⟩
  ·rintro x rest b s' ⟨h',i,rfl,hr,hi,hd',hoo',hs'⟩
   have hlt:i<eso.size:=by
    rcases Nat.lt_or_ge i eso.size with h | h
    ·exact h
    ·rw [Nat.sub_eq_zero_of_le h] at hr; simp at hr
   obtain ⟨rfl,hrest⟩:x=i/\rest=List.range' (i+1) (eso.size - (i+1)):=by
    have e:eso.size - i=(eso.size - (i+1))+1:=by lia
    rw [e,List.range'_succ] at hr
    injection hr with h1 h2
    exact ⟨h1,h2⟩
   refine xaa (wpAny_dictEntries hoo' hdo' ?_)
   have hx:x<ys.length:=by lia
   have ey:eso[x]? = some (entryOfKey (tupleKind knd) ys[x]):=by rw [entry_at heo,xa4 hx]; rfl
   rw [ey]
   have hy:ys[x]∈ys:=List.getElem_mem hx
   have hk0:=hiso _ hy
   have hk1:(tupleKind knd).is h' ys[x].1 ys[x].2.1:=(tupleKind knd).keeps hk0 hod hdd hs'
   have tl:(ys.take x).length=x:=by rw [xaC]; lia
   have hnot:ys[x].1∉(xs++ys.take x).map (·.1):=by
    rw [xaF]
    intro q
    rcases xaf.mp q with q | q
    ·exact dj _ hy q
    ·obtain ⟨z,hz,e⟩:=xai.mp q
     obtain ⟨j,hj,ej⟩:=List.mem_take_iff_getElem.mp hz
     have hj1:j<ys.length:=by lia
     exact absurd (by rw [List.getElem_map,List.getElem_map,ej]; exact e) (xa9.mp hno j x (by rw [xad]; lia) (by rw [xad]; exact hx) (by lia))
   show wpAny _ _ (holding [.ref ys[x].2.1,ys[x].2.2] (dictSetHashed d (.ref ys[x].2.1) ((tupleKind knd).hash ys[x].1) ys[x].2.2) >>= _) _ _ _
   refine xaa (wpAny_holding (m7 hu hk1 hd' hnot (by rw [xam]; lia) fun h'' hd'' hs''=>?_))
   have hoo'':h''.get? o=some oo:=(hs''.2 o (Ne.symm hdo)).trans hoo'
   refine xaa (wpAny_dictEpoch hoo'' hdo' ?_)
   rw [if_neg (by simp)]
   refine xae ⟨h'',x+1,rfl,hrest,hlt,?_,hoo'',hs'.trans hs''⟩
   rw [List.take_succ_eq_append_getElem hx,<- xa0]
   exact hd''
  ·rintro b s' ⟨h',i,rfl,hr,hi,hd',hoo',hs'⟩
   have hin:i=eso.size:=by
    rcases Nat.lt_or_ge i eso.size with h | h
    ·have e:eso.size - i=(eso.size - (i+1))+1:=by lia
     rw [e,List.range'_succ] at hr; exact nomatch hr
    ·exact xb7 hi h
   refine xae (hQ h' ?_ hs')
   rw [hin,hlen,xba] at hd'; exact hd'
 dsimp only
 split
 ·refine xaa (wpAny_dictEntries hod hdd ?_)
  split
  ·rename_i hemp
   have hxs:xs=[]:=by
    have h0:esd = #[]:=Array.isEmpty_iff.mp hemp
    have:=size_of_entries hed; rw [h0] at this; exact xbw.mp this.symm
   subst hxs
   refine xaa (pO hoo hdo' heo hiso hh ?_)
   split
   ·have hto:eso.size<=sizeLine+1:=by
     simp only [List.length_nil,xcb] at hsz
     lia
    refine xaa (wpAny_updateDictKeysTo hod hdd (xae (hQ _ ⟨_,_,epd+1,xbB _ hod (Obj.isFreed_of_dict (Obj.data_mapDictKeys hdd _)),hcd.mapDictKeys _,
     Obj.data_mapDictKeys hdd _,by simpa using heo,fun x hx=>(tupleKind knd).keeps (hiso x hx) hod hdd (Heap.SameBut.update ..),by simpa using hno⟩ (Heap.SameBut.update ..))) hto)
   ·rename_i hne
    have h0:eso = #[]:=Array.isEmpty_iff.mp (by simpa using hne)
    have hm0:ys=[]:=xbw.mp (by rw [<- hlen,h0]; rfl)
    subst hm0
    exact xae (hQ _ hd (Heap.SameBut.refl _ _))
  ·exact loop
 ·exact loop
theorem rG (knd:KeyKind prog w κ) (d o:Addr) (hdo:d≠o) (hoS:(o == sysModules)=false) :
  MeetsIn prog w (Builtin.«dict.update» ⟨[.ref d,.ref o],[]⟩) (fun A R s=>(tupleKind knd).room A.in1/\∃ xs ys,s.heap.DictOfH (tupleKind knd) d xs/\s.heap.DictOfH (tupleKind knd) o ys/\(∀ y∈ys,y.1∉xs.map (·.1))/\(ys.map fun x=>(tupleKind knd).hash x.1).Nodup/\xs.length+ys.length<=sizeLine /\
   ∀ h',h'.DictOfH (tupleKind knd) d (xs++ys)->Heap.SameBut d s.heap h'->R (.ok (.ret .none)) { s with heap:=h' }) :=
 .of_wp fun A R s hx9=>by
  obtain ⟨hu,xs,ys,hd,ho,dj,hh,hsz,h⟩:=hx9
  unfold Builtin.«dict.update»
  refine xaa ?_
  unfold Builtin.Dict.selfAndRest
  refine xaa (wpAny_notOrdered_dict hd.typeIs ?_)
  show wpAny _ _ (pure (d,[Value.ref o])) _ _ s
  refine xae ?_
  show wpAny _ _ (Builtin.Dict.updateFrom "dict.update" d (.ref o) [] .none) _ _ s
  unfold Builtin.Dict.updateFrom
  refine xaa (wpAny_typeOf ho.typeIs ?_)
  rw [if_neg (by decide)]
  refine xaa ?_
  unfold Builtin.Dict.merge
  refine xaa ?_
  ·unfold Builtin.Dict.readDirectly
   refine xaa (wpAny_isInstance ho.typeIs isSubtype_dict_dict ?_)
   simp only [Bool.not_true,xat,if_false]
   refine xaa (wpAny_specialOf ho.typeIs F.slot_dict_iter.lookup (xae ?_))
   simp only [beq_self_eq_true,if_true]
   refine xaa (xae ?_)
   refine uB hu hdo hoS hd ho dj hh hsz fun h' hd' hs'=>?_
   show wpAny _ _ (Builtin.Dict.addKeywords d [] >>= _) _ _ _
   exact xaa (xae (xae ⟨.none,rfl,h h' hd' hs'⟩))
end
def CV (p q:Int):Int:=reduceHash (Builtin.Tuple.tupleHashOf [hashInt p,hashInt q])
theorem xf:((List.range 12).flatMap fun p:Nat=>(List.range 12).map fun q:Nat=>CV p q).Nodup:=by decide +kernel
theorem xq {f:Nat->Nat->Int}:∀ {n m:Nat},((List.range n).flatMap fun p:Nat=>(List.range m).map fun q:Nat=>f p q).Nodup->∀ {a b c d:Nat},a<n->c<n->b<m->d<m->f a b=f c d->a=c/\b=d:=by
 intro n m h a b c d ha hc hb hd e
 obtain ⟨h1,h2⟩:=List.pairwise_flatMap.mp h
 by_cases z:a=c
 ·subst z
  refine ⟨rfl,?_⟩
  have h3:=h1 a (xaS.mpr ha)
  by_cases y:b=d
  ·exact y
  ·exfalso
   have h4:=xaR.mp h3
   have h5:=(xa9.mp h4)
   rcases Nat.lt_or_gt_of_ne y with y | y
   ·exact h5 b d (by simpa using hb) (by simpa using hd) y (by simpa using e)
   ·exact h5 d b (by simpa using hd) (by simpa using hb) y (by simpa using e.symm)
 ·exfalso
  have h5:=xa9.mp h2
  have key:∀ {a b c d:Nat},a<n->c<n->b<m->d<m->a<c->f a b≠f c d:=fun {a b c d} ha hc hb hd y e=>by
   have:=h5 a c (by simpa using ha) (by simpa using hc) y
   simp only [List.getElem_range] at this
   exact this _ (xai.mpr ⟨b,xaS.mpr hb,rfl⟩) _ (xai.mpr ⟨d,xaS.mpr hd,rfl⟩) e
  rcases Nat.lt_or_gt_of_ne z with y | y
  ·exact key ha hc hb hd y e
  ·exact key hc ha hd hb y e.symm
def P12 (k:List Key):Prop:=∃ i j:Nat,i<12/\j<12/\k=[.inl (i:Int),.inl (j:Int)]
theorem zZ {P:Program} {w:World} {ks:List (List Key)} (h:∀ k∈ks,P12 k) (nd:ks.Nodup):(ks.map fun k=>(tupleKind (mixKind P w)).hash k).Nodup:=by
 refine xaR.mpr (List.Pairwise.imp_of_mem (fun {a b} ha hb ne e=>?_) nd)
 obtain ⟨i,j,hi,hj,rfl⟩:=h a ha
 obtain ⟨k,l,hk,hl,rfl⟩:=h b hb
 obtain ⟨rfl,rfl⟩:=xq (f:=fun p q=>CV p q) xf hi hk hj hl e
 exact ne rfl
theorem KT.append {H:Hp} {kvs more:List (List Key × V)} {xs ys:List (List Key × Addr × Value)} (r:KT H kvs xs) (q:KT H more ys):KT H (kvs++more) (xs++ys):=by
 induction r with
 | nil=>exact q
 | cons h t ih=>exact .cons h ih
theorem KT.keys {H:Hp} {kvs:List (List Key × V)} {xs:List (List Key × Addr × Value)} (r:KT H kvs xs):xs.map (·.1)=kvs.map (·.1):=by
 induction r with
 | nil=>rfl
 | cons h t ih=>rw [xaq,xaq,ih,h.1]
section
variable {X:Cx}
theorem Ad (hu:X.A.units+1<cLine):MtR X "dict.update" (fun x xs H Q=>∃ a b kvs more,x=.ref a/\xs=[.ref b]/\a≠b/\H a=some (.dT kvs)/\H b=some (.dT more)/\(∀ p∈more,p.1∉kvs.map (·.1)/\P12 p.1)/\kvs.length+more.length<=sizeLine/\Q .non (upd H a (.dT (kvs++more)))):=by
 intro pins s σ H x vs v us Q I rx rv h
 obtain ⟨a,b,kvs,more,rfl,rfl,hab,e,eb,hin,hsz,q⟩:=h
 cases (show v=Value.ref a from rx)
 obtain ⟨u,rfl,ru⟩:=Vals.one rv
 cases (show u=Value.ref b from ru)
 obtain ⟨z,hd,xs,rel,dd⟩:=dt_of I.hok e
 obtain ⟨z2,hd2,ys,rel2,dd2⟩:=dt_of I.hok eb
 have l1:=Paired.length rel
 have l2:=Paired.length rel2
 have k1:=KT.keys rel
 have k2:=KT.keys rel2
 have ndy:(ys.map (·.1)).Nodup:=by obtain ⟨_,_,_,_,_,_,_,_,n⟩:=id dd2; exact n
 have hk:∀ k∈ys.map (·.1),k∉kvs.map (·.1)/\P12 k:=fun k hk=>by
  rw [k2] at hk
  obtain ⟨p,hp,rfl⟩:=xai.mp hk
  exact hin p hp
 refine call_meetsIn PySem.F.slot_dict_update dd.typeIs PySem.F.entry_dict_update (PySem.F.args_dict_update_2 _ _) (rG (mixKind X.prog X.w) a b hab hd2) ⟨tupleKind_room_in1 hu,xs,ys,dd,dd2,fun y hy=>?_,?_,by lia,fun h' dd' hs=>?_⟩
 ·rw [k1]; exact (hk _ (xai.mpr ⟨y,hy,rfl⟩)).1
 ·have:=zZ (P:=X.prog) (w:=X.w) (fun k h=>(hk k h).2) ndy
  rwa [xaG] at this
 ·obtain ⟨qo,es,ep,hq,g2,g3,g4,_,g5⟩:=dd'
  have ob:ObjOk X.prog X.w (upd H a (.dT (kvs++more))) h' a (.dT (kvs++more)):=by
   refine ⟨by rw [xam]; lia,hd,_,(KT.append rel rel2).keeps fun c zs ec=>?_,qo,es,ep,hq,g2,g3,g4,g5⟩
   rw [upd_ne (ne_of ec e fun z=>nomatch z)]
   exact ec
  exact ⟨.non,_,d_write I (by rw [e]; exact True.intro) hs ⟨qo,hq⟩ ob,rfl,q⟩
end
end L2
namespace L2.Q
open PySem PySem.Spec PyProof.Rows
section
variable {X:Cx} {K:PySem.W.Frag} {L:Str->Hp->Prop} {e e2:Expr} {i j:Nat} {apos cpos pos:Pos}
def owT (o:Option (Option Sl)) (k:List (List Key × D)->Prop):Prop:=match o with
 | some (some (.ow true (.dT kvs)))=>k kvs
 | _=>False
theorem wj {o:Option (Option Sl)} {k:List (List Key × D)->Prop} (h:owT o k):∃ kvs,o=some (some (.ow true (.dT kvs)))/\k kvs:=by
 unfold owT at h
 split at h
 ·exact ⟨_,rfl,h⟩
 ·exact h.elim
theorem RepO.inT {Hs H:Hp} {kvs:List (List Key × D)} {v:V} {As:List Addr} (r:RepO K Hs H true (.dT kvs) v As):∃ a vs A,v=.ref a/\As=a :: A/\KtOk kvs/\H a=some (.dT ((kvs.map (·.1)).zip vs))/\az K Hs H true (kvs.map (·.2)) vs A:=by
 cases r with
 | sh hf _=>exact absurd (hf rfl) (by simp [D.flat])
 | dT z e rs=>exact ⟨_,_,_,rfl,rfl,z,e,rs⟩
def Bu (i j:Nat):WS:=fun E ρ=>owT ρ[i]? fun kvs=>owT ρ[j]? fun more=>(∀ p∈more,p.1∉kvs.map (·.1)/\P12 p.1)/\flats (more.map (·.2))=true/\kvs.length+more.length<=sizeLine/\E.nx (ρ.set i (some (.ow true (.dT (kvs++more)))))
theorem Bd (hu:X.A.units+1<cLine) (hi:PE X e (tVar i)) (hj:PE X e2 (tVar j)) (hK:X.K=K:=by rfl) (hij:i≠j:=by decide)
  (hbase:attributeBase e "update" X.env (eval e X.env)=eval e X.env:=by rfl)
  (hfew:((backTo cpos (starEach [e2] X.env)).all (fun x=>!x.1) && (backToKw cpos (keywordEach [] X.env)).all (fun x=>x.1.isSome)
   && decide ([e2].length+([]:List Keyword).length+(if ([]:List Keyword).isEmpty then 0 else 1)<30))=true:=by rfl)
  (hline:(apos.endLine == cpos.line)=true:=by rfl) (hss:starEach (e2 :: []) X.env=(false,eval e2 X.env) :: starEach [] X.env:=by rfl) (hplain:(backTo cpos (starEach [] X.env)).any (·.1)=false:=by rfl)
  (hs:swapsWith (.Call (.Attribute e "update" apos) [e2] [] cpos) none pos.line X.env=pure false:=by rfl) :
  QS X K L (.Expr (.Call (.Attribute e "update" apos) [e2] [] cpos) pos) (Bu i j):=by
 subst hK
 refine PS.imp (ps_expr (pe_bm PySem.F.plainAttrs_dict PySem.F.slot_dict_update PySem.F.type_dict_update (Ad hu) hi (pa_cons hj pa_nil hss) hbase hfew hline hss hplain) hs) fun D σ H hx=>fK hx fun Hs ρ tot E sr h k1 k2 k3 k4=>?_
 obtain ⟨kvs,ei,h⟩:=wj h
 obtain ⟨more,ej,hin,hf,hsz,q⟩:=wj h
 obtain ⟨u,Ai,_,ev,ne,ri,si,up⟩:=SR.put i sr.sr ei sr.nod
 obtain ⟨a,vs,A,rfl,rfl,kk,ea,rs⟩:=ri.inT
 obtain ⟨u2,Aj,_,ev2,rj,sj,_,dj,srn⟩:=SR.take j sr.sr ej sr.nod
 obtain ⟨b,ws,B,rfl,rfl,kk2,eb,rs2⟩:=rj.inT
 have hab:a≠b:=fun z=>by
  obtain ⟨v',As',ev',_,r',s'⟩:=SR.at srn (show (ρ.set j none)[i]? = _ by rw [xbD (Ne.symm hij)]; exact ei)
  obtain ⟨a',_,_,rfl,rfl,_⟩:=r'.inT
  cases ev.symm.trans ev'
  exact dj b xac (z ▸ s'.subset xac)
 have l1:kvs.length=vs.length:=by have:=rs.length; rwa [xad] at this
 have l2:more.length=ws.length:=by have:=rs2.length; rwa [xad] at this
 have z1:((kvs.map (·.1)).zip vs).map (·.1)=kvs.map (·.1):=xb3 (by rw [xad]; lia)
 have z2:((more.map (·.1)).zip ws).map (·.1)=more.map (·.1):=xb3 (by rw [xad]; lia)
 refine ⟨_,ev,.inr (.inr (.inl ⟨rfl,.inr ⟨_,ea⟩⟩)),_,ev2,a,b,_,_,rfl,rfl,hab,ea,eb,fun p hp=>?_,by rw [xbn,xbn,xad,xad]; lia,?_⟩
 ·have:p.1∈more.map (·.1):=by rw [<- z2]; exact xai.mpr ⟨p,hp,rfl⟩
  obtain ⟨p',hp',e'⟩:=xai.mp this
  rw [z1,<- e']
  exact hin p' hp'
 have ez:(kvs.map (·.1)).zip vs++(more.map (·.1)).zip ws=((kvs++more).map (·.1)).zip (vs++ws):=by rw [xaF,List.zip_append (by rw [xad]; lia)]
 rw [ez]
 obtain ⟨nA,ndA⟩:=xax.mp (si.nodup sr.nod)
 have rw':az X.K Hs H true (more.map (·.2)) ws []:=Reps.owned ((rs2.reps sr.wf.sub fun _ _=>rfl).iW sr.wf.tups hf) hf
 have rr:RepO X.K Hs (upd H a (.dT (((kvs++more).map (·.1)).zip (vs++ws)))) true (.dT (kvs++more)) (.ref a) (a :: A):=by
  refine .dT (vs:=vs++ws) ⟨by rw [xam]; exact hsz,fun p hp=>(xaf.mp hp).elim (kk.2 p) (kk2.2 p)⟩ upd_same ?_
  rw [xaF]
  have:=(rs.append rw').stay (H':=upd H a (.dT (((kvs++more).map (·.1)).zip (vs++ws)))) (Same.refl _) fun c hc=>upd_ne fun z=>nA (by subst z; simpa using hc)
  simpa using this
 obtain ⟨tot2,n2,i2,s2⟩:=up Hs _ true _ (a :: A) (Same.refl _) rr (xbJ _ _) (si.nodup sr.nod) (fun c hc _=>hc) (fun c _ nc=>upd_ne fun z=>nc (z ▸ xac))
 have Ha:Hs a=none:=sr.own a (si.subset xac)
 exact k1 _ _ Hs _ tot2 (Same.refl _) ⟨s2,pA sr.wf Ha (fun _ z=>nomatch z),n2,fun c hc=>(i2 c hc).elim (sr.own c) fun m=>sr.own c (si.subset m)⟩ q
end
end L2.Q
namespace L2.Q.R
open PySem PySem.Spec PyProof.Rows L2.Q
theorem owT_ {kvs:List (List Key × L2.Q.D)} {k:List (List Key × L2.Q.D)->Prop}:owT (some (some (.ow true (.dT kvs)))) k=k kvs:=rfl
theorem IK {i j:Nat} {E:nJ} {ρ:L2.Q.Env}:Bu i j E ρ=onK ρ[i]? (f:=fun o=>owT o fun kvs=>onK ρ[j]? (f:=fun o=>owT o fun more=>(∀ p∈more,p.1∉kvs.map (·.1)/\P12 p.1)/\flats (more.map (·.2))=true/\kvs.length+more.length<=sizeLine/\E.nx (ρ.set i (some (.ow true (.dT (kvs++more)))))) ⟨⟩) ⟨⟩:=rfl
end L2.Q.R
namespace L2
open PySem PySem.Spec PyProof.Rows
theorem uh {prog:Program} {w:World} {A:Around} {E:Value->Shared->Prop} {s:Shared} {d:Addr} {es:Ents} {ep:Nat} {Q:Bool->Shared->Prop} (hd:(d == sysModules)=false) (x:RawD s.heap d es ep) (hfit:(es.size:Int)<2 ^ 63)
  (h:∀ t',Q (!es.isEmpty) { s with toks:=t' }):wpAny (model prog w) A (truthy (.ref d)) Q E s:=by
 have hne:((es.size:Int) != 0) = !es.isEmpty:=by
  unfold Array.isEmpty
  cases e:es.size with
  | zero=>rfl
  | succ n=>simp; lia
 have mt:MeetsIn prog w (Builtin.«dict.__len__» ⟨[.ref d],[]⟩) (fun _ R s=>RawD s.heap d es ep/\R (.ok (.ret (.int es.size s.toks))) { s with toks:=s.toks+1 }):=.of_wp fun A R s hx9=>by
  obtain ⟨hm,h⟩:=hx9
  obtain ⟨o,ho,hc,hdat⟩:=hm
  show wpAny _ _ (dictSize d >>= _) _ _ s
  unfold dictSize
  refine xaa (xaa (wpAny_dictEntries ho hdat (xae ?_)))
  show wpAny _ _ (Builtin.Dict.pendingCount d >>= _) _ _ s
  refine xaa (wpAny_pendingCount_other hd ?_)
  refine wpAny_ret_mkInt ?_
  rw [xcq]; exact h
 have key:wpAny (model prog w) A (runValue (.builtin "len" ⟨[.ref d],[]⟩)) (fun r s'=>(∃ t,r=.int es.size t)/\Q (!es.isEmpty) s') E s:=by
  refine wpAny_runValue (codeAny_builtin entry_len ?_)
  rw [Around.under_plainId plain_len _]
  refine xaM (Q:=fun fin s'=>∃ r,fin=.done (.ret r)/\(∃ t,r=.int es.size t)/\Q (!es.isEmpty) s') ?_ (fun fin s' h'=>by obtain ⟨r,rfl,hq⟩:=h'; exact hq) fun _ _ e=>e
  unfold Builtin.«len»
  refine xaa (m:=oneArg "len" _) (xae ?_)
  refine xaa (m:=callSpecial? (.ref d) (Str.ofString "__len__")) (wpAny_callSpecial?_slot (name:=Str.ofString "__len__") x.typ F.slot_dict_len
   (call_meetsIn F.slot_dict_len x.typ F.entry_dict_len (F.args_dict_len_1 _) mt ⟨x,?_⟩))
  show wpAny _ _ _ _ _ { s with toks:=s.toks+1 }
  refine xaa (wpAny_holding (xae ?_))
  refine xaa (wpAny_letGo ?_)
  show wpAny _ _ (if ((es.size:Nat):Int)<0 then _ else _) _ _ _
  rw [if_neg (by lia)]
  show wpAny _ _ (if ((es.size:Nat):Int) >= 2 ^ 63 then _ else _) _ _ _
  rw [if_neg (by lia)]
  exact xaa (wpAny_mkInt (xae ⟨_,rfl,⟨_,rfl⟩,h _⟩))
 unfold truthy
 first
  | refine xaa (wpAny_callSpecial?_none (name:=Str.ofString "__bool__") x.typ noBool_dict ?_)
  | refine xaa (xae (xaa (wpAny_callSpecial?_none (name:=Str.ofString "__bool__") x.typ noBool_dict ?_)))
 first
  | refine xaa (wpAny_specialOf (name:=Str.ofString "__len__") x.typ F.slot_dict_len.lookup ?_)
  | refine xaa (xae (xaa (wpAny_specialOf (name:=Str.ofString "__len__") x.typ F.slot_dict_len.lookup ?_)))
 first
  | exact xaa (xaM key (fun r s' h'=>by obtain ⟨⟨t,rfl⟩,hq⟩:=h'; exact xae (hne ▸ hq)) fun _ _ e=>e)
  | exact xaa (xae (xaa (xaM key (fun r s' h'=>by obtain ⟨⟨t,rfl⟩,hq⟩:=h'; exact xae (hne ▸ hq)) fun _ _ e=>e)))
theorem DP {X:Cx}:TruR X (fun x H Q=>∃ a kvs,x=.ref a/\H a=some (.dT kvs)/\Q (!kvs.isEmpty) H):=by
 intro pins s σ H x v Q I rx h
 obtain ⟨a,kvs,rfl,e,q⟩:=h
 cases rx
 obtain ⟨z,hd,xs,rel,o,es,ep,ho,hc,hdat,he,_,_⟩:=dt_of I.hok e
 have l1:=Paired.length rel
 have l2:=size_of_entries he
 have hs:sizeLine=16777216:=sizeLine_eq
 refine uh hd ⟨o,ho,hc,hdat⟩ (by lia) fun t=>⟨H,I.tok _,?_⟩
 have:(!es.isEmpty) = !kvs.isEmpty:=by
  unfold Array.isEmpty
  cases kvs with
  | nil=>rw [show es.size=0 by rw [l2,<- l1]; rfl]; rfl
  | cons p r=>rw [show es.size=r.length+1 by rw [l2,<- l1]; rfl]; rfl
 rw [this]; exact q
end L2
namespace L2.Q
open PySem PySem.Spec PyProof.Rows
def Bx (i:Nat):WT:=fun ρ Q=>owT ρ[i]? fun kvs=>Q (!kvs.isEmpty)
theorem Ao {X:Cx} {K:PySem.W.Frag} {e:Expr} {i:Nat} (ha:PE X e (tVar i)) (he:∀ whole,isTrue e X.env whole=(do let v <- whole; standAt e.pos; holding [v] (truthy v)):=by intro _; rfl) (hK:X.K=K:=by rfl):QT X K e (Bx i):=by
 subst hK
 intro pins s σ H Qv I hx
 obtain ⟨Hs,ρ,tot,Q,sr,h,f⟩:=hx
 obtain ⟨kvs,ei,h⟩:=wj h
 obtain ⟨v,As,ev,ne,r,sb⟩:=sr.sr.at ei
 obtain ⟨a,vs,A,rfl,rfl,kk,ea,rs⟩:=r.inT
 have l1:kvs.length=vs.length:=by have:=rs.length; rwa [xad] at this
 refine isTrue_plain (thn (ha pins s σ H (fun x H'=>x=.ref a/\H'=H) I ⟨_,ev,rfl,rfl⟩) fun v s1 hx5=>L2.ex2 hx5 fun x H1 I1 r1 q1=>?_) (he _)
 obtain ⟨rfl,rfl⟩:=q1
 refine DP pins s1 σ H1 _ v Qv I1 r1 ⟨a,_,rfl,ea,?_⟩
 refine f _ H1 Hs (Grow.refl sr.wf) ?_
 have:((kvs.map (·.1)).zip vs).isEmpty=kvs.isEmpty:=by
  cases kvs with
  | nil=>rfl
  | cons p r=>cases vs with
   | nil=>simp at l1
   | cons q t=>rfl
 rw [this]; exact h
end L2.Q
namespace L2.Q.R
open PySem PySem.Spec PyProof.Rows L2.Q
theorem H_ {i:Nat} {ρ:L2.Q.Env} {Q:Bool->Prop}:Bx i ρ Q=onK ρ[i]? (f:=fun o=>owT o fun kvs=>onK (!kvs.isEmpty) (f:=Q) ⟨⟩) ⟨⟩:=rfl
end L2.Q.R
namespace L2.Q
open PySem PySem.Spec PyProof.Rows PySem.W
def wN (sp:SpD) (t:WA):WS:=fun E ρ=>t ρ fun ps=>sp (ps.map (·.2)) fun m d=>xch m d (fun n=>E.rt (.ow false) (.str n)) (onK (m,d) (f:=fun p=>E.rt .sh (.bl p.2.isN)) ⟨⟩)
section
variable {X:Cx} {K:PySem.W.Frag} {rn:List Str} {E:XK} {e:Expr} {es:List Expr} {t:WA} {pos:Pos} {k:Nat} {x:Str} {ps:List Str} {sp:SpD} {p cpos np cp:Pos} {j:Nat}
theorem yG (C:CalX X.prog X.w X.K X.mg X.base rn k x ps sp) (hr:Room k X.A) (hx:Passes (CXx X.prog X.w X.mg rn) X E) (ha:QA X K (e :: es) t)
  (hK:X.K=K:=by rfl) (hg:Gl X x:=by rfl) (hdb:(x == ("__debug__" : Str))=false:=by decide) (he:starEach (e :: es) X.env=(false,eval e X.env) :: starEach es X.env:=by rfl)
  (hpl:(backTo cpos (starEach es X.env)).any (·.1)=false:=by rfl):QS X K (LX rn X.mg E) (.Return (some (.Compare (.Call (.Name x p) (e :: es) [] cpos) [.Is] [.Constant .none j np] cp)) pos) (wN sp t):=by
 subst hK
 refine PS.imp (ps_ret (pe_cmpR op_isN (jW C hr hx ha hg hdb he hpl) pe_non rfl)) fun D σ H hx=>dY hx fun Hs ρ tot E' sr h k1 k2 k3 k4 kx=>?_
 refine dU (Q:=fun _ d=>E'.rt .sh (.bl d.isN)) sr h (fun v H1 Hs1 m d As g1 r1 f1 q1=>?_) kx
 have e:=vQ (r1.rep g1.wf)
 refine ⟨rfl,?_⟩
 rw [e]
 exact k4 _ H1 Hs1 .sh _ [] g1.sh g1.wf ⟨rfl,.bl _⟩ .nil (fun a z=>nomatch z) q1
end
namespace R
theorem Fx {sp:SpD} {tar:WA} {E:nJ} {ρ:L2.Q.Env}:wN sp tar E ρ=tar ρ fun ps=>sp (ps.map (·.2)) fun m d=>xch m d (fun n=>E.rt (.ow false) (.str n)) (onK (m,d) (f:=fun p=>E.rt .sh (.bl p.2.isN)) ⟨⟩):=rfl
end R
end L2.Q
namespace L2.Q
open PySem PySem.Spec PyProof.Rows
namespace R
theorem Jt:fNe m (.bl i) m' (.bl j) Q=Q .sh (.bl (!decide (i=j))):=rfl
end R
end L2.Q
local macro_rules | `(tactic| walk_at "q") => do
 let nm (s:String):Lean.Ident:=Lean.mkIdent ((s.splitOn ".").foldl Lean.Name.mkStr .anonymous)
 let ds ← ("Ji J7 Jw Ie Ht Iw Kh KC Gq Fb Jm Iu Jf I_ Ib Ik K8 Jo Jg Jl owT_ IK H_ Kl JB HH JF HB Iz JR JS Kz JV JQ wSd_ KR K9 KZ Jb Je Kf Kp G_ Hy HF C_ Fw Fi FQ Kg Jh wB_ JW J0 wOr_ KD KY Fq GZ wC_ wOp_ wUn_ G8 wIf_ HW K3 J3 Ke Hz GX G7 G4 GF Hn Gj Gf FW Gd HR Il Jc Ii HX IV Im Jz JT K1 Km Io Jx Kw Ku Ka Ju Jt Jk KN JP J_ J9 J5 Ks Kd Kc J1 K4 Ko Jp Ja Js JH Jd JK Hj Hf Gi wSl_ Eu HJ Hx J2 JZ KJ Jy GQ wpN_ Fd J8 Gn JL Ky Jr KH Gx Jv Ip Ft Fj E_ Ew gN_ gT_ HQ K5 Hw Ij Ih G6 Gr G9 Gz JN Hv IW G5 Gw Hq JG Fx HN K6 KQ JM JD Ir Jq Kr J4 Kv K7 Jj Ia".splitOn " ").toArray.mapM fun s=>`(Lean.Parser.Tactic.simpLemma| ↓$(nm ("L2.Q.R." ++ s)):ident)
 let us ← ("L2.Q.movS L2.Q.outM L2.Q.pJ L2.Q.Al L2.Q.okSh L2.Q.okOw L2.Q.okFl L2.Q.retM L2.Q.Hh L2.Q.frzE L2.Q.shS L2.Q.shC L2.Q.lX L2.Q.zX L2.Q.asg L2.Q.itm L2.Q.aX L2.Q.D.flat L2.Q.flats L2.Q.D.isN L2.Q.D.ty L2.Q.truD L2.Q.D.key1 L2.Q.dM L2.Q.jl L2.Q.Eg List.length_map List.map_cons List.map_nil List.length_cons List.length_nil List.replicate_succ List.replicate_zero List.cons_append List.nil_append List.append_nil List.getElem?_cons_zero List.getElem?_cons_succ List.getElem?_nil List.set_cons_zero List.set_cons_succ List.all_cons List.all_nil Option.some.injEq Option.join_some Option.map_some Option.map_none Nat.reduceAdd Nat.reduceSub true_and and_true Bool.and_true Bool.true_and Bool.and_false Bool.false_and Bool.not_true Bool.not_false Bool.false_eq_true if_true if_false decide_true decide_false reduceIte cond_true cond_false PySem.sizeLine_eq L2.Q.atI0 L2.Q.atI1 L2.Q.atI2 L2.Q.cF L2.Q.Dl L2.Q.empty_app Nat.zero_add exists_eq_left' Int.reduceLT Int.reduceLE Int.reducePow Int.reduceNeg Int.reduceToNat Int.reduceAdd Int.reduceMul Int.reduceSub Nat.reduceLeDiff Nat.reduceLT false_or or_false and_self L2.Kq".splitOn " ").toArray.mapM fun s=>`(Lean.Parser.Tactic.simpLemma| $(nm s):ident)
 let as:Lean.TSyntaxArray [`Lean.Parser.Tactic.simpStar,`Lean.Parser.Tactic.simpErase,`Lean.Parser.Tactic.simpLemma]:=(ds++us).map fun x=>⟨x.raw⟩
 `(tactic| simp -dsimp only [$as,*])
namespace L2.Q.Law
open PySem PySem.Spec PyProof.Rows
theorem small {n:Nat} (h:n<=10000):n<=sizeLine:=xaz h (by decide)
theorem Dk {n:Nat} (h:n<=10000):n<sizeLine:=xbO h (by decide)
def isLet (c:Nat):Bool:=decide (97<=c/\c<=122)
abbrev abc:Str := "abcdefghijklmnopqrstuvwxyz"
theorem xK:sg abc=(List.range 26).map (97 + ·):=by decide +kernel
theorem CG {i:Int} (h0:0<=i) (h1:i<26):∃ c,atI (sg abc) i=some c/\isLet c=true:=by
 refine ⟨97+i.toNat,?_,?_⟩
 ·have:atI (sg abc) ((i.toNat:Nat):Int)=some (97+i.toNat):=atI_nat (by
   rw [xK]
   have:i.toNat<26:=by lia
   simp [this])
  rwa [xa7 h0] at this
 ·simp [isLet]; lia
theorem uL (x:Int):∃ c,atI (sg abc) (x % 26)=some c/\isLet c=true:=CG (xb8 _ (by decide)) (xci _ (by decide))
def lets (x:Str):Prop:=∀ c∈sg x,isLet c=true
def Open (x:Str):Prop:=1<=x.length/\x.length<=6/\lets x
def Deed (x:Str):Prop:=x = "*"\/Open x
theorem nP {x y:Str} (hx:lets x) (hy:lets y):lets (x++y):=fun c hc=>by
 rw [yV] at hc
 exact (xaf.mp hc).elim (hx c) (hy c)
theorem ji {c:Nat} (h:isLet c=true):lets ⟨#[c]⟩:=fun d hd=>by
 have:d=c:=by simpa [sg] using hd
 rw [this]; exact h
theorem xT {x:Str} (h:lets x) (lo hi:Option Int):lets (cutS x lo hi):=fun c hc=>by
 unfold cutS sg at hc
 rw [List.toList_toArray] at hc
 exact h c (xbF (xbG hc))
theorem bf (c:Nat):(⟨#[c]⟩:Str).length=1:=rfl
theorem Deed.len {x:Str} (h:Deed x):x.length<=6:=by
 rcases h with rfl | h
 ·decide
 ·exact h.2.1
theorem Deed.ok {x:Str} (h:Deed x):PyData.strOk x=true:=by
 rw [Ah]
 rcases h with rfl | h
 ·have:sg "*" = [42]:=by decide +kernel
  intro c hc
  rw [this] at hc
  have:c=42:=by simpa using hc
  lia
 ·intro c hc
  have:=h.2.2 c hc
  simp [isLet] at this
  lia
abbrev Stp:=Int × Str × Int
def stpK (s:Stp):List Key:=[.inl s.1,.inr s.2.1,.inl s.2.2]
def stpD (s:Stp):D:=.tup [.int s.1,.str s.2.1,.int s.2.2]
theorem Ff (s:Stp):keyT (stpK s)=stpD s:=rfl
def mD (many:Int) (steps:List Stp):D:=.tup [.int many,.list (steps.map stpD)]
theorem qH:∀ (l:List Stp),flats (l.map stpD)=true
 | []=>rfl
 | x :: l=>by simp [flats,qH l,stpD,D.flat]
def StOk (many:Int) (s:Stp):Prop:=0<=s.1/\s.1<many/\Deed s.2.1/\0<=s.2.2/\s.2.2<many
theorem Ck {many:Int} {s:Stp} (n:Nat) (h:StOk many s):okD (n+1) (stpD s)=true:=by
 have:=h.2.2.1.ok
 simp [okD,stpD,this]
theorem wD {many:Int} {l:List Stp} (n:Nat) (h:∀ s∈l,StOk many s):okD (n+2) (.list (l.map stpD))=true:=by
 simp only [okD,List.all_map,xbY]
 intro s hs
 exact Ck n (h s hs)
theorem m_ok {many:Int} {l:List Stp} (n:Nat) (h:∀ s∈l,StOk many s):okD (n+3) (mD many l)=true:=by
 have h2:=wD n h
 show (okD (n+2) (.int many) && (okD (n+2) (.list (l.map stpD)) && true))=true
 rw [h2]
 rfl
theorem rP:∀ (l:List Stp),nbs (l.map stpD)=true
 | []=>rfl
 | x :: l=>by simp [nbs,rP l,stpD,D.nb]
theorem nb_m (many:Int) (l:List Stp):(mD many l).nb=true:=by simp [mD,D.nb,nbs,rP]
theorem eq_self {x:D} (h:x.nb=true):eqD x x=true:=(oh x x h h).mpr rfl
theorem xX {s t:Stp} (h:stpD s=stpD t):s=t:=by
 obtain ⟨a,b,c⟩:=s
 obtain ⟨a',b',c'⟩:=t
 simp [stpD] at h
 obtain ⟨rfl,rfl,rfl⟩:=h
 rfl
theorem yg:∀ {l m:List Stp},l.map stpD=m.map stpD->l=m
 | [],[],_=>rfl
 | [],_ :: _,h=>by simp at h
 | _ :: _,[],h=>by simp at h
 | x :: l,y :: m,h=>by
  simp only [xaq,List.cons.injEq] at h
  rw [xX h.1,yg h.2]
theorem Ez {s t:Stp} (h:stpK s=stpK t):s=t:=by
 obtain ⟨a,b,c⟩:=s
 obtain ⟨a',b',c'⟩:=t
 simp [stpK] at h
 obtain ⟨rfl,rfl,rfl⟩:=h
 rfl
def ltP (s t:Stp):Bool:=ltK (stpK s) (stpK t)
theorem rD {P:Stp->Prop}:∀ {ks:List (List Key)},(∀ k∈ks,∃ s,k=stpK s/\P s)->∃ l:List Stp,ks=l.map stpK/\∀ s∈l,P s
 | [],_=>⟨[],rfl,fun s h=>nomatch h⟩
 | k :: ks,h=>by
  obtain ⟨s,rfl,p⟩:=h k xac
  obtain ⟨l,rfl,q⟩:=rD fun k hk=>h k (xab _ hk)
  refine ⟨s :: l,rfl,fun t ht=>?_⟩
  rcases xak.mp ht with rfl | ht
  ·exact p
  ·exact q t ht
abbrev Kn:=List (List Key × D)
def StD (P:Stp->Prop) (kvs:Kn):Prop:=(∀ p∈kvs,∃ s,p.1=stpK s/\P s)/\(kvs.map (·.1)).Nodup
theorem wQ {κ β:Type} [DecidableEq κ] (kvs:List (κ × β)) (k:κ) (v:β):(putG kvs k v).map (·.1)=if k∈kvs.map (·.1) then kvs.map (·.1) else kvs.map (·.1)++[k]:=by
 unfold putG
 by_cases h:k∈kvs.map (·.1)
 ·have:(kvs.any fun kv=>decide (kv.1=k))=true:=by
   obtain ⟨p,hp,e⟩:=xai.mp h
   exact xcn.mpr ⟨p,hp,decide_eq_true e⟩
  rw [if_pos this,if_pos h,xaG]
  apply xbv
  intro p _
  show (if p.1=k then (p.1,v) else p).1=p.1
  split <;> rfl
 ·have:¬ (kvs.any fun kv=>decide (kv.1=k))=true:=by
   intro z
   obtain ⟨p,hp,e⟩:=xcn.mp z
   exact h (xai.mpr ⟨p,hp,of_decide_eq_true e⟩)
  rw [if_neg this,if_neg h,xaF]
  rfl
theorem StD.put {P:Stp->Prop} {kvs:Kn} {s:Stp} {d:D} (h:StD P kvs) (hs:P s):StD P (putG kvs (stpK s) d):=by
 refine ⟨fun p hp=>?_,?_⟩
 ·rcases n_ hp with e | e
  ·exact ⟨s,e,hs⟩
  ·obtain ⟨q,hq,e⟩:=xai.mp e
   rw [<- e]
   exact h.1 q hq
 ·rw [wQ]
  split
  ·exact h.2
  ·rename_i hn
   exact xaj.mpr ⟨h.2,by simp,fun a ha b hb e=>by
    have:b=stpK s:=by simpa using hb
    subst this; subst e; exact hn ha⟩
theorem StD.nil {P:Stp->Prop}:StD P []:=⟨(fun p hp=>nomatch hp),xaB⟩
theorem StD.sorted {P:Stp->Prop} {kvs:Kn} (h:StD P kvs) {Q:Md->D->Prop} (k:∀ steps:List Stp,(steps.map stpK).Perm (kvs.map (·.1))->(∀ s∈steps,P s)->steps.Pairwise (fun a b=>ltP a b=true)->steps.length=kvs.length->Q (.ow true) (.list (steps.map stpD))) :
  jl (.ow true) (.list (kvs.map fun kv=>.tup (kv.1.map keyD))) Q:=by
 refine ⟨kvs.map (·.1),[false,true],by rw [xaG]; rfl,fun k hk=>?_,fun ms pm pw=>?_⟩
 ·obtain ⟨p,hp,rfl⟩:=xai.mp hk
  obtain ⟨s,e,_⟩:=h.1 p hp
  rw [e]; rfl
 ·obtain ⟨l,rfl,hl⟩:=rD (P:=P) (ks:=ms) fun k hk=>by
   obtain ⟨p,hp,e⟩:=xai.mp (pm.mem_iff.mp hk)
   rw [<- e]
   exact h.1 p hp
  have e:(l.map stpK).map keyT=l.map stpD:=by rw [xaG]; rfl
  rw [e]
  refine k l pm hl ?_ (by have:=pm.length_eq; simpa using this)
  have nd:(l.map stpK).Nodup:=pm.nodup_iff.mpr h.2
  rw [xaR] at pw
  have nd':l.Pairwise fun a b=>stpK a≠stpK b:=by
   rw [List.Nodup,xaR] at nd
   exact nd
  refine (pw.and nd').imp fun {a b} ⟨h1,h2⟩=>?_
  unfold ltP
  cases h3:ltK (stpK a) (stpK b) with
  | true=>rfl
  | false=>exact absurd (rC (a:=stpK a) (b:=stpK b) rfl h3 h1) h2
theorem jN:∀ (l:List Str),flats (l.map D.str)=true
 | []=>rfl
 | x :: l=>by simp [flats,jN l,D.flat]
theorem qw:∀ (l:List Int),flats (l.map D.int)=true
 | []=>rfl
 | x :: l=>by simp [flats,qw l,D.flat]
theorem yt:∀ (l:List Bool),flats (l.map D.bl)=true
 | []=>rfl
 | x :: l=>by simp [flats,yt l,D.flat]
theorem Fo (l:List Str) (x:Str):l.map D.str++[D.str x]=(l++[x]).map D.str:=by simp
theorem ints_app (l:List Int) (x:Int):l.map D.int++[D.int x]=(l++[x]).map D.int:=by simp
theorem fW {n i:Nat} {lo:Int} {x:D} (h:(jo lo n)[i]? = some x):i<n/\x=.int (lo+(i:Nat)):=by
 unfold jo at h
 rw [xaN] at h
 by_cases hi:i<n
 ·rw [List.getElem?_range hi] at h
  exact ⟨hi,(Option.some.inj h).symm⟩
 ·rw [xbl (by simpa using hi)] at h
  cases h
theorem ig (lo:Int) (n:Nat):(jo lo n).length=n:=by simp [jo]
theorem Et {lo:Int} {n:Nat} {x:D} (h:x∈jo lo n):∃ i:Nat,i<n/\x=.int (lo+i):=by
 obtain ⟨i,hi⟩:=List.mem_iff_getElem?.mp h
 exact ⟨i,fW hi⟩
theorem jK {names:List Str} {i:Int} (h0:0<=i) (h1:i<names.length):∃ n,n∈names/\atI (names.map D.str) i=some (.str n):=by
 have hn:i.toNat<names.length:=by lia
 refine ⟨names[i.toNat],List.getElem_mem hn,?_⟩
 have:=atI_nat (xs:=names.map D.str) (j:=i.toNat) (v:=.str names[i.toNat]) (by simp [hn])
 rwa [xa7 h0] at this
theorem name_mod {names:List Str} (x:Int) (h:1<=names.length):∃ n,n∈names/\atI (names.map D.str) (x % (names.length:Int))=some (.str n) :=
 jK (xb8 _ (by lia)) (xci _ (by lia))
theorem wZ (l:List Int) (lo hi:Option Int):cutG (l.map D.int) lo hi=(cutG l lo hi).map D.int:=by
 unfold cutG
 rw [xad,List.map_take,List.map_drop]
theorem BW {l:List Int} {i:Nat} {x:D} (h:(l.map D.int)[i]? = some x):∃ c,c∈l/\x=.int c:=by
 obtain ⟨c,hc,e⟩:=xai.mp (xaL h)
 exact ⟨c,hc,e.symm⟩
theorem ie {n d:Nat} {k:Int} (h0:0<=k) (h1:k<=n):HT.sIx n d (some k)=k.toNat:=by
 simp only [HT.sIx]
 rw [if_neg (by lia)]
 lia
theorem GD {x:Str} {k:Int} (h0:0<=k) (h1:k<=x.length):(cutS x none (some k)).length=k.toNat:=by
 unfold cutS
 rw [ie h0 h1]
 unfold Str.length at *
 simp [HT.sIx]
 lia
theorem Hk {x:Str} {j k:Int} (h0:0<=j) (h1:j<=x.length) (h2:0<=k/\k<=x.length):(cutS x (some j) (some k)).length=k.toNat - j.toNat:=by
 unfold cutS
 rw [ie h0 h1,ie h2.1 h2.2]
 unfold Str.length at *
 simp
 lia
theorem d_ {α:Type} [DecidableEq α]:∀ {l m:List α},l.Nodup->(∀ x∈l,x∈m)->l.length<=m.length
 | [],_,_,_=>xar _
 | x :: l,m,nd,h=>by
  obtain ⟨hx,nd⟩:=xax.mp nd
  have hm:=h x xac
  have:=d_ (l:=l) (m:=m.erase x) nd fun y hy=>(List.mem_erase_of_ne (fun e=>by subst e; exact hx hy)).mpr (h y (xab _ hy))
  rw [List.length_erase_of_mem hm] at this
  have:=List.length_pos_of_mem hm
  simp only [xaK]
  lia
def bR (n:Nat):List Int:=(List.range n).map fun i=>((i:Nat):Int)
theorem dX (n:Nat):(bR n).length=n:=by simp [bR]
theorem dO {n:Nat} {x:Int}:x∈bR n↔0<=x/\x<n:=by
 unfold bR
 rw [xai]
 constructor
 ·rintro ⟨i,hi,rfl⟩
  have:=xaS.mp hi
  lia
 ·intro ⟨h0,h1⟩
  exact ⟨x.toNat,xaS.mpr (by lia),by lia⟩
theorem wJ:∀ {l m:List Int},l.Pairwise (· < ·)->m.Pairwise (· < ·)->(∀ x,x∈l↔x∈m)->l=m
 | [],[],_,_,_=>rfl
 | [],y :: m,_,_,h=>absurd ((h y).mpr xac) (by simp)
 | x :: l,[],_,_,h=>absurd ((h x).mp xac) (by simp)
 | x :: l,y :: m,hl,hm,h=>by
  obtain ⟨a1,a2⟩:=List.pairwise_cons.mp hl
  obtain ⟨b1,b2⟩:=List.pairwise_cons.mp hm
  have e:x=y:=by
   rcases xak.mp ((h x).mp xac) with e | e
   ·exact e
   ·rcases xak.mp ((h y).mpr xac) with e' | e'
    ·exact e'.symm
    ·have:=b1 x e; have:=a1 y e'; lia
  subst e
  rw [wJ a2 b2 fun z=>⟨fun hz=>by
   rcases xak.mp ((h z).mp (xab _ hz)) with e | e
   ·subst e; exact absurd (a1 z hz) (by lia)
   ·exact e,fun hz=>by
   rcases xak.mp ((h z).mpr (xab _ hz)) with e | e
   ·subst e; exact absurd (b1 z hz) (by lia)
   ·exact e⟩]
theorem Fl {l:List Int} (h:l.Pairwise (· < ·)):l.Nodup:=h.imp fun h=>by lia
def StIn (many:Int) (steps:List Stp):Prop:=∀ s∈steps,StOk many s
def setK (ks:List Int):List (Key × D):=ks.map fun x=>(.inl x,.bl true)
theorem jU (ks:List Int):(setK ks).map (·.1)=ks.map fun x=>(Sum.inl x:Key):=by simp [setK,xaG,Function.comp_def]
theorem Fg (ks:List Int):(setK ks).length=ks.length:=by simp [setK]
theorem kJ {ks:List Int} {x:Int}:((Sum.inl x:Key)∈ks.map fun x=>(Sum.inl x:Key))↔x∈ks:=by
 rw [xai]
 exact ⟨fun ⟨y,hy,e⟩=>by cases e; exact hy,fun h=>⟨x,h,rfl⟩⟩
def insI (ks:List Int) (x:Int):List Int:=if x∈ks then ks else ks++[x]
theorem jB {κ β:Type} [DecidableEq κ] {kvs:List (κ × β)} {k:κ}:(kvs.any fun kv=>decide (kv.1=k))=true↔k∈kvs.map (·.1):=by
 rw [xcn,xai]
 exact ⟨fun ⟨p,hp,e⟩=>⟨p,hp,of_decide_eq_true e⟩,fun ⟨p,hp,e⟩=>⟨p,hp,decide_eq_true e⟩⟩
theorem Hc (ks:List Int) (x:Int):putG (setK ks) (.inl x) (.bl true)=setK (insI ks x):=by
 unfold putG insI
 by_cases h:x∈ks
 ·rw [if_pos h,if_pos (jB.mpr (by rw [jU]; exact kJ.mpr h))]
  unfold setK
  rw [xaG]
  apply xbv
  intro y _
  show (if (Sum.inl y:Key)=Sum.inl x then ((Sum.inl y:Key),D.bl true) else (.inl y,.bl true))=_
  split <;> rfl
 ·rw [if_neg h,if_neg (fun z=>h (kJ.mp (by rw [<- jU]; exact jB.mp z)))]
  simp [setK]
theorem oJ {κ β:Type} [DecidableEq κ]:∀ {kvs:List (κ × β)} {k:κ},(getG kvs k).isSome=true↔k∈kvs.map (·.1)
 | [],k=>by simp [getG]
 | p :: kvs,k=>by
  have ih:=oJ (kvs:=kvs) (k:=k)
  rw [xaq,xak]
  by_cases h:p.1=k
  ·subst h; simp [getG]
  ·have:getG (p :: kvs) k=getG kvs k:=by simp [getG,h]
   rw [this,ih]
   exact ⟨.inr,fun z=>z.elim (fun e=>absurd e.symm h) id⟩
theorem get_set (ks:List Int) (x:Int):(getG (setK ks) (.inl x)).isSome=decide (x∈ks):=by
 rw [xa3,oJ,jU,kJ,decide_eq_true_iff]
theorem Fp {ks:List Int} {x y:Int}:y∈insI ks x↔y∈ks\/y=x:=by
 unfold insI
 split
 ·rename_i h; exact ⟨.inl,fun z=>z.elim id fun e=>by subst e; exact h⟩
 ·simp
theorem Cd {ks:List Int} {x:Int} (h:ks.Nodup):(insI ks x).Nodup:=by
 unfold insI
 split
 ·exact h
 ·rename_i hx
  exact xaj.mpr ⟨h,by simp,fun a ha b hb e=>by
   have:b=x:=by simpa using hb
   subst this; subst e; exact hx ha⟩
inductive Rch (l:List Stp) (s:Int):Int->Prop
 | refl:Rch l s s
 | step {t:Stp}:Rch l s t.1->t∈l->t.2.1 = "*"->Rch l s t.2.2
structure RchL (l:List Stp) (s:Int) (xs:List Int):Prop where
 up:xs.Pairwise (· < ·)
 mem:∀ x,x∈xs↔Rch l s x
theorem RchL.uniq {l:List Stp} {s:Int} {xs ys:List Int} (a:RchL l s xs) (b:RchL l s ys):xs=ys:=wJ a.up b.up fun x=>(a.mem x).trans (b.mem x).symm
theorem Rch.lt {many:Int} {l:List Stp} (h:StIn many l) {s x:Int} (hs:0<=s/\s<many) (r:Rch l s x):0<=x/\x<many:=by
 cases r with
 | refl=>exact hs
 | step r ht _=>exact (h _ ht).2.2.2
theorem Gg {l:List Stp} {s:Int} {ks:List Int} (z:s∈ks) (h:∀ t∈l,t.2.1 = "*"->t.1∈ks->t.2.2∈ks) {x:Int} (r:Rch l s x):x∈ks:=by
 induction r with
 | refl=>exact z
 | step r ht e ih=>exact h _ ht e ih
theorem JC {many:Int} {ks:List Int} (nd:ks.Nodup) (h:∀ x∈ks,0<=x/\x<many):ks.length<=many.toNat:=by
 have:=d_ (m:=bR many.toNat) nd fun x hx=>dO.mpr (by have:=h x hx; lia)
 rwa [dX] at this
def cR (l:List Stp) (s:Int) (d:Str):List Int:=(l.filter fun t=>decide (t.1=s) && decide (t.2.1=d)).map (·.2.2)
theorem tM {l:List Stp} {s:Int} {d:Str} {x:Int}:x∈cR l s d↔(s,d,x)∈l:=by
 unfold cR
 rw [xai]
 constructor
 ·rintro ⟨⟨p,q,r⟩,ht,rfl⟩
  obtain ⟨h1,e⟩:=xaJ.mp ht
  simp only [xay,decide_eq_true_eq] at e
  rw [<- e.1,<- e.2]
  exact h1
 ·exact fun h=>⟨_,xaJ.mpr ⟨h,by simp⟩,rfl⟩
theorem yc (l:List Stp) (s:Int) (d:Str):(cR l s d).length<=l.length:=by
 unfold cR
 rw [xad]
 exact List.length_filter_le _ _
def Ways (l:List Stp) (kvs:Kn):Prop:=∀ s d,getG kvs [.inl s,.inr d]=if cR l s d=[] then none else some (.list ((cR l s d).map .int))
theorem sU (k k':List Key) (x:D):∀ (kvs:Kn),getG (sdG kvs k x) k'=if k'=k then some (match getG kvs k with
  | none=>.list [x]
  | some d=>appD d x) else getG kvs k'
 | []=>by
  rw [sdG,bC]
  by_cases h:k'=k
  ·rw [if_pos h.symm,if_pos h]; rfl
  ·rw [if_neg fun e=>h e.symm,if_neg h]
 | p :: r=>by
  rw [sdG]
  by_cases e:p.1=k
  ·rw [if_pos e,bC]
   by_cases h:k'=k
   ·rw [if_pos h,h,bC p r k,if_pos e,if_pos e]
   ·rw [if_neg h,bC p r k',if_neg fun z=>h (z.symm.trans e),if_neg fun z=>h (z.symm.trans e)]
  ·rw [if_neg e,bC,sU k k' x r]
   by_cases h:k'=k
   ·rw [if_pos h,h,bC p r k,if_neg e,if_neg e,if_pos rfl]
   ·rw [if_neg h,bC p r k',if_neg h]
theorem vL (k:List Key) (x:D):∀ (kvs:Kn),(sdG kvs k x).length<=kvs.length+1
 | []=>by simp [sdG]
 | p :: r=>by
  have:=vL k x r
  rw [sdG]
  split <;> simp only [xaK] <;> lia
theorem Ways.nil:Ways [] []:=fun s d=>rfl
theorem Ways.put {l:List Stp} {kvs:Kn} (h:Ways l kvs) (p:Int) (n:Str) (r:Int):Ways (l++[(p,n,r)]) (sdG kvs [.inl p,.inr n] (.int r)):=by
 intro s d
 rw [sU]
 have ee:cR (l++[(p,n,r)]) s d=cR l s d++if p=s/\n=d then [r] else []:=by
  unfold cR
  rw [List.filter_append,xaF]
  congr 1
  by_cases e:p=s/\n=d
  ·simp [e.1,e.2]
  ·rw [if_neg e,List.filter_cons_of_neg (by simpa using e)]; rfl
 by_cases e:p=s/\n=d
 ·rw [if_pos e] at ee
  obtain ⟨rfl,rfl⟩:=e
  rw [ee,if_pos rfl,h p n,if_neg (show ¬ cR l p n++[r]=[] by simp)]
  by_cases z:cR l p n=[]
  ·rw [if_pos z,z]; rfl
  ·rw [if_neg z]; simp [appD]
 ·rw [if_neg e,xaE] at ee
  rw [ee,if_neg fun z=>e ?_,h s d]
  simp only [List.cons.injEq,Sum.inl.injEq,Sum.inr.injEq,and_true] at z
  exact ⟨z.1.symm,z.2.symm⟩
theorem Ey {l:List Stp} {kvs:Kn} (h:Ways l kvs) {s:Int} {d:Str} {Q:Md->D->Prop} (q:Q .sh (.list ((cR l s d).map .int))):gotG (getG kvs [.inl s,.inr d]) .sh .sh (.list []) Q:=by
 rw [h s d]
 by_cases z:cR l s d=[]
 ·rw [if_pos z]; rw [z] at q; exact q
 ·rw [if_neg z]; exact q
theorem vq {steps:List Stp} {i:Nat} {x:D} (h:(steps.map stpD)[i]? = some x):∃ p d r,x=.tup [.int p,.str d,.int r]/\(p,d,r)∈steps/\steps.take (i+1)=steps.take i++[(p,d,r)]:=by
 rw [xaN] at h
 cases e:steps[i]? with
 | none=>rw [e] at h; cases h
 | some s =>
  rw [e] at h
  cases h
  obtain ⟨p,d,r⟩:=s
  exact ⟨p,d,r,rfl,xaL e,by rw [xbr,e]; rfl⟩
theorem int_at {l:List Int} {i:Nat} {x:D} (h:(l.map D.int)[i]? = some x):∃ c,x=.int c/\c∈l/\l.take (i+1)=l.take i++[c]:=by
 rw [xaN] at h
 cases e:l[i]? with
 | none=>rw [e] at h; cases h
 | some s =>
  rw [e] at h
  cases h
  exact ⟨s,rfl,xaL e,by rw [xbr,e]; rfl⟩
theorem sort_keys {l:List Stp} {s:Int} {ks:List Int} {kd:List (Key × D)} (ek:kd.map (·.1)=ks.map fun x=>(Sum.inl x:Key)) (nk:ks.Nodup) (mk:∀ x,x∈ks↔Rch l s x) {Q:Md->D->Prop} (k:∀ xs,RchL l s xs->Q (.ow true) (.list (xs.map .int))):Eg .bo (.dK kd) Q:=by
 refine ⟨true,fun p hp=>?_,fun ms pm pw=>?_⟩
 ·have:p.1∈kd.map (·.1):=List.mem_map_of_mem hp
  rw [ek] at this
  obtain ⟨x,_,e⟩:=xai.mp this
  rw [<- e]; rfl
 ·rw [ek] at pm
  obtain ⟨xs,rfl⟩:∃ xs:List Int,ms=xs.map fun x=>(Sum.inl x:Key):=by
   have hm:∀ k∈ms,∃ x:Int,k=Sum.inl x:=fun k hk=>by
    obtain ⟨x,_,rfl⟩:=xai.mp (pm.mem_iff.mp hk)
    exact ⟨x,rfl⟩
   clear pm pw
   induction ms with
   | nil=>exact ⟨[],rfl⟩
   | cons k ms ih =>
    obtain ⟨l,rfl⟩:=ih fun j hj=>hm j (xab _ hj)
    obtain ⟨x,rfl⟩:=hm k xac
    exact ⟨x :: l,rfl⟩
  have e:(xs.map fun x=>(Sum.inl x:Key)).map keyD=xs.map D.int:=by rw [xaG]; rfl
  rw [e]
  have mem:∀ x,x∈xs↔x∈ks:=fun x=>by rw [<- kJ (ks:=xs),<- kJ (ks:=ks)]; exact pm.mem_iff
  have nd:xs.Nodup:=by
   have:(xs.map fun x=>(Sum.inl x:Key)).Nodup:=pm.nodup_iff.mpr (by
    unfold List.Nodup at *
    rw [xaR]
    exact nk.imp fun h e=>h (Sum.inl.inj e))
   unfold List.Nodup at *
   rw [xaR] at this
   exact this.imp fun h e=>h (by rw [e])
  refine k xs ⟨?_,fun x=>(mem x).trans (mk x)⟩
  rw [xaR] at pw
  refine (pw.and nd).imp fun {a b} ⟨h1,h2⟩=>?_
  have h1:¬ b<a:=by simpa [lt1] using h1
  lia
abbrev Pr:=Str × Int
def prD (p:Pr):D:=.tup [.str p.1,.int p.2]
def exS (steps:List Stp) (s:Int):List Pr:=(steps.filter fun t=>decide (t.1=s)).map (·.2)
def exL (many:Int) (steps:List Stp):List D:=(bR many.toNat).map fun s=>.list ((exS steps s).map prD)
def exD (many:Int) (steps:List Stp):D:=.list (exL many steps)
theorem Dz (many:Int):((jo 0 many.toNat).filter fun _=>true).map (fun _=>D.list [])=exL many []:=by
 unfold exL jo bR
 rw [List.filter_eq_self.mpr fun _ _=>rfl,xaG,xaG]
 rfl
theorem zN {many s:Int} (steps:List Stp) (h0:0<=s) (h1:s<many):(exL many steps)[s.toNat]? = some (.list ((exS steps s).map prD)):=by
 have:s.toNat<many.toNat:=by lia
 simp [exL,bR,this,xa7 h0]
theorem jM (many:Int) (steps:List Stp):(exL many steps).length=many.toNat:=by simp [exL,bR]
theorem wV {n:Nat} {i:Int} (h0:0<=i) (h1:i<n):ixN n i=some i.toNat:=by unfold ixN; rw [if_pos h0,if_pos h1]
theorem xu (steps:List Stp) (p:Int) (d:Str) (r s:Int):exS (steps++[(p,d,r)]) s=if p=s then exS steps s++[(d,r)] else exS steps s:=by
 unfold exS
 by_cases h:p=s
 ·simp [h]
 ·simp [h]
theorem Cv {many p:Int} (steps:List Stp) (d:Str) (r:Int) (h0:0<=p) (h1:p<many):(exL many steps).set p.toNat (.list ((exS steps p).map prD++[.tup [.str d,.int r]]))=exL many (steps++[(p,d,r)]):=by
 apply xbC
 intro i
 by_cases hi:i<many.toNat
 ·have e:∀ st,(exL many st)[i]? = some (.list ((exS st (i:Nat)).map prD)):=fun st=>by
   have:=zN (many:=many) (s:=(i:Nat)) st (by lia) (by lia)
   simpa using this
  rw [e,xu]
  by_cases hp:p=(i:Nat)
  ·subst hp
   rw [if_pos rfl]
   simp [jM,hi,prD]
  ·rw [if_neg hp,xbD (by lia),e]
 ·rw [xbl (by rw [List.length_set,jM]; lia),xbl (by rw [jM]; lia)]
theorem Hm {many s:Int} (steps:List Stp) (h0:0<=s) (h1:s<many):atI (exL many steps) s=some (.list ((exS steps s).map prD)) :=
 yf (wV h0 (by rw [jM]; lia)) (zN steps h0 h1)
theorem Bc {steps:List Stp} {s:Int} {p:Pr} (h:p∈exS steps s):∃ t∈steps,t.1=s/\t.2=p:=by
 obtain ⟨t,ht,e⟩:=xai.mp h
 obtain ⟨ht,hs⟩:=xaJ.mp ht
 exact ⟨t,ht,of_decide_eq_true hs,e⟩
theorem zG {steps:List Stp} {t:Stp} (h:t∈steps):t.2∈exS steps t.1:=xai.mpr ⟨t,xaJ.mpr ⟨h,decide_eq_true rfl⟩,rfl⟩
theorem Ae (steps:List Stp) (s:Int):(exS steps s).length<=steps.length:=by
 unfold exS
 rw [xad]
 exact List.length_filter_le _ _
abbrev P2:=Int × Int
def p2K (p:P2):List Key:=[.inl p.1,.inl p.2]
def p2D (p:P2):D:=.tup [.int p.1,.int p.2]
theorem vo {p q:P2} (h:p2K p=p2K q):p=q:=by
 obtain ⟨a,b⟩:=p
 obtain ⟨c,d⟩:=q
 simp only [p2K,List.cons.injEq,Sum.inl.injEq,and_true] at h
 rw [h.1,h.2]
theorem rK:∀ (l:List P2),flats (l.map p2D)=true
 | []=>rfl
 | x :: l=>by simp [flats,rK l,p2D,D.flat]
theorem Hu (l:List P2) (n:Nat):okD (n+2) (.list (l.map p2D))=true:=by
 simp only [okD,List.all_map,xbY]
 intro x _
 cases n <;> rfl
theorem Bm:∀ (l:List P2),nbs (l.map p2D)=true
 | []=>rfl
 | x :: l=>by simp [nbs,Bm l,p2D,D.nb]
theorem JX (l:List P2):eqD (.list (l.map p2D)) (.list (l.map p2D))=true:=eq_self (show D.nb (.list (l.map p2D))=true from Bm l)
theorem Gv {l:List P2} {i:Nat} {x:D} (h:(l.map p2D)[i]? = some x):∃ p q,x=.tup [.int p,.int q]/\(p,q)∈l/\l.take (i+1)=l.take i++[(p,q)]:=by
 rw [xaN] at h
 cases e:l[i]? with
 | none=>rw [e] at h; cases h
 | some s =>
  rw [e] at h
  cases h
  exact ⟨s.1,s.2,rfl,xaL e,by rw [xbr,e]; rfl⟩
def InP (many:Int) (p:P2):Prop:=(0<=p.1/\p.1<many)/\0<=p.2/\p.2<many
def setP (ks:List P2):Kn:=ks.map fun p=>(p2K p,.bl true)
theorem jq (ks:List P2):(setP ks).map (·.1)=ks.map p2K:=by simp [setP,xaG,Function.comp_def]
theorem EY (ks:List P2):(setP ks).length=ks.length:=by simp [setP]
theorem iu {ks:List P2} {x:P2}:p2K x∈ks.map p2K↔x∈ks:=by
 rw [xai]
 exact ⟨fun ⟨y,hy,e⟩=>vo e ▸ hy,fun h=>⟨x,h,rfl⟩⟩
def insP (ks:List P2) (x:P2):List P2:=if x∈ks then ks else ks++[x]
theorem Fe (ks:List P2) (x:P2):putG (setP ks) (p2K x) (.bl true)=setP (insP ks x):=by
 unfold putG insP
 by_cases h:x∈ks
 ·rw [if_pos (jB.mpr (by rw [jq]; exact iu.mpr h)),if_pos h]
  unfold setP
  rw [xaG]
  apply xbv
  intro p _
  show (if p2K p=p2K x then (p2K p,D.bl true) else (p2K p,D.bl true))=_
  split <;> rfl
 ·rw [if_neg fun z=>h (iu.mp (by rw [<- jq]; exact jB.mp z)),if_neg h]
  simp [setP]
theorem Ex (ks:List P2) (x:P2):(getG (setP ks) (p2K x)).isSome=decide (x∈ks):=by
 rw [xa3,oJ,jq,iu,decide_eq_true_eq]
theorem xn {ks:List P2} {x y:P2}:y∈insP ks x↔y∈ks\/y=x:=by
 unfold insP
 split
 ·rename_i h
  exact ⟨.inl,fun z=>z.elim id fun e=>e ▸ h⟩
 ·simp
theorem um {ks:List P2} {x:P2} (h:ks.Nodup):(insP ks x).Nodup:=by
 unfold insP
 split
 ·exact h
 ·rename_i n
  exact xaj.mpr ⟨h,by simp,fun a ha b hb e=>n (by rw [<- xaH.mp hb,<- e]; exact ha)⟩
theorem x_ (ks:List P2) (x:P2):(insP ks x).length<=ks.length+1:=by
 unfold insP
 split <;> simp
structure Dst (ps ks:List P2):Prop where
 nd:ks.Nodup
 mem:∀ x,x∈ks↔x∈ps
 len:ks.length<=ps.length
theorem Dst.nil:Dst [] []:=⟨xaB,fun _=>Iff.rfl,by simp⟩
theorem Dst.put {ps ks:List P2} (h:Dst ps ks) (x:P2):Dst (ps++[x]) (insP ks x):=⟨um h.nd,fun y=>by rw [xn,xaf,xaH,h.mem],by
 have:=x_ ks x
 have:=h.len
 rw [xam,xbA]
 lia⟩
def Fwd (l:List Stp) (ps:List P2) (p q:Int):Prop:=∀ d e,(p,d,e)∈l->∃ o,(q,d,o)∈l/\(e,o)∈ps
def Bwd (l:List Stp) (ps:List P2) (p q:Int):Prop:=∀ d o,(q,d,o)∈l->∃ e,(p,d,e)∈l/\(e,o)∈ps
def Both (l:List Stp) (ps:List P2) (p:P2):Prop:=Fwd l ps p.1 p.2/\Bwd l ps p.1 p.2
theorem Fwd.congr {l:List Stp} {ps qs:List P2} (h:∀ x,x∈ps↔x∈qs) {p q:Int}:Fwd l ps p q↔Fwd l qs p q:=by
 unfold Fwd
 simp only [h]
theorem Both.congr {l:List Stp} {ps qs:List P2} (h:∀ x,x∈ps↔x∈qs) {p:P2}:Both l ps p↔Both l qs p:=by
 unfold Both Fwd Bwd
 simp only [h]
theorem Ig (ks:List P2):(setP ks).map (fun kv=>keyT kv.1)=ks.map p2D:=by unfold setP; rw [xaG]; rfl
theorem Gy {l:List Pr} {i:Nat} {x:D} (h:(l.map prD)[i]? = some x):∃ d e,x=.tup [.str d,.int e]/\(d,e)∈l/\l.take (i+1)=l.take i++[(d,e)]:=by
 rw [xaN] at h
 cases e:l[i]? with
 | none=>rw [e] at h; cases h
 | some s =>
  rw [e] at h
  cases h
  exact ⟨s.1,s.2,rfl,xaL e,by rw [xbr,e]; rfl⟩
theorem wz {steps:List Stp} {s:Int} {d:Str} {e:Int}:(d,e)∈exS steps s↔(s,d,e)∈steps:=by
 constructor
 ·intro h
  obtain ⟨t,ht,e1,e2⟩:=Bc h
  obtain ⟨a,b,c⟩:=t
  cases e1
  cases e2
  exact ht
 ·exact fun h=>zG h
theorem oU {α:Type} {l:List α} {i:Nat} {x:α} {P:α->Prop} (tk:l.take (i+1)=l.take i++[x]) (h:∀ y∈l.take i,P y) (hx:P x):∀ y∈l.take (i+1),P y:=fun y hy=>by
 rw [tk] at hy
 rcases xaf.mp hy with hy | hy
 ·exact h y hy
 ·rw [xaH.mp hy]; exact hx
abbrev Mp:=List (P2 × D)
def mpK (mp:Mp):List P2:=mp.map (·.1)
def kvM (mp:Mp):Kn:=mp.map fun x=>(p2K x.1,x.2)
theorem oF (mp:Mp):(kvM mp).map (·.1)=(mpK mp).map p2K:=by simp [kvM,mpK,xaG,Function.comp_def]
theorem e_ (mp:Mp):(kvM mp).length=mp.length:=by simp [kvM]
theorem fu (mp:Mp) (x:P2):(getG (kvM mp) (p2K x)).isSome=decide (x∈mpK mp):=by
 rw [xa3,oJ,oF,iu,decide_eq_true_eq]
theorem uW {mp:Mp} {x:P2} (h:x∈mpK mp):∃ d,getG (kvM mp) (p2K x)=some d/\(x,d)∈mp:=by
 have:(getG (kvM mp) (p2K x)).isSome=true:=by rw [fu]; exact decide_eq_true h
 obtain ⟨d,e⟩:=xbN.mp this
 obtain ⟨q,hq,e'⟩:=Option.map_eq_some_iff.mp e
 obtain ⟨y,hy,rfl⟩:=xai.mp (List.mem_of_find?_eq_some hq)
 have e2:p2K y.1=p2K x:=by simpa using List.find?_some hq
 have e3:=vo e2
 refine ⟨d,e,?_⟩
 rw [<- e3,<- e']
 exact hy
theorem qK {mp:Mp} {x:P2} (h:x∉mpK mp):getG (kvM mp) (p2K x)=none:=by
 cases e:getG (kvM mp) (p2K x) with
 | none=>rfl
 | some d =>
  have:=fu mp x
  rw [e] at this
  exact absurd (of_decide_eq_true this.symm) h
theorem vy {mp:Mp} {x:P2} (d:D) (h:x∉mpK mp):putG (kvM mp) (p2K x) d=kvM (mp++[(x,d)]):=by
 unfold putG
 rw [if_neg fun z=>h (iu.mp (by rw [<- oF]; exact jB.mp z))]
 simp [kvM]
def Mss (l:List Stp) (ks:List P2) (p:P2):Prop:=∃ d e,(p.1,d,e)∈l/\∀ o,(p.2,d,o)∈l->(e,o)∈ks
def Rk (l:List Stp):Nat->P2->Prop
 | 0,_=>False
 | n+1,p=>Rk l n p\/∃ d e,(p.1,d,e)∈l/\∀ o,(p.2,d,o)∈l->Rk l n (e,o)
theorem Rk.mono {l:List Stp} {p:P2} {n m:Nat} (h:n<=m) (r:Rk l n p):Rk l m p:=by
 induction h with
 | refl=>exact r
 | step _ ih=>exact .inl ih
def Fst (l:List Stp) (n:Nat) (p:P2):Prop:=Rk l n p/\∀ m,m<n->¬ Rk l m p
theorem Fst.uniq {l:List Stp} {n m:Nat} {p:P2} (a:Fst l n p) (b:Fst l m p):n=m:=by
 rcases Nat.lt_trichotomy n m with h | h | h
 ·exact absurd a.1 (b.2 n h)
 ·exact h
 ·exact absurd b.1 (a.2 m h)
structure Rnd (many:Int) (l:List Stp) (f:Nat->D->Prop) (n:Nat) (mp:Mp):Prop where
 nd:(mpK mp).Nodup
 inn:∀ x∈mp,InP many x.1/\∃ k,k<=n/\Fst l k x.1/\f k x.2
 all:∀ p,InP many p->Rk l n p->p∈mpK mp
theorem Rnd.nil {many:Int} {l:List Stp} {f:Nat->D->Prop}:Rnd many l f 0 []:=⟨xaB,(fun x hx=>nomatch hx),fun p _ r=>r.elim⟩
section
variable {many:Int} {l:List Stp} {f:Nat->D->Prop} {n:Nat} {mp:Mp}
theorem Rnd.mem (h:Rnd many l f n mp) {p:P2} (hp:InP many p):p∈mpK mp↔Rk l n p:=by
 refine ⟨fun m=>?_,h.all p hp⟩
 obtain ⟨x,hx,rfl⟩:=xai.mp m
 obtain ⟨_,k,hk,fs,_⟩:=h.inn x hx
 exact fs.1.mono hk
theorem Rnd.mss (h:Rnd many l f n mp) (hin:StIn many l) {p:P2}:Mss l (mpK mp) p↔∃ d e,(p.1,d,e)∈l/\∀ o,(p.2,d,o)∈l->Rk l n (e,o):=by
 constructor
 ·rintro ⟨d,e,he,ho⟩
  exact ⟨d,e,he,fun o hm=>(h.mem ⟨(hin _ he).2.2.2,(hin _ hm).2.2.2⟩).mp (ho o hm)⟩
 ·rintro ⟨d,e,he,ho⟩
  exact ⟨d,e,he,fun o hm=>(h.mem ⟨(hin _ he).2.2.2,(hin _ hm).2.2.2⟩).mpr (ho o hm)⟩
theorem pairs_len {ks:List P2} (nd:ks.Nodup) (h:∀ x∈ks,InP many x):ks.length<=many.toNat * many.toNat:=by
 have:=d_ (m:=(bR many.toNat).flatMap fun a=>(bR many.toNat).map fun b=>(a,b)) nd fun x hx=>List.mem_flatMap.mpr ⟨x.1,dO.mpr (by have:=h x hx; unfold InP at this; lia),xai.mpr ⟨x.2,dO.mpr (by have:=h x hx; unfold InP at this; lia),rfl⟩⟩
 refine xaz this (xcp ?_)
 rw [List.length_flatMap,show (fun a=>((bR many.toNat).map fun b=>(a,b)).length)=fun _:Int=>many.toNat from funext fun a=>by rw [xad,dX],List.map_const',List.sum_replicate_nat,dX]
theorem Rnd.len (h:Rnd many l f n mp) (hm:many<=8):mp.length<=64:=by
 have:=pairs_len (many:=many) h.nd fun x hx=>by
  obtain ⟨y,hy,rfl⟩:=xai.mp hx
  exact (h.inn y hy).1
 rw [mpK,xad] at this
 have:many.toNat * many.toNat<=8 * 8:=xbQ (by lia) (by lia)
 lia
structure Nxt (many:Int) (l:List Stp) (mp:Mp) (g:D->Prop) (fm:Mp):Prop where
 nd:(mpK fm).Nodup
 inn:∀ x∈fm,InP many x.1/\x.1∉mpK mp/\Mss l (mpK mp) x.1/\g x.2
 all:∀ p,InP many p->p∉mpK mp->Mss l (mpK mp) p->p∈mpK fm
theorem Rnd.next (h:Rnd many l f n mp) (hin:StIn many l) {fm:Mp} (x:Nxt many l mp (f (n+1)) fm):Rnd many l f (n+1) (mp++fm):=by
 refine ⟨?_,fun y hy=>?_,fun p hp r=>?_⟩
 ·rw [mpK,xaF]
  refine xaj.mpr ⟨h.nd,x.nd,fun a ha b hb e=>?_⟩
  obtain ⟨y,hy,rfl⟩:=xai.mp hb
  exact (x.inn y hy).2.1 (e ▸ ha)
 ·rcases xaf.mp hy with hy | hy
  ·obtain ⟨i,k,hk,z⟩:=h.inn y hy
   exact ⟨i,k,by lia,z⟩
  ·obtain ⟨i,nm,ms,g⟩:=x.inn y hy
   refine ⟨i,n+1,xah _,⟨.inr ((h.mss hin).mp ms),fun m hm r=>nm ((h.mem i).mpr (r.mono (by lia)))⟩,g⟩
 ·rw [mpK,xaF,xaf]
  by_cases e:p∈mpK mp
  ·exact .inl e
  ·refine .inr (x.all p hp e ?_)
   rcases r with r | r
   ·exact absurd ((h.mem hp).mpr r) e
   ·exact (h.mss hin).mpr r
theorem ym (h:Rnd many l f n mp) (hin:StIn many l) {g:D->Prop} (x:Nxt many l mp g []) {p:P2} (hp:InP many p):∀ k,Rk l (n+k) p->Rk l n p:=by
 intro k
 induction k generalizing p with
 | zero=>exact id
 | succ k ih =>
  rintro (r | ⟨d,e,he,ho⟩)
  ·exact ih hp r
  ·by_cases z:p∈mpK mp
   ·exact (h.mem hp).mp z
   ·have:=x.all p hp z ((h.mss hin).mpr ⟨d,e,he,fun o hm=>ih ⟨(hin _ he).2.2.2,(hin _ hm).2.2.2⟩ (ho o hm)⟩)
    exact nomatch this
structure All (many:Int) (l:List Stp) (f:Nat->D->Prop) (mp:Mp):Prop where
 nd:(mpK mp).Nodup
 inn:∀ x∈mp,InP many x.1/\∃ k,Fst l k x.1/\f k x.2
 all:∀ p,InP many p->p∉mpK mp->∀ k,¬ Rk l k p
theorem Rnd.end (h:Rnd many l f n mp) (hin:StIn many l) {g:D->Prop} (x:Nxt many l mp g []):All many l f mp:=by
 refine ⟨h.nd,fun y hy=>?_,fun p hp z k r=>z (h.all p hp ?_)⟩
 ·obtain ⟨i,k,_,z⟩:=h.inn y hy
  exact ⟨i,k,z⟩
 ·exact ym h hin x hp k (r.mono (by lia))
end
def Told (l:List Stp) (p:P2) (d:D):Prop:=(∃ n:Nat,Fst l n p/\d=.int n)\/((∀ n,¬ Rk l n p)/\d=.non)
theorem Told.uniq {l:List Stp} {p:P2} {a b:D} (x:Told l p a) (y:Told l p b):a=b:=by
 rcases x with ⟨n,hn,rfl⟩ | ⟨hn,rfl⟩ <;> rcases y with ⟨m,hm,rfl⟩ | ⟨hm,rfl⟩
 ·rw [hn.uniq hm]
 ·exact absurd hn.1 (hm n)
 ·exact absurd hm.1 (hn m)
 ·rfl
def rF (n:Nat) (d:D):Prop:=∃ s e,d=.tup [.int n,.str s,.int e]
theorem fL (x:Int) {m:Int} (h:0<m):0<=x % m/\x % m<m:=⟨xb8 _ (by lia),xci _ h⟩
theorem vJ {a b:Int} (h0:-1000<=b) (h1:b<=10000000000):CMul a b:=.inr ⟨by lia,by lia⟩
theorem Ca {a b:Int} (h0:-1000<=a) (h1:a<=10000000000):CMul a b:=.inl ⟨by lia,by lia⟩
theorem xV (l:List Str) (lo hi:Option Int):cutG (l.map D.str) lo hi=(cutG l lo hi).map D.str:=by
 unfold cutG
 rw [xad,List.map_take,List.map_drop]
theorem Ea {α:Type} {l:List α} {a b:Int} (h0:0<=a) (h1:a<b) (h2:a<l.length):1<=(cutG l (some a) (some b)).length/\(cutG l (some a) (some b)).length<=l.length/\∀ x∈cutG l (some a) (some b),x∈l:=by
 have e:HT.sIx l.length 0 (some a)=a.toNat:=ie h0 (by lia)
 have e2:a.toNat<HT.sIx l.length l.length (some b):=by
  simp only [HT.sIx]
  rw [if_neg (by lia)]
  lia
 unfold cutG
 rw [e,xaC,xa8]
 exact ⟨by lia,by lia,fun x hx=>xbF (xbG hx)⟩
def eG:WS :=
 (wIfS (wNot (wB (qG fLe fLt (wC (.int 0)) (wVar 1) (wOp fIx (wVar 0) (wC (.int 0))))))
 (u_ "NoState" (wC (.str "the machine has no such state")))
 cQ)
def aR:SpD:=fun ds Q=>∃ (many:Int) (l:List Stp) (s:Int),ds=[mD many l,.int s]/\((0<=s/\s<many)->Q .sh .non)/\(¬ (0<=s/\s<many)->Q (.ow false) (.str "NoState"))
theorem jQ (ds Q) (h:aR ds Q):ds.length=["m", "state"].length:=by obtain ⟨_,_,_,rfl,_⟩:=h; rfl
theorem nR:∀ ds Q,aR ds Q->eG { nx:=fun _=>Q .sh .non,rt:=Q } (aX 2 ds):=by
 rintro ds Q ⟨many,l,s,rfl,h1,h2⟩
 unfold eG mD
 walk_at "q"
 refine R.D (fun a=>?_) fun a=>?_
 ·walk_at "q"
  by_cases b:s<many
  ·refine R.F (by simp [b]) ?_
   walk_at "q"
   exact h1 ⟨a,b⟩
  ·refine R.T (by simp [b]) ?_
   walk_at "q"
   exact h2 fun z=>b z.2
 ·walk_at "q"
  exact h2 fun z=>a z.1
def jO:WS :=
 (wSeq (wSet 1 iJ)
 (wSeq (wFrz 0 (wFor (gR (wOp fIx (wVar 0) (wC (.int 1)))) (gT 3 (di (gN 2) (di (gN 3) (di (gN 4) ql))))
 (wFrz 4 (wFrz 3 (wFrz 2 (wSd 1 (wTup (ak (wVar 2) (ak (wVar 3) wNil))) (wVar 4)))))))
 (pW 1)))
def cW:SpD:=fun ds Q=>∃ (many:Int) (l:List Stp),ds=[mD many l]/\l.length<=10000/\∀ kvs,Ways l kvs->Q (.ow true) (.dT kvs)
theorem rM (ds Q) (h:cW ds Q):ds.length=["m"].length:=by obtain ⟨_,_,rfl,_⟩:=h; rfl
theorem vY:∀ ds Q,cW ds Q->jO { nx:=fun _=>Q .sh .non,rt:=Q } (aX 5 ds):=by
 rintro ds Q ⟨many,l,rfl,hz,h⟩
 unfold jO mD
 walk_at "q"
 refine bO _ (fun i ρ=>∃ (kvs:Kn) (o2 o3 o4:Option Sl),Ways (l.take i) kvs/\kvs.length<=i/\ρ=[some (.sh (.tup [.int many,.list (l.map stpD)])),some (.ow true (.dT kvs)),o2,o3,o4]) ⟨[],_,_,_,Ways.nil,by simp,rfl⟩ ?_ ?_
 ·rintro i x ρ hx ⟨kvs,o2,o3,o4,hw,hk,rfl⟩ N hN
  have hi:=(xaw.mp hx).1
  rw [xad] at hi
  obtain ⟨p,d,r,rfl,hs,et⟩:=vq hx
  walk_at "q"
  refine ⟨by lia,?_,hN _ ⟨_,_,_,_,by rw [et]; exact hw.put p d r,by have:=vL [.inl p,.inr d] (.int r) kvs; lia,rfl⟩⟩
  rw [hw p d]
  have:=yc (l.take i) p d
  rw [xaC] at this
  split
  ·trivial
  ·show List.length _<_
   rw [xad]
   exact Dk (by lia)
 ·rintro ρ ⟨kvs,o2,o3,o4,hw,hk,rfl⟩
  rw [xad,xba] at hw
  walk_at "q"
  exact h kvs hw
def iD:WS :=
 (wSeq (wSet 1 (iC (dW (wOp fIx (wVar 0) (wC (.int 0)))) (gN 0) wYes (wLst wNil) 1 []))
 (wSeq (wFrz 0 (wFor (gR (wOp fIx (wVar 0) (wC (.int 1)))) (gT 3 (di (gN 2) (di (gN 3) (di (gN 4) ql))))
 (wFrz 4 (wFrz 3 (wApp (wpIx (wpN 1) (wVar 2)) (wTup (ak (wVar 3) (ak (wVar 4) wNil))))))))
 (pW 1)))
def cH:SpD:=fun ds Q=>∃ (many:Int) (steps:List Stp),ds=[mD many steps]/\(0<=many/\many<=1000)/\StIn many steps/\steps.length<=10000/\Q (.ow true) (exD many steps)
theorem pR (ds Q) (h:cH ds Q):ds.length=["m"].length:=by obtain ⟨_,_,rfl,_⟩:=h; rfl
theorem uF:∀ ds Q,cH ds Q->iD { nx:=fun _=>Q .sh .non,rt:=Q } (aX 5 ds):=by
 rintro ds Q ⟨many,steps,rfl,hm,hin,hl,h⟩
 unfold iD mD
 walk_at "q"
 refine ⟨by lia,by lia,?_⟩
 refine cJ (fun _=>true) (fun _=>.list []) (fun ρ=>∃ o,ρ=[o]) _ _ _ ⟨_,rfl⟩ ?_ ?_
 ·rintro x hx ρ ⟨o,rfl⟩ N1 N2 n1 n2
  walk_at "q"
  exact ⟨.inr rfl,n2 _ ⟨_,rfl⟩ rfl⟩
 rw [Dz]
 refine bO _ (fun i ρ=>∃ o2 o3 o4,ρ=[some (.sh (.tup [.int many,.list (steps.map stpD)])),some (.ow true (.list (exL many (steps.take i)))),o2,o3,o4]) ⟨none,none,none,by simp⟩ ?_ ?_
 ·rintro i x ρ hx ⟨o2,o3,o4,rfl⟩ N hN
  obtain ⟨p,d,r,rfl,hs,ht⟩:=vq hx
  have ok:=hin _ hs
  walk_at "q"
  refine ⟨p.toNat,.list ((exS (steps.take i) p).map prD),wV ok.1 (by rw [jM]; have:=ok.2.1; lia),zN _ ok.1 ok.2.1,rfl,?_⟩
  walk_at "q"
  refine ⟨?_,?_⟩
  ·have:=Ae (steps.take i) p
   have:(steps.take i).length<=steps.length:=by rw [xaC]; lia
   lia
  ·refine hN _ ⟨some (.sh (.int p)),some (.sh (.str d)),some (.sh (.int r)),?_⟩
   rw [Cv _ _ _ ok.1 ok.2.1,<- ht]
 ·rintro ρ ⟨o2,o3,o4,rfl⟩
  walk_at "q"
  rw [xba]
  exact h
def fJ:WS :=
 (wSeq (wFrz 2 (wFor (gR (wVar 2)) (gN 3)
 (wFrz 3 (wFrz 1 (wIfS (wB (wOp (fIn true) (wTup (ak (wVar 1) (ak (wVar 3) wNil))) (wVar 0)))
 (wRet (wC (.bl false)))
 cQ)))))
 (wRet (wC (.bl true))))
def bK:SpD:=fun ds Q=>∃ (mp:Mp) (e:Int) (os:List Int),ds=[.dT (kvM mp),.int e,.list (os.map .int)]/\∀ b,(b=true↔∀ o∈os,(e,o)∈mpK mp)->Q .sh (.bl b)
theorem lL (ds Q) (h:bK ds Q):ds.length=["missed", "end", "others"].length:=by obtain ⟨_,_,_,rfl,_⟩:=h; rfl
theorem qd:∀ ds Q,bK ds Q->fJ { nx:=fun _=>Q .sh .non,rt:=Q } (aX 4 ds):=by
 rintro ds Q ⟨mp,e,os,rfl,h⟩
 unfold fJ
 walk_at "q"
 refine bO _ (fun i ρ=>∃ (o3:Option Sl),(∀ o∈os.take i,(e,o)∈mpK mp)/\ρ=[some (.sh (.dT (kvM mp))),some (.sh (.int e)),some (.sh (.list (os.map .int))),o3]) ⟨_,(fun p hp=>by simp at hp),rfl⟩ ?_ ?_
 ·rintro i x ρ hx ⟨o3,hi,rfl⟩ N hN
  obtain ⟨o,rfl,hm,tk⟩:=int_at hx
  walk_at "q"
  have e1:=fu mp (e,o)
  unfold p2K at e1
  rw [e1]
  by_cases z:(e,o)∈mpK mp
  ·rw [decide_eq_true z]
   walk_at "q"
   exact hN _ ⟨_,oU tk hi z,rfl⟩
  ·rw [decide_eq_false z]
   walk_at "q"
   exact h false ⟨(fun y=>by cases y),fun y=>absurd (y o hm) z⟩
 ·rintro ρ ⟨o3,hi,rfl⟩
  rw [xad,xba] at hi
  walk_at "q"
  exact h true ⟨fun _=>hi,fun _=>rfl⟩
def dC:WS :=
 (wSeq (wIfS (wB (wOp fLt (wVar 1) (wUn fLen (wVar 0))))
 (wRet (wOp fIx (wVar 0) (wVar 1)))
 cQ)
 (wRet (wC (.int 0))))
def aD:SpD:=fun ds Q=>∃ (ns:List Int) (k:Int),ds=[.list (ns.map .int),.int k]/\0<=k/\Q .sh (.int (ns.getD k.toNat 0))
theorem jc (ds Q) (h:aD ds Q):ds.length=["_law_script", "_law_k"].length:=by obtain ⟨_,_,rfl,_⟩:=h; rfl
theorem lH:∀ ds Q,aD ds Q->dC { nx:=fun _=>Q .sh .non,rt:=Q } (aX 2 ds):=by
 rintro ds Q ⟨ns,k,rfl,hk,h⟩
 unfold dC
 walk_at "q"
 refine R.D (fun hl=>?_) fun hl=>?_
 ·walk_at "q"
  have hn:k.toNat<ns.length:=by lia
  refine ⟨.int ns[k.toNat],?_,?_⟩
  ·have:=atI_nat (xs:=ns.map D.int) (j:=k.toNat) (v:=.int ns[k.toNat]) (by simp [hn])
   rwa [xa7 hk] at this
  ·show Q .sh _; simpa [List.getD,hn] using h
 ·walk_at "q"
  have:ns.getD k.toNat 0=0:=by
   have:ns.length<=k.toNat:=by lia
   simp [List.getD,xbl this]
  rwa [this] at h
def fM:WS :=
 (wSeq (wSet 1 (wC (.str "abcdefghijklmnopqrstuvwxyz")))
 (wSeq (wSet 2 (wOp fAdd (wOp fIx (wVar 1) (wOp fMod (wOp fDiv (wVar 0) (wC (.int 6))) (wC (.int 26)))) (wOp xW (wOp fIx (wVar 1) (wOp fMod (wOp fDiv (wVar 0) (wC (.int 156))) (wC (.int 26)))) (wOp fMod (wOp fDiv (wVar 0) (wC (.int 4056))) (wC (.int 5))))))
 (wFrz 2 (wRet (wSl (wOp fIx (wLst (ak (wLst (ak (wVar 2) (ak (wOp fAdd (wVar 2) (wC (.str "a"))) (ak (wC (.str "*")) wNil)))) (ak (wLst (ak (wC (.str "*")) (ak (wVar 2) (ak (wOp fAdd (wC (.str "b")) (wSl (wVar 2) (q_ (wC (.int 1))) nZ)) wNil)))) wNil))) (wOp fMod (wVar 0) (wC (.int 2)))) nZ (q_ (wOp fAdd (wC (.int 1)) (wOp fMod (wOp fDiv (wVar 0) (wC (.int 2))) (wC (.int 3))))))))))
def bJ:SpD:=fun ds Q=>∃ c:Int,ds=[.int c]/\∀ names:List Str,1<=names.length->names.length<=3->(∀ n∈names,Deed n)->Q (.ow true) (.list (names.map .str))
theorem lN (ds Q) (h:bJ ds Q):ds.length=["_law_cell"].length:=by obtain ⟨_,rfl,_⟩:=h; rfl
theorem xP {x:Str} (h:lets x) (n:Int):lets (repS n x):=fun c hc=>by
 unfold repS sg at hc
 rw [List.toList_toArray] at hc
 obtain ⟨y,hy,hc⟩:=List.mem_flatten.mp hc
 rw [List.eq_of_mem_replicate hy] at hc
 exact h c hc
theorem ph:∀ ds Q,bJ ds Q->fM { nx:=fun _=>Q .sh .non,rt:=Q } (aX 3 ds):=by
 rintro ds Q ⟨c,rfl,h⟩
 unfold fM
 walk_at "q"
 obtain ⟨c1,e1,l1⟩:=uL (c / 6)
 obtain ⟨c2,e2,l2⟩:=uL (c / 156)
 have h5:=fL (c / 4056) (show (0:Int)<5 by decide)
 generalize c / 4056 % 5=k at *
 refine ⟨c1,e1,c2,e2,?_⟩
 have hl:(⟨#[c1]⟩++repS k ⟨#[c2]⟩:Str).length=1+k.toNat:=by rw [cF,nU,bf,bf]; lia
 have hb:lets (⟨#[c1]⟩++repS k ⟨#[c2]⟩:Str):=nP (ji l1) (xP (ji l2) k)
 have hr:(repS k ⟨#[c2]⟩).length=k.toNat:=by rw [nU,bf]; lia
 have ha:("a" : Str)=⟨#[97]⟩:=by decide +kernel
 have hbb:("b" : Str)=⟨#[98]⟩:=by decide +kernel
 rw [hr,ha,hbb,bf,bf,bf,bf]
 generalize (⟨#[c1]⟩++repS k ⟨#[c2]⟩:Str)=base at *
 have hc:=tK base (some 1) none
 have d1:Deed base:=.inr ⟨by lia,by lia,hb⟩
 have d2:Deed (base ++ ⟨#[97]⟩):=.inr ⟨by rw [cF,bf]; lia,by rw [cF,bf]; lia,nP hb (ji rfl)⟩
 have d3:Deed (⟨#[98]⟩++cutS base (some 1) none):=.inr ⟨by rw [cF,bf]; lia,by rw [cF,bf]; lia,nP (ji rfl) (xT hb _ _)⟩
 generalize base ++ ⟨#[97]⟩=w2 at *
 generalize ⟨#[98]⟩++cutS base (some 1) none=w3 at *
 have h3:=fL (c / 2) (show (0:Int)<3 by decide)
 refine ⟨⟨h5.1,by lia,by lia⟩,by lia,by lia,by lia,?_⟩
 have fin:∀ ns:List Str,ns.length=3->(∀ n∈ns,Deed n)->Q (.ow true) (.list (cutG (ns.map .str) none (some (1+c / 2 % 3)))):=fun ns e hd=>by
  rw [xV]
  have hc:=Ea (l:=ns) (a:=0) (b:=1+c / 2 % 3) (by lia) (by lia) (by lia)
  have e2:cutG ns none (some (1+c / 2 % 3))=cutG ns (some 0) (some (1+c / 2 % 3)):=by unfold cutG; rw [ie (xa6 0) (by lia)]; rfl
  rw [e2]
  exact h _ hc.1 (by lia) fun n hn=>hd n (hc.2.2 n hn)
 rcases (show c % 2=0\/c % 2=1 by lia) with e | e
 ·rw [e]
  refine ⟨_,rfl,?_⟩
  walk_at "q"
  refine .inl (fin [base,w2, "*"] rfl fun n hn=>?_)
  simp only [xak,xbf,or_false] at hn
  rcases hn with rfl | rfl | rfl
  ·exact d1
  ·exact d2
  ·exact .inl rfl
 ·rw [e]
  refine ⟨_,rfl,?_⟩
  walk_at "q"
  refine .inl (fin ["*",base,w3] rfl fun n hn=>?_)
  simp only [xak,xbf,or_false] at hn
  rcases hn with rfl | rfl | rfl
  ·exact .inl rfl
  ·exact d1
  ·exact d3
def cj:WS :=
 (wIfS (wOr (wB (wOp fEq (wVar 5) (wOp fMod (wOp fDiv (wVar 0) (wC (.int 50))) (wVar 3)))) (wAnd (wB (wOp fGe (wVar 5) (wVar 3))) (wB (wOp fNe (wVar 5) (wOp fAdd (wVar 3) (wOp fMod (wOp fDiv (wVar 0) (wC (.int 900))) (wOp fSub (wVar 1) (wVar 3))))))))
 (wFrz 5 (wApp (wpN 4) (wTup (ak (wVar 5) (ak (wOp fIx (wOp fAdd (wVar 2) (wLst (ak (wOp fIx (wLst (ak (wC (.str "zz")) (ak (wC (.str "yy")) wNil))) (wUn fInt (wOp fEq (wOp fIx (wVar 2) (wC (.int 0))) (wC (.str "zz"))))) wNil))) (wC (.int 1))) (ak (wVar 5) wNil))))))
 cQ)
def eY:WS :=
 (wSeq (wIfS (wB (wOp fLt (wVar 1) (wC (.int 2))))
 (qR [.inr 1,.inl (wLst wNil)])
 cQ)
 (wSeq (wSet 3 (wOp fAdd (wC (.int 1)) (wOp fMod (wVar 0) (wOp fSub (wVar 1) (wC (.int 1))))))
 (wSeq (wSet 4 (wLst wNil))
 (wSeq (wFor (dW (wVar 1)) (gN 5)
 (wSeq (wIfS (wB (wOp fLt (wVar 5) (wVar 3)))
 (wFrz 5 (wApp (wpN 4) (wTup (ak (wVar 5) (ak (wOp fIx (wVar 2) (wC (.int 0))) (ak (wOp fMod (wOp fAdd (wVar 5) (wC (.int 1))) (wVar 3)) wNil))))))
 (wFrz 5 (wApp (wpN 4) (wTup (ak (wVar 5) (ak (wOp fIx (wVar 2) (wC (.int 0))) (ak (wOp fAdd (wVar 3) (wOp fMod (wOp fSub (wOp fAdd (wVar 5) (wC (.int 1))) (wVar 3)) (wOp fSub (wVar 1) (wVar 3)))) wNil)))))))
 cj))
 (qR [.inr 1,.inl (wUn jl (wVar 4))])))))
def bM:SpD:=fun ds Q=>∃ (c many:Int) (names:List Str),ds=[.int c,.int many,.list (names.map .str)]/\(1<=many/\many<=8)/\1<=names.length/\names.length<=3/\(∀ n∈names,Deed n) /\
 ∀ l:List Stp,StIn many l->l.length<=1000->Q (.ow true) (mD many l)
theorem lV (ds Q) (h:bM ds Q):ds.length=["_law_cell", "_law_many", "_law_deeds_here"].length:=by obtain ⟨_,_,_,rfl,_⟩:=h; rfl
theorem vO {P:Stp->Prop} {l:List Stp} (h:∀ s∈l,P s) {m:Md} {Q:Md->D->Prop} (k:∀ l2:List Stp,(∀ s∈l2,P s)->l2.length=l.length->Q (.ow true) (.list (l2.map stpD))):jl m (.list (l.map stpD)) Q:=by
 refine ⟨l.map stpK,[false,true],by rw [xaG]; rfl,fun k hk=>?_,fun ms pm pw=>?_⟩
 ·obtain ⟨p,hp,rfl⟩:=xai.mp hk
  rfl
 ·obtain ⟨l2,rfl,hl⟩:=rD (P:=P) (ks:=ms) fun k hk=>by
   obtain ⟨p,hp,e⟩:=xai.mp (pm.mem_iff.mp hk)
   exact ⟨p,e.symm,h p hp⟩
  have e:(l2.map stpK).map keyT=l2.map stpD:=by rw [xaG]; rfl
  rw [e]
  exact k l2 hl (by have:=pm.length_eq; simpa using this)
theorem ju {N B:L2.Q.Env->Prop} {Q:Md->D->Prop} {c many g k:Int} {names:List Str} {l:List Stp} (hm:1<=many/\many<=8) (n1:1<=names.length) (n3:names.length<=3) (hd:∀ n∈names,Deed n) (g1:1<=g) (g2:g<many) (k0:0<=k) (k1:k<many) (hin:StIn many l) (hl:l.length<=100)
  (hN:∀ l2,StIn many l2->l2.length<=l.length+1->N [some (.sh (.int c)),some (.sh (.int many)),some (.sh (.list (names.map .str))),some (.sh (.int g)),some (.ow true (.list (l2.map stpD))),some (.sh (.int k))]) :
  cj { nx:=N,ct:=N,bk:=B,rt:=Q } [some (.sh (.int c)),some (.sh (.int many)),some (.sh (.list (names.map .str))),some (.sh (.int g)),some (.ow true (.list (l.map stpD))),some (.sh (.int k))]:=by
 unfold cj
 obtain ⟨n,hn,en⟩:=jK (names:=names) (i:=0) (by lia) (by lia)
 have dz:Deed "zz" := .inr (by unfold Open lets; decide +kernel)
 have dy:Deed "yy" := .inr (by unfold Open lets; decide +kernel)
 obtain ⟨w,ew,dw⟩:∃ w:Str,w=(if n = "zz" then "yy" else "zz")/\Deed w:=⟨_,rfl,by split; exact dy; exact dz⟩
 obtain ⟨n2,hn2,en2⟩:=jK (names:=names++[w]) (i:=1) (by lia) (by rw [xam,xbA]; lia)
 rw [xaF,xaq,xco] at en2
 have hs:StOk many (k,n2,k):=⟨k0,k1,by
  rcases xaf.mp hn2 with z | z
  ·exact hd n2 z
  ·rw [xaH.mp z]; exact dw,k0,k1⟩
 have fin:=hN (l++[(k,n2,k)]) (fun t ht=>(xaf.mp ht).elim (hin t) fun z=>by rw [xaH.mp z]; exact hs) (by simp)
 rw [xaF] at fin
 walk_at "q"
 refine ⟨by lia,R.D (fun e1=>?_) fun e1=>?_⟩
 ·walk_at "q"
  refine ⟨_,en,?_⟩
  walk_at "q"
  refine ⟨.str w,?_,?_⟩
  ·by_cases e:n = "zz"
   ·rw [ew,if_pos e,decide_eq_true e]; rfl
   ·rw [ew,if_neg e,decide_eq_false e]; rfl
  walk_at "q"
  refine ⟨by lia,.inl ⟨jN _,_,en2,?_⟩⟩
  walk_at "q"
  exact ⟨by lia,fin⟩
 ·walk_at "q"
  refine R.D (fun e2=>?_) fun e2=>?_
  ·walk_at "q"
   refine ⟨by lia,R.B (fun e3=>?_) fun e3=>?_⟩
   ·walk_at "q"
    refine ⟨_,en,?_⟩
    walk_at "q"
    refine ⟨.str w,?_,?_⟩
    ·by_cases e:n = "zz"
     ·rw [ew,if_pos e,decide_eq_true e]; rfl
     ·rw [ew,if_neg e,decide_eq_false e]; rfl
    walk_at "q"
    refine ⟨by lia,.inl ⟨jN _,_,en2,?_⟩⟩
    walk_at "q"
    exact ⟨by lia,fin⟩
   ·walk_at "q"
    exact hN l hin (by lia)
  ·walk_at "q"
   exact hN l hin (by lia)
theorem pF:∀ ds Q,bM ds Q->eY { nx:=fun _=>Q .sh .non,rt:=Q } (aX 6 ds):=by
 rintro ds Q ⟨c,many,names,rfl,hm,n1,n3,hd,h⟩
 obtain ⟨w0,e0⟩:∃ w0,w0=cj:=⟨_,rfl⟩
 unfold eY
 rw [<- e0]
 walk_at "q"
 refine R.D (fun e1=>?_) fun e1=>?_
 ·walk_at "q"
  exact h [] (fun s hs=>nomatch hs) (by simp)
 ·walk_at "q"
  have hlo:=fL c (show 0<many - 1 by lia)
  have hlg:∃ g:Int,g=1+c % (many - 1)/\1<=g/\g<many:=⟨_,rfl,by lia,by lia⟩
  obtain ⟨g,hg,g1,g2⟩:=hlg
  rw [<- hg]
  refine ⟨by lia,by lia,by lia,?_⟩
  refine bO _ (fun i ρ=>∃ (l:List Stp) (o5:Option Sl),StIn many l/\l.length<=2 * i/\ρ=[some (.sh (.int c)),some (.sh (.int many)),some (.sh (.list (names.map .str))),some (.sh (.int g)),some (.ow true (.list (l.map stpD))),o5]) ⟨[],_,(fun s hs=>nomatch hs),by simp,rfl⟩ ?_ ?_
  ·rintro i x ρ hx ⟨l,o5,hin,hl,rfl⟩ N hN
   obtain ⟨hi,rfl⟩:=fW hx
   obtain ⟨n,hn,en⟩:=jK (names:=names) (i:=0) (by lia) (by lia)
   have hk0:(0:Int)<=0+(i:Nat):=by lia
   have hk1:(0:Int)+(i:Nat)<many:=by lia
   have b1:=fL (0+(i:Nat)+1) (show 0<g by lia)
   have b2:=fL (0+(i:Nat)+1 - g) (show 0<many - g by lia)
   have fin:∀ (s:Stp) (B:L2.Q.Env->Prop),StOk many s->w0 { nx:=N,ct:=N,bk:=B,rt:=Q } [some (.sh (.int c)),some (.sh (.int many)),some (.sh (.list (names.map .str))),some (.sh (.int g)),some (.ow true (.list (l.map stpD++[stpD s]))),some (.sh (.int (0+(i:Nat))))]:=fun s B hs=>by
    rw [e0,show l.map stpD++[stpD s]=(l++[s]).map stpD by rw [xaF]; rfl]
    refine ju hm n1 n3 hd g1 g2 hk0 hk1 (fun t ht=>?_) (by simp; lia) fun l2 h2 hl2=>hN _ ⟨l2,_,h2,?_,rfl⟩
    ·rcases xaf.mp ht with ht | ht
     ·exact hin t ht
     ·rw [xaH.mp ht]; exact hs
    ·rw [xam,xbA] at hl2
     lia
   walk_at "q"
   refine R.D (fun e2=>?_) fun e2=>?_
   ·walk_at "q"
    refine ⟨_,en,?_⟩
    walk_at "q"
    refine ⟨by lia,by lia,fin (0+(i:Nat),n,(0+(i:Nat)+1) % g) _ ⟨hk0,hk1,hd n hn,b1.1,(by lia : (0+(i:Nat)+1) % g<many)⟩⟩
   ·walk_at "q"
    refine ⟨_,en,?_⟩
    walk_at "q"
    refine ⟨by lia,by lia,fin (0+(i:Nat),n,g+(0+(i:Nat)+1 - g) % (many - g)) _ ⟨hk0,hk1,hd n hn,(by lia : 0<=g+(0+(i:Nat)+1 - g) % (many - g)),(by lia : g+(0+(i:Nat)+1 - g) % (many - g)<many)⟩⟩
  ·rintro ρ ⟨l,o5,hin,hl,rfl⟩
   rw [ig] at hl
   walk_at "q"
   refine (show jl (.ow true) (.list (l.map stpD)) (fun m x=>Q (pJ [(.sh,.int many),(m,x)]) (.tup [.int many,x])) from vO hin fun l2 h2 hl2=>?_)
   exact h l2 h2 (by lia)
def du:WS :=
 (wSeq (wFrz 0 (wFor (gR (wOp fIx (wVar 0) (wVar 1))) (gN 4)
 (wSeq (wSet 5 (iC (iV (wOp fIx (wVar 0) (wVar 2))) (gN 0) (wAnd (wB (wOp fEq (wOp fIx (wVar 0) (wC (.int 1))) (wOp fIx (wVar 2) (wC (.int 1))))) (wB (wOp (fIn true) (wTup (ak (wOp fIx (wVar 2) (wC (.int 2))) (ak (wOp fIx (wVar 0) (wC (.int 2))) wNil))) (wVar 1)))) (wVar 0) 1 [3,4]))
 (wIfS (wB (wOp fEq (wVar 5) (wLst wNil)))
 (wRet (wC (.bl false)))
 cQ))))
 (wRet (wC (.bl true))))
def onI (f:Int->D):D->D
 | .int k=>f k
 | _=>.non
theorem vp (f:Int->D) (n:Nat):((jo 0 n).filter fun _=>true).map (onI f)=(bR n).map f:=by
 rw [List.filter_eq_self.mpr fun _ _=>rfl]
 unfold jo bR
 rw [xaG,xaG]
 refine xbv fun i _=>?_
 show f (0+(i:Nat))=_
 rw [Int.zero_add]
 rfl
def nxD (l:List Stp) (s:Int):List Stp:=l.filter fun t=>decide (t.1=s)
def nxL (many:Int) (l:List Stp):List D:=(bR many.toNat).map fun s=>.list ((nxD l s).map stpD)
theorem Cj {many s:Int} (l:List Stp) (h0:0<=s) (h1:s<many):atI (nxL many l) s=some (.list ((nxD l s).map stpD)) :=
 yf (wV h0 (by simp [nxL,dX]; lia)) (by
  have:s.toNat<many.toNat:=by lia
  simp [nxL,bR,this,xa7 h0])
def isAt (s:Int):D->Bool
 | .tup [.int a,_,_]=>decide (a=s)
 | _=>false
theorem yH (l:List Stp) (s:Int):((l.map stpD).filter (isAt s)).map id=(nxD l s).map stpD:=by
 rw [List.map_id,xb9]
 rfl
theorem qT (l:List Stp):eqD (.list (l.map stpD)) (.list [])=decide (l=[]):=by
 rw [xa3,oh _ _ (show D.nb (.list (l.map stpD))=true from rP l) rfl,decide_eq_true_iff]
 cases l <;> simp
theorem uY {l:List Stp} {s:Int} {t:Stp}:t∈nxD l s↔t∈l/\t.1=s:=by
 unfold nxD
 rw [xaJ,decide_eq_true_iff]
def aV:SpD:=fun ds Q=>∃ (many:Int) (l:List Stp) (mp:Mp) (p q:Int),ds=[.list (nxL many l),.int p,.int q,.dT (kvM mp)]/\InP many (p,q)/\StIn many l/\∀ b,(b=true↔¬ Mss l (mpK mp) (p,q))->Q .sh (.bl b)
theorem i_ (ds Q) (h:aV ds Q):ds.length=["_law_nexts", "_law_p", "_law_q", "_law_missed"].length:=by obtain ⟨_,_,_,_,_,rfl,_⟩:=h; rfl
def isNt (d:Str) (e:Int) (ks:List P2):D->Bool
 | .tup [_,.str x,.int o]=>decide (x=d) && !decide ((e,o)∈ks)
 | _=>false
def ntD (l:List Stp) (q:Int) (d:Str) (e:Int) (ks:List P2):List Stp:=(nxD l q).filter fun t=>decide (t.2.1=d) && !decide ((e,t.2.2)∈ks)
theorem yl (l:List Stp) (q:Int) (d:Str) (e:Int) (ks:List P2):(((nxD l q).map stpD).filter (isNt d e ks)).map id=(ntD l q d e ks).map stpD:=by
 rw [List.map_id,xb9]
 rfl
theorem uQ {l:List Stp} {q e:Int} {d:Str} {ks:List P2}:ntD l q d e ks=[]↔∀ o,(q,d,o)∈l->(e,o)∈ks:=by
 constructor
 ·intro h o ho
  refine Classical.byContradiction fun z=>?_
  have:(q,d,o)∈ntD l q d e ks:=xaJ.mpr ⟨xaJ.mpr ⟨ho,decide_eq_true rfl⟩,by simp [z]⟩
  rw [h] at this
  exact nomatch this
 ·intro h
  refine xb5.mpr fun ⟨a,b,o⟩ hm=>?_
  obtain ⟨h1,h2⟩:=xaJ.mp hm
  obtain ⟨h5,h3⟩:=xaJ.mp h1
  rw [xay] at h2
  have h3:a=q:=of_decide_eq_true h3
  have h4:b=d:=of_decide_eq_true h2.1
  subst h3 h4
  have:=h2.2
  rw [decide_eq_true (h o h5)] at this
  exact nomatch this
theorem lK:∀ ds Q,aV ds Q->du { nx:=fun _=>Q .sh .non,rt:=Q } (aX 6 ds):=by
 rintro ds Q ⟨many,l,mp,p,q,rfl,hp,hin,h⟩
 unfold du
 walk_at "q"
 refine ⟨_,Cj l hp.1.1 hp.1.2,?_⟩
 walk_at "q"
 refine bO _ (fun j ρ=>∃ (o4 o5:Option Sl),(∀ t∈(nxD l p).take j,¬ ∀ o,(q,t.2.1,o)∈l->(t.2.2,o)∈mpK mp)/\ρ=[some (.sh (.list (nxL many l))),some (.sh (.int p)),some (.sh (.int q)),some (.sh (.dT (kvM mp))),o4,o5]) ⟨_,_,(fun p hp=>by simp at hp),rfl⟩ ?_ ?_
 ·rintro j x ρ hx ⟨o4,o5,hj,rfl⟩ N hN
  obtain ⟨a,d,e,rfl,hm2,tk2⟩:=vq hx
  have hm3:=uY.mp hm2
  have hm4:a=p:=hm3.2
  subst hm4
  walk_at "q"
  refine ⟨_,Cj l hp.2.1 hp.2.2,?_⟩
  walk_at "q"
  refine cJ (isNt d e (mpK mp)) id (fun ρ=>∃ o,ρ=[o,some (.sh (.dT (kvM mp))),some (.sh (.tup [.int a,.str d,.int e]))]) _ _ _ ⟨_,rfl⟩ ?_ ?_
  ·rintro y hy ρ ⟨o,rfl⟩ M1 M2 m1 m2
   obtain ⟨⟨b,c,f⟩,hy,rfl⟩:=xai.mp hy
   rw [show stpD (b,c,f)=.tup [.int b,.str c,.int f] from rfl] at m1 m2 ⊢
   walk_at "q"
   by_cases e1:c=d
   ·rw [decide_eq_true e1]
    walk_at "q"
    have e2:=fu mp (e,f)
    unfold p2K at e2
    rw [e2]
    by_cases e3:(e,f)∈mpK mp
    ·rw [decide_eq_true e3]
     exact m1 _ ⟨_,rfl⟩ (by simp [isNt,e3])
    ·rw [decide_eq_false e3]
     exact ⟨.inl rfl,m2 _ ⟨_,rfl⟩ (by simp [isNt,e1,e3])⟩
   ·rw [decide_eq_false e1]
    walk_at "q"
    exact m1 _ ⟨_,rfl⟩ (by simp [isNt,e1])
  rw [yl]
  refine ⟨wD 10 (fun s hs=>hin s (uY.mp (xaJ.mp hs).1).1),rfl,?_⟩
  rw [qT]
  by_cases z:ntD l q d e (mpK mp)=[]
  ·rw [decide_eq_true z]
   walk_at "q"
   exact h false ⟨(fun y=>by cases y),fun y=>absurd ⟨d,e,hm3.1,uQ.mp z⟩ y⟩
  ·rw [decide_eq_false z]
   walk_at "q"
   exact hN _ ⟨_,_,oU tk2 hj (fun y=>z (uQ.mpr y)),rfl⟩
 ·rintro ρ ⟨o4,o5,hj,rfl⟩
  rw [xad,xba] at hj
  walk_at "q"
  exact h true ⟨fun _ ⟨d,e,he,ho⟩=>hj (p,d,e) (uY.mpr ⟨he,rfl⟩) ho,fun _=>rfl⟩
def eO:WS :=
 (wSeq (wFrz 0 (wFor (gR (wOp fIx (wVar 0) (wVar 3))) (gT 2 (di (gN 5) (di (gN 6) ql)))
 (wFrz 5 (wFrz 4 (wIfS (wB (dg bK (ak (wVar 2) (ak (wVar 6) (ak (wGet (wVar 1) (wTup (ak (wVar 4) (ak (wVar 5) wNil))) (wLst wNil)) wNil)))))
 (qR [.inr 5,.inr 6])
 cQ)))))
 (wRet (wC .non)))
def bx:SpD:=fun ds Q=>∃ (many:Int) (l:List Stp) (kvs:Kn) (mp:Mp) (p q:Int),ds=[exD many l,.dT kvs,.dT (kvM mp),.int p,.int q]/\Ways l kvs/\InP many (p,q)/\(∀ d e,Mss l (mpK mp) (p,q)->Q .sh (.tup [.str d,.int e]))/\(¬ Mss l (mpK mp) (p,q)->Q .sh .non)
theorem jV (ds Q) (h:bx ds Q):ds.length=["exits", "ways", "missed", "p", "q"].length:=by obtain ⟨_,_,_,_,_,_,rfl,_⟩:=h; rfl
theorem vD {l:List Stp} {kvs:Kn} (h:Ways l kvs) {s:Int} {d:Str} {n:Md} {Q:Md->D->Prop} (q:∀ m,Q m (.list ((cR l s d).map .int))):gotG (getG kvs [.inl s,.inr d]) .sh n (.list []) Q:=by
 rw [h s d]
 by_cases z:cR l s d=[]
 ·rw [if_pos z]; have:=q n; rw [z] at this; exact this
 ·rw [if_neg z]; exact q .sh
theorem nG:∀ ds Q,bx ds Q->eO { nx:=fun _=>Q .sh .non,rt:=Q } (aX 7 ds):=by
 rintro ds Q ⟨many,l,kvs,mp,p,q,rfl,hw,hp,h1,h2⟩
 unfold eO
 walk_at "q"
 refine ⟨_,Hm l hp.1.1 hp.1.2,?_⟩
 walk_at "q"
 refine bO _ (fun j ρ=>∃ (o5 o6:Option Sl),(∀ t∈(exS l p).take j,¬ ∀ o,(q,t.1,o)∈l->(t.2,o)∈mpK mp)/\ρ=[some (.sh (exD many l)),some (.sh (.dT kvs)),some (.sh (.dT (kvM mp))),some (.sh (.int p)),some (.sh (.int q)),o5,o6]) ⟨_,_,(fun p hp=>by simp at hp),rfl⟩ ?_ ?_
 ·rintro j x ρ hx ⟨o5,o6,hj,rfl⟩ N hN
  obtain ⟨d,e,rfl,hm2,tk2⟩:=Gy hx
  walk_at "q"
  refine vD hw fun m=>?_
  refine ⟨mp,e,cR l q d,rfl,fun b hb=>?_⟩
  walk_at "q"
  have hb:b=true↔∀ o,(q,d,o)∈l->(e,o)∈mpK mp:=hb.trans ⟨fun z o ho=>z o (tM.mpr ho),fun z o ho=>z o (tM.mp ho)⟩
  refine R.B (fun z=>?_) fun z=>?_
  ·walk_at "q"
   exact h1 d e ⟨d,e,wz.mp hm2,hb.mp z⟩
  ·walk_at "q"
   exact hN _ ⟨_,_,oU tk2 hj (fun y=>by rw [hb.mpr y] at z; exact nomatch z),rfl⟩
 ·rintro ρ ⟨o5,o6,hj,rfl⟩
  rw [xad,xba] at hj
  walk_at "q"
  exact h2 fun ⟨d,e,he,ho⟩=>hj (d,e) (wz.mpr he) ho
def fQ:WS :=
 (wSeq (jD aR (ak (wVar 0) (ak (wVar 1) wNil)))
 (jD aR (ak (wVar 0) (ak (wVar 2) wNil))))
def aB:SpD:=fun ds Q=>∃ (many:Int) (l:List Stp) (p q:Int),ds=[mD many l,.int p,.int q]/\(InP many (p,q)->Q .sh .non)/\(¬ InP many (p,q)->Q (.ow false) (.str "NoState"))
theorem lO (ds Q) (h:aB ds Q):ds.length=["m", "p", "q"].length:=by obtain ⟨_,_,_,_,rfl,_⟩:=h; rfl
theorem o_:∀ ds Q,aB ds Q->fQ { nx:=fun _=>Q .sh .non,rt:=Q } (aX 3 ds):=by
 rintro ds Q ⟨many,l,p,q,rfl,h1,h2⟩
 unfold fQ
 walk_at "q"
 refine ⟨many,l,p,rfl,fun a=>?_,fun a=>?_⟩
 ·walk_at "q"
  refine ⟨many,l,q,rfl,fun b=>?_,fun b=>?_⟩
  ·walk_at "q"
   exact h1 ⟨a,b⟩
  ·walk_at "q"
   exact h2 fun z=>b z.2
 ·walk_at "q"
  exact h2 fun z=>a z.1
def bN:WS :=
 (wIfS (wAnd (wB (wOp fLt (wUn fLen (wVar 4)) (wC (.int 40)))) (wAnd (wB (wOp fLt (wOp fAdd (wOp fIx (wVar 8) (wC (.int 0))) (wVar 5)) (wVar 1))) (wB (wOp fNe (wOp fMod (wOp fDiv (wOp fDiv (wVar 3) (wC (.int 2))) (wOp fAdd (wOp fMul (wVar 6) (wVar 6)) (wC (.int 1)))) (wC (.int 4))) (wC (.int 1))))))
 (wSeq (wSet 9 (wOp fIx (wVar 8) (wC (.int 2))))
 (wSeq (wIfS (wAnd (wB (wOp fEq (wOp fMod (wOp fDiv (wOp fDiv (wVar 3) (wC (.int 3))) (wOp fAdd (wVar 6) (wC (.int 1)))) (wC (.int 2))) (wC (.int 1)))) (wB (wOp fLt (wOp fAdd (wVar 9) (wVar 5)) (wVar 1))))
 (wSet 9 (wOp fAdd (wVar 9) (wVar 5)))
 cQ)
 (pN (wpN 4) (wTup (ak (wOp fAdd (wOp fIx (wVar 8) (wC (.int 0))) (wVar 5)) (ak (wOp fIx (wVar 8) (wC (.int 1))) (ak (wVar 9) wNil)))) (wC (.bl true)))))
 cQ)
def bV:WS :=
 (wSeq (wIfS (wB (wOp fEq (wOp fMod (wOp fDiv (wVar 3) (wC (.int 4))) (wC (.int 4))) (wC (.int 3))))
 (wFor (dW (wOp fSub (wVar 1) (wC (.int 1)))) (gN 6)
 (pN (wpN 4) (wTup (ak (wVar 6) (ak (wOp fIx (wVar 2) (wC (.int 0))) (ak (wOp fAdd (wVar 6) (wC (.int 1))) wNil)))) (wC (.bl true))))
 cQ)
 (qR [.inr 1,.inl (wUn jl (wUn ue (wVar 4)))]))
def bW:WS :=
 (wSeq (wFrz 0 (wFor (sJ (wSl (wVar 0) (q_ (wC (.int 4))) (q_ (wC (.int 64))))) (gT 2 (di (gN 6) (di (gN 7) ql)))
 (wSeq (wSet 8 (wTup (ak (wOp fMod (wVar 7) (wVar 5)) (ak (wOp fIx (wVar 2) (wOp fMod (wOp fDiv (wOp fDiv (wVar 7) (wVar 5)) (wVar 5)) (wUn fLen (wVar 2)))) (ak (wOp fMod (wOp fDiv (wVar 7) (wVar 5)) (wVar 5)) wNil)))))
 (wSeq (wIfS (wB (wOp fLt (wUn fLen (wVar 4)) (wC (.int 40))))
 (pN (wpN 4) (wVar 8) (wC (.bl true)))
 cQ)
 bN))))
 bV)
def dD:WS :=
 (wSeq (wSet 3 (dg aD (ak (wVar 0) (ak (wC (.int 2)) wNil))))
 (wSeq (wIfS (wB (wOp fEq (wOp fMod (wOp fDiv (wVar 3) (wC (.int 4))) (wC (.int 4))) (wC (.int 2))))
 (wRet (dg bM (ak (wOp fDiv (wVar 3) (wC (.int 16))) (ak (wVar 1) (ak (wVar 2) wNil)))))
 cQ)
 (wSeq (wSet 4 iJ)
 (wSeq (wFrz 1 (wSet 5 (wVar 1)))
 (wSeq (wIfS (wB (wOp fEq (wOp fMod (wVar 3) (wC (.int 2))) (wC (.int 1))))
 (wSet 5 (wOp fDiv (wOp fAdd (wVar 1) (wC (.int 1))) (wC (.int 2))))
 cQ)
 bW)))))
def StN (many:Int) (names:List Str) (t:Stp):Prop:=StOk many t/\t.2.1∈names
def a_:SpD:=fun ds Q=>∃ (ns:List Int) (many:Int) (names:List Str),ds=[.list (ns.map .int),.int many,.list (names.map .str)]/\ns.length<=63/\(1<=many/\many<=8)/\1<=names.length/\names.length<=3/\(∀ n∈names,Deed n) /\
 ∀ l:List Stp,StIn many l->l.length<=1000->Q (.ow true) (mD many l)
theorem jd (ds Q) (h:a_ ds Q):ds.length=["_law_script", "_law_many", "_law_deeds_here"].length:=by obtain ⟨_,_,_,rfl,_⟩:=h; rfl
theorem yu {l:List Int} {i:Nat} {x:D} (h:(lQ (l.map D.int))[i]? = some x):∃ c,x=.tup [.int i,.int c]/\i<l.length:=by
 unfold lQ at h
 rw [List.getElem?_mapIdx,xaN] at h
 cases e:l[i]? with
 | none=>rw [e] at h; cases h
 | some c=>rw [e] at h; cases h; exact ⟨c,rfl,(xaw.mp e).1⟩
theorem dJ {N B:L2.Q.Env->Prop} {Q:Md->D->Prop} {ns:List Int} {many first low c a e:Int} {i:Nat} {n:Str} {names:List Str} {kvs:Kn} {o9:Option Sl} (hm:1<=many/\many<=8) (hlo:1<=low/\low<=many) (hd:∀ n∈names,Deed n) (hi:i<64) (ha:0<=a/\a<low) (he:0<=e/\e<low) (hn:n∈names) (hk:StD (StN many names) kvs) (hz:kvs.length<=500)
  (hN:∀ kv2 o9,StD (StN many names) kv2->kv2.length<=kvs.length+1->N [some (.sh (.list (ns.map .int))),some (.sh (.int many)),some (.sh (.list (names.map .str))),some (.sh (.int first)),some (.ow true (.dT kv2)),some (.sh (.int low)),some (.sh (.int i)),some (.sh (.int c)),some (.sh (.tup [.int a,.str n,.int e])),o9]) :
  bN { nx:=N,ct:=N,bk:=B,rt:=Q } [some (.sh (.list (ns.map .int))),some (.sh (.int many)),some (.sh (.list (names.map .str))),some (.sh (.int first)),some (.ow true (.dT kvs)),some (.sh (.int low)),some (.sh (.int i)),some (.sh (.int c)),some (.sh (.tup [.int a,.str n,.int e])),o9]:=by
 unfold bN
 have sq:0<=(i:Int) * i/\(i:Int) * i<=63 * 63:=⟨Int.mul_nonneg (by lia) (by lia),Int.mul_le_mul (by lia) (by lia) (by lia) (by lia)⟩
 have skip:=hN kvs o9 hk (by lia)
 have put:∀ f:Int,a+low<many->0<=f->f<many->kvs.length<16777216/\N [some (.sh (.list (ns.map .int))),some (.sh (.int many)),some (.sh (.list (names.map .str))),some (.sh (.int first)),some (.ow true (.dT (putG kvs (stpK (a+low,n,f)) (.bl true)))),some (.sh (.int low)),some (.sh (.int i)),some (.sh (.int c)),some (.sh (.tup [.int a,.str n,.int e])),some (.sh (.int f))]:=fun f e1 f0 f1 =>
  ⟨by lia,hN _ _ (hk.put (s:=(a+low,n,f)) ⟨⟨(by lia : 0<=a+low),e1,hd n hn,f0,f1⟩,hn⟩) (il kvs _ _)⟩
 walk_at "q"
 refine R.D (fun _=>?_) fun _=>?_
 ·walk_at "q"
  refine R.D (fun e1=>?_) fun e1=>?_
  ·walk_at "q"
   refine ⟨vJ (by lia) (by lia),by lia,?_⟩
   by_cases e2:first / 2 / ((i:Int) * i+1) % 4=1
   ·rw [decide_eq_true e2]
    walk_at "q"
    exact skip
   ·rw [decide_eq_false e2]
    walk_at "q"
    refine ⟨by lia,R.D (fun e3=>?_) fun e3=>?_⟩
    ·walk_at "q"
     refine R.D (fun e4=>?_) fun e4=>?_
     ·walk_at "q"
      exact put _ e1 (by lia) e4
     ·walk_at "q"
      exact put _ e1 he.1 (by lia)
    ·walk_at "q"
     exact put _ e1 he.1 (by lia)
  ·walk_at "q"
   exact skip
 ·walk_at "q"
  exact skip
theorem jb {Q:Md->D->Prop} {ns:List Int} {many first low:Int} {names:List Str} {kvs:Kn} {o6 o7 o8 o9:Option Sl} (hm:1<=many/\many<=8) (n1:1<=names.length) (hd:∀ n∈names,Deed n) (hk:StD (StN many names) kvs) (hz:kvs.length<=200)
  (h:∀ l:List Stp,StIn many l->l.length<=1000->Q (.ow true) (mD many l)):bV { nx:=fun _=>Q .sh .non,rt:=Q } [some (.sh (.list (ns.map .int))),some (.sh (.int many)),some (.sh (.list (names.map .str))),some (.sh (.int first)),some (.ow true (.dT kvs)),some (.sh (.int low)),o6,o7,o8,o9]:=by
 unfold bV
 obtain ⟨n,hn,en⟩:=jK (names:=names) (i:=0) (by lia) (by lia)
 have fin:∀ kvs:Kn,StD (StN many names) kvs->kvs.length<=300->jl (.ow true) (.list (kvs.map fun kv=>.tup (kv.1.map keyD))) (fun m x=>Q (pJ [(.sh,.int many),(m,x)]) (.tup [.int many,x])):=fun kvs hk hz=>hk.sorted fun l pm hs up hl=>h l (fun s m=>(hs s m).1) (by lia)
 walk_at "q"
 refine R.D (fun _=>?_) fun _=>?_
 ·walk_at "q"
  refine ⟨by lia,by lia,?_⟩
  refine bO _ (fun i ρ=>∃ (kvs:Kn) (o6:Option Sl),StD (StN many names) kvs/\kvs.length<=200+i/\ρ=[some (.sh (.list (ns.map .int))),some (.sh (.int many)),some (.sh (.list (names.map .str))),some (.sh (.int first)),some (.ow true (.dT kvs)),some (.sh (.int low)),o6,o7,o8,o9]) ⟨kvs,_,hk,by lia,rfl⟩ ?_ ?_
  ·rintro i x ρ hx ⟨kvs,o6,hk,hz,rfl⟩ N hN
   obtain ⟨hi,rfl⟩:=fW hx
   walk_at "q"
   refine ⟨_,en,?_⟩
   walk_at "q"
   refine ⟨by lia,hN _ ⟨_,_,hk.put (s:=(0+(i:Nat),n,0+(i:Nat)+1)) ⟨⟨(by lia : (0:Int)<=0+(i:Nat)),(by lia : (0:Int)+(i:Nat)<many),hd n hn,(by lia : (0:Int)<=0+(i:Nat)+1),(by lia : (0:Int)+(i:Nat)+1<many)⟩,hn⟩,xaz (il kvs _ _) (by lia),rfl⟩⟩
  ·rintro ρ ⟨kvs,o6,hk,hz,rfl⟩
   rw [ig] at hz
   walk_at "q"
   exact fin kvs hk (by lia)
 ·walk_at "q"
  exact fin kvs hk (by lia)
theorem eV {Q:Md->D->Prop} {ns:List Int} {many first low:Int} {names:List Str} (h63:ns.length<=63) (hm:1<=many/\many<=8) (hlo:1<=low/\low<=many) (n1:1<=names.length) (hd:∀ n∈names,Deed n)
  (h:∀ l:List Stp,StIn many l->l.length<=1000->Q (.ow true) (mD many l)):bW { nx:=fun _=>Q .sh .non,rt:=Q } [some (.sh (.list (ns.map .int))),some (.sh (.int many)),some (.sh (.list (names.map .str))),some (.sh (.int first)),some (.ow true (.dT [])),some (.sh (.int low)),none,none,none,none]:=by
 obtain ⟨w0,e0⟩:∃ w0,w0=bN:=⟨_,rfl⟩
 obtain ⟨w6,e6⟩:∃ w6,w6=bV:=⟨_,rfl⟩
 unfold bW
 rw [<- e0,<- e6]
 walk_at "q"
 refine .inl ⟨qw ns,?_⟩
 rw [wZ]
 have hc:=jh ns (some 4) (some 64)
 generalize cutG ns (some 4) (some 64)=cells at *
 refine bO _ (fun i ρ=>∃ (kvs:Kn) (o6 o7 o8 o9:Option Sl),StD (StN many names) kvs/\kvs.length<=2 * i/\ρ=[some (.sh (.list (ns.map .int))),some (.sh (.int many)),some (.sh (.list (names.map .str))),some (.sh (.int first)),some (.ow true (.dT kvs)),some (.sh (.int low)),o6,o7,o8,o9]) ⟨[],_,_,_,_,StD.nil,xar _,rfl⟩ ?_ ?_
 ·rintro i x ρ hx ⟨kvs,o6,o7,o8,o9,hk,hz,rfl⟩ N hN
  obtain ⟨c,rfl,hi⟩:=yu hx
  have a1:=fL c (show 0<low by lia)
  have a3:=fL (c / low) (show 0<low by lia)
  walk_at "q"
  obtain ⟨n,hn,e⟩:=name_mod (c / low / low) n1
  have pl:(putG kvs [.inl (c % low),.inr n,.inl (c / low % low)] (D.bl true)).length<=_:=il kvs (stpK ((c % low),n,(c / low % low))) (D.bl true)
  have hk1:=hk.put (s:=((c % low),n,(c / low % low))) (d:=.bl true) ⟨⟨a1.1,(by lia : (c % low)<many),hd n hn,a3.1,(by lia : (c / low % low)<many)⟩,hn⟩
  refine ⟨by lia,by lia,by lia,by lia,.str n,e,?_⟩
  walk_at "q"
  refine ⟨by lia,by lia,R.D (fun _=>?_) fun _=>?_⟩
  ·walk_at "q"
   rw [e0]
   refine ⟨by lia,dJ (a:=c % low) (e:=c / low % low) hm hlo hd (by lia) a1 a3 hn hk1 (by lia) fun kv2 o9 h2 hl2=>hN _ ⟨kv2,_,_,_,_,h2,by lia,rfl⟩⟩
  ·walk_at "q"
   rw [e0]
   exact dJ (a:=c % low) (e:=c / low % low) hm hlo hd (by lia) a1 a3 hn hk (by lia) fun kv2 o9 h2 hl2=>hN _ ⟨kv2,_,_,_,_,h2,by lia,rfl⟩
 ·rintro ρ ⟨kvs,o6,o7,o8,o9,hk,hz,rfl⟩
  have hz:kvs.length<=126:=by simp [lQ] at hz; lia
  rw [e6]
  exact jb hm n1 hd hk (by lia) h
theorem lE:∀ ds Q,a_ ds Q->dD { nx:=fun _=>Q .sh .non,rt:=Q } (aX 10 ds):=by
 rintro ds Q ⟨ns,many,names,rfl,h63,hm,n1,n3,hd,h⟩
 obtain ⟨w5,e5⟩:∃ w5,w5=bW:=⟨_,rfl⟩
 unfold dD
 rw [<- e5]
 walk_at "q"
 refine ⟨ns,2,rfl,by decide,?_⟩
 generalize ns.getD _ 0=first
 walk_at "q"
 refine R.D (fun _=>?_) fun _=>?_
 ·walk_at "q"
  refine ⟨_,many,names,rfl,hm,n1,n3,hd,fun l hin hl=>?_⟩
  exact h l hin hl
 ·walk_at "q"
  refine R.D (fun _=>?_) fun _=>?_
  ·walk_at "q"
   rw [e5]
   exact eV h63 hm (by lia) n1 hd h
  ·walk_at "q"
   rw [e5]
   exact eV h63 hm (by lia) n1 hd h
def dZ:WS :=
 (wSeq (wSet 1 (iC (dW (wOp fIx (wVar 0) (wC (.int 0)))) (gN 0) wYes (iC (iV (wOp fIx (wVar 1) (wC (.int 1)))) (gN 0) (wB (wOp fEq (wOp fIx (wVar 0) (wC (.int 0))) (wVar 1))) (wVar 0) 1 [0]) 1 [0]))
 (wSeq (wSet 2 (wLst wNil))
 (wSeq (wFor (dW (wOp fIx (wVar 0) (wC (.int 0)))) (gN 3)
 (wFrz 3 (wSet 2 (wOp fAdd (wVar 2) (iC (dW (wOp fIx (wVar 0) (wC (.int 0)))) (gN 0) wYes (wTup (ak (wVar 1) (ak (wVar 0) wNil))) 1 [3])))))
 (wSeq (wSet 4 iJ)
 (wSeq (wSet 5 (wC (.int 0)))
 (wSeq (wSet 6 (iC (iV (wVar 2)) (gN 0) (wNot (wB (dg aV (ak (wVar 1) (ak (wOp fIx (wVar 0) (wC (.int 0))) (ak (wOp fIx (wVar 0) (wC (.int 1))) (ak iJ wNil))))))) (wVar 0) 1 [1]))
 (wSeq (vm (wB (wOp fNe (wVar 6) (wLst wNil)))
 (wSeq (wSet 5 (wOp fAdd (wVar 5) (wC (.int 1))))
 (wSeq (wFrz 6 (wFor (gR (wVar 6)) (gN 7)
 (wFrz 5 (pN (wpN 4) (wVar 7) (wVar 5)))))
 (wSeq (wSet 8 (iC (iV (wVar 2)) (gN 0) (wB (wOp (fIn true) (wVar 0) (wVar 1))) (wVar 0) 1 [4]))
 (wSet 6 (iC (iV (wVar 8)) (gN 0) (wNot (wB (dg aV (ak (wVar 2) (ak (wOp fIx (wVar 0) (wC (.int 0))) (ak (wOp fIx (wVar 0) (wC (.int 1))) (ak (wVar 1) wNil))))))) (wVar 0) 1 [4,1]))))))
 (pW 4))))))))
def numD (n:Nat) (d:D):Prop:=d=.int n
def bA:SpD:=fun ds Q=>∃ (many:Int) (l:List Stp),ds=[mD many l]/\(1<=many/\many<=8)/\StIn many l/\l.length<=1000/\∀ mp,All many l numD mp->Q (.ow true) (.dT (kvM mp))
theorem k_ (ds Q) (h:bA ds Q):ds.length=["_law_m"].length:=by obtain ⟨_,_,rfl,_⟩:=h; rfl
def frB (l:List Stp) (ks:List P2) (x:P2):Bool:=@decide (Mss l ks x) (Classical.propDecidable _)
theorem iH {l:List Stp} {ks:List P2} {x:P2}:frB l ks x=true↔Mss l ks x:=@decide_eq_true_iff (Mss l ks x) (Classical.propDecidable _)
def frP (l:List Stp) (ks:List P2):D->Bool
 | .tup [.int p,.int q]=>frB l ks (p,q)
 | _=>false
def lfP (ks:List P2):D->Bool
 | .tup [.int p,.int q]=>decide ((p,q)∉ks)
 | _=>false
structure AllP (many:Int) (qs:List P2):Prop where
 nd:qs.Nodup
 mem:∀ x,x∈qs↔InP many x
structure Frs (many:Int) (l:List Stp) (mp:Mp) (fs:List P2):Prop where
 nd:fs.Nodup
 mem:∀ x,x∈fs↔InP many x/\x∉mpK mp/\Mss l (mpK mp) x
theorem zc (l:List Stp) (ks:List P2) (qs:List P2):((qs.map p2D).filter (frP l ks)).map id=(qs.filter (frB l ks)).map p2D:=by
 rw [List.map_id,xb9]
 rfl
theorem Dr (ks:List P2) (qs:List P2):((qs.map p2D).filter (lfP ks)).map id=(qs.filter fun x=>decide (x∉ks)).map p2D:=by
 rw [List.map_id,xb9]
 rfl
theorem AllP.frs {many:Int} {qs:List P2} (h:AllP many qs) (l:List Stp) (mp:Mp):Frs many l mp ((qs.filter fun x=>decide (x∉mpK mp)).filter (frB l (mpK mp))):=by
 refine ⟨(h.nd.filter _).filter _,fun x=>?_⟩
 rw [xaJ,xaJ,h.mem,decide_eq_true_eq,iH,and_assoc]
theorem AllP.frs0 {many:Int} {qs:List P2} (h:AllP many qs) (l:List Stp):Frs many l [] (qs.filter (frB l [])):=by
 refine ⟨h.nd.filter _,fun x=>?_⟩
 rw [xaJ,h.mem,iH]
 exact ⟨fun ⟨a,b⟩=>⟨a,(fun z=>nomatch z),b⟩,fun ⟨a,_,b⟩=>⟨a,b⟩⟩
def fsM (n:Nat) (fs:List P2):Mp:=fs.map fun x=>(x,.int n)
theorem oE (n:Nat) (fs:List P2):mpK (fsM n fs)=fs:=by simp [mpK,fsM,xaG,Function.comp_def]
theorem Frs.nxt {many:Int} {l:List Stp} {mp:Mp} {fs:List P2} (h:Frs many l mp fs) (n:Nat):Nxt many l mp (numD n) (fsM n fs):=by
 refine ⟨by rw [oE]; exact h.nd,fun x hx=>?_,fun p a b c=>by rw [oE]; exact (h.mem p).mpr ⟨a,b,c⟩⟩
 obtain ⟨y,hy,rfl⟩:=xai.mp hx
 obtain ⟨a,b,c⟩:=(h.mem y).mp hy
 exact ⟨a,b,c,rfl⟩
theorem vA (l:List P2):eqD (.list (l.map p2D)) (.list [])=decide (l=[]):=by
 rw [xa3,oh _ _ (show D.nb (.list (l.map p2D))=true from Bm l) rfl,decide_eq_true_iff]
 cases l <;> simp
theorem nW:∀ ds Q,bA ds Q->dZ { nx:=fun _=>Q .sh .non,rt:=Q } (aX 9 ds):=by
 rintro ds Q ⟨many,l,rfl,hm,hin,hl,h⟩
 unfold dZ mD
 walk_at "q"
 refine ⟨by lia,by lia,?_⟩
 refine cJ (fun _=>true) (onI fun s=>.list ((nxD l s).map stpD)) (fun ρ=>∃ o,ρ=[o,some (.sh (.tup [.int many,.list (l.map stpD)]))]) _ _ _ ⟨_,rfl⟩ ?_ ?_
 ·rintro x hx ρ ⟨o,rfl⟩ N1 N2 n1 n2
  obtain ⟨j,hj,rfl⟩:=xai.mp hx
  walk_at "q"
  refine cJ (isAt (0+(j:Nat))) id (fun ρ=>∃ o,ρ=[o,some (.sh (.int (0+(j:Nat))))]) _ _ _ ⟨_,rfl⟩ ?_ ?_
  ·rintro y hy ρ ⟨o,rfl⟩ M1 M2 m1 m2
   obtain ⟨⟨a,b,c⟩,hy,rfl⟩:=xai.mp hy
   rw [show stpD (a,b,c)=.tup [.int a,.str b,.int c] from rfl] at m1 m2 ⊢
   walk_at "q"
   by_cases e:a=0+(j:Nat)
   ·rw [if_pos (decide_eq_true e)]
    exact ⟨.inl rfl,m2 _ ⟨_,rfl⟩ (decide_eq_true e)⟩
   ·rw [if_neg (by rw [decide_eq_true_iff]; exact e)]
    exact m1 _ ⟨_,rfl⟩ (decide_eq_false e)
  rw [yH]
  exact ⟨.inr rfl,n2 _ ⟨_,rfl⟩ rfl⟩
 rw [vp,show (bR many.toNat).map (fun s=>D.list ((nxD l s).map stpD))=nxL many l from rfl]
 refine ⟨by lia,by lia,?_⟩
 refine bO _ (fun i ρ=>∃ (qs:List P2) (o3:Option Sl),qs.Nodup/\(∀ x,x∈qs↔InP many x/\x.1<i)/\ρ=[some (.sh (.tup [.int many,.list (l.map stpD)])),some (.ow true (.list (nxL many l))),some (.ow true (.list (qs.map p2D))),o3,none,none,none,none,none]) ⟨[],_,xaB,fun x=>⟨(fun z=>nomatch z),fun z=>?_⟩,rfl⟩ ?_ ?_
 ·have:=z.1.1.1
  have:=z.2
  lia
 ·rintro i x ρ hx ⟨qs,o3,nd,mem,rfl⟩ N hN
  obtain ⟨hi,rfl⟩:=fW hx
  have hql:=pairs_len nd fun x hx=>((mem x).mp hx).1
  have:many.toNat * many.toNat<=8 * 8:=xbQ (by lia) (by lia)
  walk_at "q"
  refine ⟨by lia,by lia,?_⟩
  refine cJ (fun _=>true) (onI fun s=>p2D (0+(i:Nat),s)) (fun ρ=>∃ o,ρ=[o,some (.sh (.int (0+(i:Nat))))]) _ _ _ ⟨_,rfl⟩ ?_ ?_
  ·rintro x hx ρ ⟨o,rfl⟩ N1 N2 n1 n2
   obtain ⟨j,hj,rfl⟩:=xai.mp hx
   walk_at "q"
   exact ⟨.inl rfl,n2 _ ⟨_,rfl⟩ rfl⟩
  rw [vp,show (bR many.toNat).map (fun s=>p2D (0+(i:Nat),s))=((bR many.toNat).map fun s=>((0+(i:Nat),s):P2)).map p2D by rw [xaG]; rfl]
  rw [xad,xad,dX]
  refine ⟨by lia,.inl ⟨rK _,rK _,hN _ ⟨qs++(bR many.toNat).map fun s=>((0+(i:Nat),s):P2),_,?_,fun x=>?_,by rw [xaF]⟩⟩⟩
  ·refine xaj.mpr ⟨nd,?_,fun a ha b hb e=>?_⟩
   ·unfold List.Nodup bR
    rw [xaG,xaR]
    exact List.nodup_range.imp fun h e=>h (Int.ofNat.inj (congrArg Prod.snd e))
   ·subst e
    obtain ⟨s,hs,rfl⟩:=xai.mp hb
    have:=((mem _).mp ha).2
    simp only at this
    lia
  ·rw [xaf,mem]
   constructor
   ·rintro (⟨a,b⟩ | z)
    ·exact ⟨a,by lia⟩
    ·obtain ⟨s,hs,rfl⟩:=xai.mp z
     have hs:=dO.mp hs
     exact ⟨⟨⟨(by lia : (0:Int)<=0+(i:Nat)),(by lia : (0:Int)+(i:Nat)<many)⟩,hs.1,(by lia : s<many)⟩,(by lia : (0:Int)+(i:Nat)<((i+1:Nat):Int))⟩
   ·rintro ⟨a,b⟩
    by_cases e:x.1<i
    ·exact .inl ⟨a,e⟩
    ·refine .inr (xai.mpr ⟨x.2,dO.mpr ⟨a.2.1,by have:=a.2.2; lia⟩,?_⟩)
     rw [show (0+(i:Nat):Int)=x.1 by lia]
 rintro ρ ⟨qs,o3,nd,mem,rfl⟩
 rw [ig] at mem
 have hq:AllP many qs:=⟨nd,fun x=>(mem x).trans ⟨fun z=>z.1,fun z=>⟨z,by have:=z.1.2; lia⟩⟩⟩
 clear mem nd
 walk_at "q"
 refine cJ (frP l []) id (fun ρ=>∃ o,ρ=[o,some (.sh (.list (nxL many l)))]) _ _ _ ⟨_,rfl⟩ ?_ ?_
 ·rintro y hy ρ ⟨o,rfl⟩ M1 M2 m1 m2
  obtain ⟨⟨p,q⟩,hy2,rfl⟩:=xai.mp hy
  rw [show p2D (p,q)=.tup [.int p,.int q] from rfl] at m1 m2 ⊢
  walk_at "q"
  refine ⟨many,l,[],p,q,rfl,(hq.mem _).mp hy2,hin,fun b hb=>?_⟩
  walk_at "q"
  cases b with
  | true=>exact m1 _ ⟨_,rfl⟩ (xcl.mpr fun z=>hb.mp rfl (iH.mp z))
  | false=>exact ⟨.inl rfl,m2 _ ⟨_,rfl⟩ (iH.mpr (Classical.byContradiction fun z=>nomatch hb.mpr z))⟩
 rw [zc]
 have h0:=hq.frs0 l
 generalize qs.filter (frB l [])=fs0 at *
 refine ⟨fun ρ=>∃ (n:Nat) (mp:Mp) (fs:List P2) (o7 o8:Option Sl),Rnd many l numD n mp/\Frs many l mp fs/\ρ=[some (.sh (.tup [.int many,.list (l.map stpD)])),some (.ow true (.list (nxL many l))),some (.ow true (.list (qs.map p2D))),o3,some (.ow true (.dT (kvM mp))),some (.sh (.int n)),some (.ow true (.list (fs.map p2D))),o7,o8],
  fun ρ=>match ρ with
   | [_,_,_,_,some (.ow _ (.dT kv)),_,_,_,_]=>64 - kv.length
   | _=>0,⟨0,[],fs0,_,_,Rnd.nil,h0,rfl⟩,?_⟩
 rintro ρ ⟨n,mp,fs,o7,o8,hr,hf,rfl⟩
 walk_at "q"
 refine ⟨Hu _ 10,rfl,?_⟩
 rw [vA]
 by_cases z:fs=[]
 ·subst z
  rw [decide_eq_true rfl]
  walk_at "q"
  exact h mp (hr.end hin (hf.nxt 0))
 ·rw [decide_eq_false z]
  walk_at "q"
  have hr2:=hr.next hin (hf.nxt (n+1))
  have hl2:=hr2.len (by lia)
  rw [xam] at hl2
  rw [show mp++fsM (n+1) fs=mp++fsM (n+1) (fs.take fs.length) by rw [xba]] at hr2
  rw [show (fsM (n+1) fs).length=fs.length from xad _] at hl2
  have hpos:0<fs.length:=List.length_pos_iff.mpr z
  refine bO _ (fun i ρ=>∃ (o7:Option Sl),ρ=[some (.sh (.tup [.int many,.list (l.map stpD)])),some (.ow true (.list (nxL many l))),some (.ow true (.list (qs.map p2D))),o3,some (.ow true (.dT (kvM (mp++fsM (n+1) (fs.take i))))),some (.sh (.int (n+1))),some (.sh (.list (fs.map p2D))),o7,o8]) ⟨o7,by simp [fsM]⟩ ?_ ?_
  ·rintro i x ρ hx ⟨o7,rfl⟩ N hN
   have hi:i<fs.length:=by have:=(xaw.mp hx).1; simpa using this
   have hx2:=hx
   rw [xaN,xa4 hi] at hx2
   obtain ⟨p,q,rfl,hm1,tk⟩:=Gv hx
   walk_at "q"
   have e1:=vy (mp:=mp++fsM (n+1) (fs.take i)) (x:=(p,q)) (.int (n+1)) fun y=>by
    rw [mpK,xaF,xaf] at y
    rcases y with y | y
    ·exact ((hf.mem _).mp hm1).2.1 y
    ·rw [show (fsM (n+1) (fs.take i)).map (·.1)=fs.take i from oE _ _] at y
     have nd:(fs.take (i+1)).Nodup:=hf.nd.sublist (List.take_sublist _ _)
     rw [tk] at nd
     exact (xaj.mp nd).2.2 _ y _ (xaH.mpr rfl) rfl
   unfold p2K at e1
   rw [e_,xam,show (fsM (n+1) (fs.take i)).length=(fs.take i).length from xad _,xaC]
   refine ⟨by lia,hN _ ⟨some (.sh (.tup [.int p,.int q])),?_⟩⟩
   rw [e1,tk]
   simp [fsM]
  ·rintro ρ ⟨o7,rfl⟩
   rw [xad]
   generalize hmp:mp++fsM (n+1) (fs.take fs.length)=mp2 at *
   have hl3:mp2.length=mp.length+fs.length:=by rw [<- hmp,xam,xba,show (fsM (n+1) fs).length=fs.length from xad _]
   walk_at "q"
   refine cJ (lfP (mpK mp2)) id (fun ρ=>∃ o,ρ=[o,some (.sh (.dT (kvM mp2)))]) _ _ _ ⟨_,rfl⟩ ?_ ?_
   ·rintro y hy ρ ⟨o,rfl⟩ M1 M2 m1 m2
    obtain ⟨⟨p,q⟩,hy2,rfl⟩:=xai.mp hy
    rw [show p2D (p,q)=.tup [.int p,.int q] from rfl] at m1 m2 ⊢
    walk_at "q"
    have e1:=fu mp2 (p,q)
    unfold p2K at e1
    rw [e1]
    by_cases y:(p,q)∈mpK mp2
    ·rw [decide_eq_true y]
     exact m1 _ ⟨_,rfl⟩ (by simp [lfP,y])
    ·rw [decide_eq_false y]
     exact ⟨.inl rfl,m2 _ ⟨_,rfl⟩ (by simp [lfP,y])⟩
   rw [Dr]
   refine cJ (frP l (mpK mp2)) id (fun ρ=>∃ o,ρ=[o,some (.sh (.dT (kvM mp2))),some (.sh (.list (nxL many l)))]) _ _ _ ⟨_,rfl⟩ ?_ ?_
   ·rintro y hy ρ ⟨o,rfl⟩ M1 M2 m1 m2
    obtain ⟨⟨p,q⟩,hy2,rfl⟩:=xai.mp hy
    rw [show p2D (p,q)=.tup [.int p,.int q] from rfl] at m1 m2 ⊢
    walk_at "q"
    refine ⟨many,l,mp2,p,q,rfl,(hq.mem _).mp (xaJ.mp hy2).1,hin,fun b hb=>?_⟩
    walk_at "q"
    cases b with
    | true=>exact m1 _ ⟨_,rfl⟩ (xcl.mpr fun z=>hb.mp rfl (iH.mp z))
    | false=>exact ⟨.inl rfl,m2 _ ⟨_,rfl⟩ (iH.mpr (Classical.byContradiction fun z=>nomatch hb.mpr z))⟩
   rw [zc]
   refine ⟨⟨n+1,mp2,_,_,_,hr2,hq.frs l mp2,rfl⟩,?_⟩
   rw [e_,e_]
   lia
def gF:WS :=
 (wSeq (wSet 4 iJ)
 (wSeq (wFor (dW (wUn fLen (wVar 0))) (gN 5)
 (wFor (dW (wUn fLen (wVar 0))) (gN 6)
 (wFrz 6 (wFrz 5 (wIfS (wB (wOp (fIn true) (wTup (ak (wVar 5) (ak (wVar 6) wNil))) (wVar 2)))
 (wSeq (wSet 7 (dg bx (ak (wVar 0) (ak (wVar 1) (ak (wVar 2) (ak (wVar 5) (ak (wVar 6) wNil)))))))
 (wIfS (wB (wOp Ax (wVar 7) (wC .non)))
 (wFrz 3 (pN (wpN 4) (wTup (ak (wVar 5) (ak (wVar 6) wNil))) (wTup (ak (wVar 3) (ak (wOp fIx (wVar 7) (wC (.int 0))) (ak (wOp fIx (wVar 7) (wC (.int 1))) wNil))))))
 cQ))
 cQ)))))
 (pW 4)))
def bD:SpD:=fun ds Q=>∃ (many:Int) (l:List Stp) (kvs:Kn) (mp:Mp) (n:Nat),ds=[exD many l,.dT kvs,.dT (kvM mp),.int n]/\(0<=many/\many<=8)/\Ways l kvs/\∀ fm,Nxt many l mp (rF n) fm->Q (.ow true) (.dT (kvM fm))
theorem oW (ds Q) (h:bD ds Q):ds.length=["exits", "ways", "missed", "turn"].length:=by obtain ⟨_,_,_,_,_,rfl,_⟩:=h; rfl
structure Nxu (many:Int) (l:List Stp) (mp:Mp) (g:D->Prop) (V:P2->Prop) (fm:Mp):Prop where
 nd:(mpK fm).Nodup
 inn:∀ x∈fm,InP many x.1/\x.1∉mpK mp/\Mss l (mpK mp) x.1/\g x.2
 vis:∀ x∈mpK fm,V x
 all:∀ p,InP many p->V p->p∉mpK mp->Mss l (mpK mp) p->p∈mpK fm
theorem Nxu.skip {many:Int} {l:List Stp} {mp:Mp} {g:D->Prop} {V W:P2->Prop} {fm:Mp} (h:Nxu many l mp g V fm) (hV:∀ x,V x->W x) (hn:∀ p,InP many p->W p->¬ V p->p∉mpK mp->¬ Mss l (mpK mp) p):Nxu many l mp g W fm:=⟨h.nd,h.inn,fun x hx=>hV x (h.vis x hx),fun p hp hw z ms=>by
 by_cases v:V p
 ·exact h.all p hp v z ms
 ·exact absurd ms (hn p hp hw v z)⟩
theorem Nxu.put {many:Int} {l:List Stp} {mp:Mp} {g:D->Prop} {V W:P2->Prop} {fm:Mp} (h:Nxu many l mp g V fm) (hV:∀ x,V x->W x) {x:P2} {d:D} (hn:∀ p,InP many p->W p->¬ V p->p=x) (hx:InP many x) (hm:x∉mpK mp) (ms:Mss l (mpK mp) x) (gd:g d) (nv:¬ V x) (hw:W x):Nxu many l mp g W (fm++[(x,d)]):=by
 have e:mpK (fm++[(x,d)])=mpK fm++[x]:=by simp [mpK]
 refine ⟨?_,fun y hy=>?_,fun y hy=>?_,fun p hp w z ms=>?_⟩
 ·rw [e]
  exact xaj.mpr ⟨h.nd,by simp,fun a ha b hb e=>nv (by rw [<- xaH.mp hb,<- e]; exact h.vis a ha)⟩
 ·rcases xaf.mp hy with hy | hy
  ·exact h.inn y hy
  ·rw [xaH.mp hy]; exact ⟨hx,hm,ms,gd⟩
 ·rw [e] at hy
  rcases xaf.mp hy with hy | hy
  ·exact hV y (h.vis y hy)
  ·rw [xaH.mp hy]; exact hw
 ·rw [e,xaf,xaH]
  by_cases v:V p
  ·exact .inl (h.all p hp v z ms)
  ·exact .inr (hn p hp w v)
theorem Nxu.len {many:Int} {l:List Stp} {mp:Mp} {g:D->Prop} {V:P2->Prop} {fm:Mp} (h:Nxu many l mp g V fm) (hm:many<=8):fm.length<=64:=by
 have:=pairs_len (many:=many) h.nd fun x hx=>by
  obtain ⟨y,hy,rfl⟩:=xai.mp hx
  exact (h.inn y hy).1
 rw [mpK,xad] at this
 have:many.toNat * many.toNat<=8 * 8:=xbQ (by lia) (by lia)
 lia
theorem qN:∀ ds Q,bD ds Q->gF { nx:=fun _=>Q .sh .non,rt:=Q } (aX 8 ds):=by
 rintro ds Q ⟨many,l,kvs,mp,n,rfl,hm,hw,h⟩
 unfold gF exD
 walk_at "q"
 rw [jM]
 refine ⟨by lia,by lia,?_⟩
 refine bO _ (fun i ρ=>∃ (fm:Mp) (o5 o6 o7:Option Sl),Nxu many l mp (rF n) (fun x=>x.1<i) fm/\ρ=[some (.sh (.list (exL many l))),some (.sh (.dT kvs)),some (.sh (.dT (kvM mp))),some (.sh (.int n)),some (.ow true (.dT (kvM fm))),o5,o6,o7]) ⟨[],_,_,_,⟨xaB,(fun x hx=>nomatch hx),(fun x hx=>nomatch hx),fun p hp v=>?_⟩,rfl⟩ ?_ ?_
 ·have:=hp.1.1
  lia
 ·rintro i x ρ hx ⟨fm,o5,o6,o7,hf,rfl⟩ N hN
  obtain ⟨hi,rfl⟩:=fW hx
  walk_at "q"
  rw [jM]
  refine ⟨by lia,by lia,?_⟩
  refine bO _ (fun j ρ=>∃ (fm:Mp) (o6 o7:Option Sl),Nxu many l mp (rF n) (fun x=>x.1<i\/(x.1=i/\x.2<j)) fm/\ρ=[some (.sh (.list (exL many l))),some (.sh (.dT kvs)),some (.sh (.dT (kvM mp))),some (.sh (.int n)),some (.ow true (.dT (kvM fm))),some (.sh (.int (0+(i:Nat)))),o6,o7]) ⟨fm,_,_,hf.skip (fun x h=>.inl h) (fun p hp w v=>?_),rfl⟩ ?_ ?_
  ·have:=hp.2.1
   lia
  ·rintro j x ρ hx ⟨fm,o6,o7,hf,rfl⟩ N hN
   obtain ⟨hj,rfl⟩:=fW hx
   have hfl:=hf.len hm.2
   have hp:InP many (0+(i:Nat),0+(j:Nat)):=⟨⟨(by lia : (0:Int)<=0+(i:Nat)),(by lia : (0:Int)+(i:Nat)<many)⟩,(by lia : (0:Int)<=0+(j:Nat)),(by lia : (0:Int)+(j:Nat)<many)⟩
   have only:∀ p:P2,(p.1<i\/(p.1=i/\p.2<((j+1:Nat):Int)))->¬ (p.1<i\/(p.1=i/\p.2<j))->p=((0+(i:Nat):Int),(0+(j:Nat):Int)):=fun p w v=>by
    obtain ⟨a,b⟩:=p
    simp only at w v
    rw [show a=0+(i:Nat) by lia,show b=0+(j:Nat) by lia]
   have up:∀ x:P2,(x.1<i\/(x.1=i/\x.2<j))->(x.1<i\/(x.1=i/\x.2<((j+1:Nat):Int))):=fun x h=>by lia
   generalize hx0:(0+(i:Nat):Int)=p at *
   generalize hy0:(0+(j:Nat):Int)=q at *
   walk_at "q"
   have e1:=fu mp (p,q)
   unfold p2K at e1
   rw [e1]
   by_cases z:(p,q)∈mpK mp
   ·rw [decide_eq_true z]
    walk_at "q"
    exact hN _ ⟨fm,_,_,hf.skip up fun x _ w v y=>absurd (only x w v ▸ z) y,rfl⟩
   ·rw [decide_eq_false z]
    walk_at "q"
    refine ⟨many,l,kvs,mp,p,q,rfl,hw,hp,fun d e ms=>?_,fun ms=>?_⟩
    ·walk_at "q"
     have e2:=vy (mp:=fm) (x:=(p,q)) (.tup [.int n,.str d,.int e]) fun y=>by have:=hf.vis _ y; simp only at this; lia
     unfold p2K at e2
     rw [e_,e2]
     exact ⟨by lia,hN _ ⟨_,_,_,hf.put up (fun x _ w v=>only x w v) hp z ms ⟨d,e,rfl⟩ (fun y=>by simp only at y; lia) (by simp only; lia),rfl⟩⟩
    ·walk_at "q"
     exact hN _ ⟨fm,_,_,hf.skip up fun x _ w v y=>only x w v ▸ ms,rfl⟩
  ·rintro ρ ⟨fm,o6,o7,hf,rfl⟩
   rw [ig] at hf
   exact hN _ ⟨fm,_,_,_,hf.skip (fun x h=>by lia) (fun p hp w v=>by have:=hp.2.2; lia),rfl⟩
 ·rintro ρ ⟨fm,o5,o6,o7,hf,rfl⟩
  rw [ig] at hf
  walk_at "q"
  exact h fm ⟨hf.nd,hf.inn,fun p hp=>hf.all p hp (by have:=hp.1.2; lia)⟩
def eZ:WS :=
 (wSeq (jD aB (ak (wVar 0) (ak (wVar 1) (ak (wVar 2) wNil))))
 tE)
def bh:SpD:=fun ds Q=>∃ (many:Int) (l:List Stp) (p q:Int),ds=[mD many l,.int p,.int q]/\¬ InP many (p,q)/\Q (.ow false) (.str "NoState")
theorem lB (ds Q) (h:bh ds Q):ds.length=["m", "p", "q"].length:=by obtain ⟨_,_,_,_,rfl,_⟩:=h; rfl
theorem qD:∀ ds Q,bh ds Q->eZ { nx:=fun _=>Q .sh .non,rt:=Q } (aX 6 ds):=by
 rintro ds Q ⟨many,l,p,q,rfl,a,h⟩
 unfold eZ
 walk_at "q"
 refine ⟨many,l,p,q,rfl,fun z=>absurd z a,fun _=>?_⟩
 walk_at "q"
 exact h
def jE:WS :=
 (wSeq (jD aB (ak (wVar 0) (ak (wVar 1) (ak (wVar 2) wNil))))
 tE)
def cI:SpD:=fun ds Q=>∃ (many:Int) (l:List Stp) (p q:Int),ds=[mD many l,.int p,.int q]/\¬ InP many (p,q)/\Q (.ow false) (.str "NoState")
theorem qO (ds Q) (h:cI ds Q):ds.length=["m", "p", "q"].length:=by obtain ⟨_,_,_,_,rfl,_⟩:=h; rfl
theorem vU:∀ ds Q,cI ds Q->jE { nx:=fun _=>Q .sh .non,rt:=Q } (aX 8 ds):=by
 rintro ds Q ⟨many,l,p,q,rfl,a,h⟩
 unfold jE
 walk_at "q"
 refine ⟨many,l,p,q,rfl,fun z=>absurd z a,fun _=>?_⟩
 walk_at "q"
 exact h
def gH:WS :=
 (wSeq (wSet 1 (dg cH (ak (wVar 0) wNil)))
 (wSeq (wSet 2 (dg cW (ak (wVar 0) wNil)))
 (wSeq (wSet 3 iJ)
 (wSeq (wSet 4 (wC (.int 1)))
 (wSeq (wSet 5 (dg bD (ak (wVar 1) (ak (wVar 2) (ak (wVar 3) (ak (wVar 4) wNil))))))
 (wSeq (vm (Bx 5)
 (wSeq (Bu 3 5)
 (wSeq (wSet 4 (wOp fAdd (wVar 4) (wC (.int 1))))
 (wSet 5 (dg bD (ak (wVar 1) (ak (wVar 2) (ak (wVar 3) (ak (wVar 4) wNil)))))))))
 (pW 3)))))))
def bF:SpD:=fun ds Q=>∃ (many:Int) (l:List Stp),ds=[mD many l]/\(0<=many/\many<=8)/\StIn many l/\l.length<=1000/\∀ mp,All many l rF mp->Q (.ow true) (.dT (kvM mp))
theorem oR (ds Q) (h:bF ds Q):ds.length=["m"].length:=by obtain ⟨_,_,rfl,_⟩:=h; rfl
theorem qy:∀ (fm:Mp),(∀ x∈fm,∃ n,rF n x.2)->flats ((kvM fm).map (·.2))=true
 | [],_=>rfl
 | x :: fm,h=>by
  obtain ⟨n,s,e,z⟩:=h x xac
  have:=qy fm fun y hy=>h y (xab _ hy)
  simp only [kvM,xaq,flats] at this ⊢
  rw [z,this]
  rfl
theorem rH:∀ ds Q,bF ds Q->gH { nx:=fun _=>Q .sh .non,rt:=Q } (aX 6 ds):=by
 rintro ds Q ⟨many,l,rfl,hm,hin,hl,h⟩
 unfold gH
 walk_at "q"
 refine ⟨many,l,rfl,by lia,hin,by lia,?_⟩
 walk_at "q"
 refine ⟨many,l,rfl,by lia,fun kvs hw=>?_⟩
 walk_at "q"
 refine ⟨many,l,kvs,[],1,rfl,hm,hw,fun fm hf=>?_⟩
 walk_at "q"
 refine ⟨fun ρ=>∃ (n:Nat) (mp fm:Mp),Rnd many l rF n mp/\Nxt many l mp (rF (n+1)) fm/\ρ=[some (.sh (mD many l)),some (.ow true (exD many l)),some (.ow true (.dT kvs)),some (.ow true (.dT (kvM mp))),some (.sh (.int ((n+1:Nat):Int))),some (.ow true (.dT (kvM fm)))],
  fun ρ=>match ρ with
   | [_,_,_,some (.ow _ (.dT kv)),_,_]=>64 - kv.length
   | _=>0,⟨0,[],fm,Rnd.nil,hf,rfl⟩,?_⟩
 rintro ρ ⟨n,mp,fm,hr,hf,rfl⟩
 walk_at "q"
 cases fm with
 | nil =>
  rw [show (!(kvM ([]:Mp)).isEmpty)=false from rfl]
  walk_at "q"
  exact h mp (hr.end hin hf)
 | cons x fm =>
  rw [show (!(kvM (x :: fm)).isEmpty)=true from rfl]
  walk_at "q"
  have hr2:=hr.next hin hf
  have hl2:=hr2.len hm.2
  rw [xam,xaK] at hl2
  refine ⟨fun p hp=>?_,qy _ fun y hy=>⟨_,(hf.inn y hy).2.2.2⟩,by rw [e_,e_,xaK]; lia,?_⟩
  ·obtain ⟨y,hy,rfl⟩:=xai.mp hp
   obtain ⟨⟨⟨a0,a1⟩,b0,b1⟩,nm,_⟩:=hf.inn y hy
   refine ⟨fun z=>nm ?_,y.1.1.toNat,y.1.2.toNat,by lia,by lia,?_⟩
   ·rw [oF] at z
    exact iu.mp z
   ·show p2K y.1=_
    unfold p2K
    rw [xa7 a0,xa7 b0]
  ·refine ⟨many,l,kvs,mp++x :: fm,n+2,by rw [show kvM (mp++x :: fm)=kvM mp++kvM (x :: fm) from xaF]; rfl,hm,hw,fun fm2 hf2=>?_⟩
   walk_at "q"
   refine ⟨⟨n+1,mp++x :: fm,fm2,hr2,hf2,?_⟩,?_⟩
   ·rw [show kvM (mp++x :: fm)=kvM mp++kvM (x :: fm) from xaF]
    rfl
   ·rw [xam,e_,e_,xaK]
    lia
def gD:WS :=
 (wSeq (jD aB (ak (wVar 0) (ak (wVar 1) (ak (wVar 2) wNil))))
 (wSeq (wSet 3 (dg bF (ak (wVar 0) wNil)))
 (wFrz 2 (wFrz 1 (wRet (wIf (wB (wOp (fIn false) (wTup (ak (wVar 1) (ak (wVar 2) wNil))) (wVar 3))) (wOp fIx (wOp fIx (wVar 3) (wTup (ak (wVar 1) (ak (wVar 2) wNil)))) (wC (.int 0))) (wC .non)))))))
def aK:SpD:=fun ds Q=>∃ (many:Int) (l:List Stp) (p q:Int),ds=[mD many l,.int p,.int q]/\(0<=many/\many<=8)/\StIn many l/\l.length<=1000/\(InP many (p,q)->∀ d,Told l (p,q) d->Q .sh d)/\(¬ InP many (p,q)->Q (.ow false) (.str "NoState"))
theorem oA (ds Q) (h:aK ds Q):ds.length=["m", "p", "q"].length:=by obtain ⟨_,_,_,_,rfl,_⟩:=h; rfl
theorem qP:∀ ds Q,aK ds Q->gD { nx:=fun _=>Q .sh .non,rt:=Q } (aX 4 ds):=by
 rintro ds Q ⟨many,l,p,q,rfl,hm,hin,hl,h1,h2⟩
 unfold gD
 walk_at "q"
 refine ⟨many,l,p,q,rfl,fun a=>?_,fun a=>?_⟩
 ·walk_at "q"
  refine ⟨many,l,rfl,hm,hin,hl,fun mp ha=>?_⟩
  walk_at "q"
  have e1:=fu mp (p,q)
  unfold p2K at e1
  rw [e1]
  by_cases z:(p,q)∈mpK mp
  ·rw [decide_eq_true z]
   walk_at "q"
   obtain ⟨d,e,hd⟩:=uW z
   obtain ⟨_,k,hk,s,x,rfl⟩:=ha.inn _ hd
   refine ⟨_,_,rfl,e,?_⟩
   walk_at "q"
   exact h1 a _ (.inl ⟨k,hk,rfl⟩)
  ·rw [decide_eq_false z]
   walk_at "q"
   exact h1 a _ (.inr ⟨ha.all _ a z,rfl⟩)
 ·walk_at "q"
  exact h2 a
def Aq:WS :=
 (wN aK (ak (wVar 0) (ak (wVar 1) (ak (wVar 2) wNil))))
def gK:SpD:=fun ds Q=>∃ (many:Int) (l:List Stp) (p q:Int),ds=[mD many l,.int p,.int q]/\(0<=many/\many<=8)/\StIn many l/\l.length<=1000/\(InP many (p,q)->∀ d,Told l (p,q) d->Q .sh (.bl d.isN))/\(¬ InP many (p,q)->Q (.ow false) (.str "NoState"))
theorem Ba (ds Q) (h:gK ds Q):ds.length=["m", "p", "q"].length:=by obtain ⟨_,_,_,_,rfl,_⟩:=h; rfl
theorem FN:∀ ds Q,gK ds Q->Aq { nx:=fun _=>Q .sh .non,rt:=Q } (aX 3 ds):=by
 rintro ds Q ⟨many,l,p,q,rfl,hm,hin,hl,h1,h2⟩
 unfold Aq
 walk_at "q"
 refine ⟨many,l,p,q,rfl,hm,hin,hl,fun a d hd=>?_,fun a=>?_⟩
 ·walk_at "q"
  exact h1 a d hd
 ·walk_at "q"
  exact h2 a
def eN:WS :=
 (wSeq (wIfS (wB (wOp fEq (wVar 0) (wC (.int 0))))
 (uq gK (ak (wVar 1) (ak (wVar 2) (ak (wVar 3) wNil))))
 cQ)
 (wSeq (wIfS (wB (wOp fEq (wVar 0) (wC (.int 1))))
 (uq bh (ak (wVar 1) (ak (wVar 2) (ak (wVar 3) wNil))))
 cQ)
 (wSeq (wIfS (wB (wOp fEq (wVar 0) (wC (.int 2))))
 (uq aK (ak (wVar 1) (ak (wVar 2) (ak (wVar 3) wNil))))
 cQ)
 (uq cI (ak (wVar 1) (ak (wVar 2) (ak (wVar 3) wNil)))))))
def bu:SpD:=fun ds Q=>∃ (w many:Int) (l:List Stp) (p q:Int),ds=[.int w,mD many l,.int p,.int q]/\(0<=many/\many<=8)/\StIn many l/\l.length<=1000/\¬ InP many (p,q)/\Q (.ow false) (.str "NoState")
theorem kh (ds Q) (h:bu ds Q):ds.length=["_law_way", "_law_m", "_law_p", "_law_q"].length:=by obtain ⟨_,_,_,_,_,rfl,_⟩:=h; rfl
theorem mZ:∀ ds Q,bu ds Q->eN { nx:=fun _=>Q .sh .non,rt:=Q } (aX 4 ds):=by
 rintro ds Q ⟨w,many,l,p,q,rfl,hm,hin,hl,a,h⟩
 unfold eN
 walk_at "q"
 refine R.D (fun _=>?_) fun _=>?_
 ·walk_at "q"
  refine ⟨many,l,p,q,rfl,hm,hin,hl,fun z=>absurd z a,fun _=>?_⟩
  walk_at "q"
  exact h
 ·walk_at "q"
  refine R.D (fun _=>?_) fun _=>?_
  ·walk_at "q"
   refine ⟨many,l,p,q,rfl,a,?_⟩
   walk_at "q"
   exact h
  ·walk_at "q"
   refine R.D (fun _=>?_) fun _=>?_
   ·walk_at "q"
    refine ⟨many,l,p,q,rfl,hm,hin,hl,fun z=>absurd z a,fun _=>?_⟩
    walk_at "q"
    exact h
   ·walk_at "q"
    refine ⟨many,l,p,q,rfl,a,?_⟩
    walk_at "q"
    exact h
def fU:WS :=
 (wSeq (wTry (zy 4 bu (ak (wVar 0) (ak (wVar 1) (ak (wVar 2) (ak (wVar 3) wNil))))) (fun a=>[none,none,none,none,none,some (.xc a),none]) (fun a n=>(wSeq (wSet 6 (wLst (ak (wIsx 5 a (decide (n = "NoMachine"))) (ak (wIsx 5 a (decide (n = "TooBig"))) (ak (wIsx 5 a (decide (n = "NoDeed"))) (ak (wIsx 5 a (decide (n = "NoText"))) wNil))))))
 (wSeq (wSet 6 (wOp fAdd (wVar 6) (wLst (ak (wIsx 5 a (decide (n = "NoFrame"))) (ak (wIsx 5 a (decide (n = "NoScroll"))) (ak (wIsx 5 a (decide (n = "NoName"))) wNil))))))
 (wSeq (wIfS (wOr (wB (wOp (fIn false) (wC (.bl true)) (wVar 6))) (wOr (wB (wIsx 5 a (decide (n = "NoRow")))) (wNot (wB (wIsx 5 a true)))))
 (wRet (wTup (ak (wC (.str "refused")) (ak (wC (.str "other")) wNil))))
 cQ)
 (wRet (wTup (ak (wC (.str "refused")) (ak (wIsx 5 a (decide (n = "NoState"))) wNil)))))))))
 (qR [.inl (wC (.str "told")),.inr 4]))
def bj:SpD:=fun ds Q=>∃ (w many:Int) (l:List Stp) (p q:Int),ds=[.int w,mD many l,.int p,.int q]/\(0<=many/\many<=8)/\StIn many l/\l.length<=1000/\¬ InP many (p,q)/\Q .sh (.tup [.str "refused",.bl true])
theorem lC (ds Q) (h:bj ds Q):ds.length=["_law_way", "_law_m", "_law_p", "_law_q"].length:=by obtain ⟨_,_,_,_,_,rfl,_⟩:=h; rfl
theorem pq:∀ ds Q,bj ds Q->fU { nx:=fun _=>Q .sh .non,rt:=Q } (aX 7 ds):=by
 rintro ds Q ⟨w,many,l,p,q,rfl,hm,hin,hl,a,h⟩
 unfold fU
 walk_at "q"
 refine ⟨w,many,l,p,q,rfl,hm,hin,hl,a,?_⟩
 walk_at "q"
 intro z
 refine .inl ⟨rfl,rfl,R.F (by decide) ?_⟩
 walk_at "q"
 refine R.F (by decide) ?_
 walk_at "q"
 exact h
def jj:WS :=
 (wFrz 6 (wFrz 8 (wFor (wG (wTup (ak (wTup (ak (wVar 8) (ak (wVar 6) wNil))) (ak (wTup (ak (wVar 6) (ak (wVar 8) wNil))) wNil)))) (gT 2 (di (gN 9) (di (gN 10) ql)))
 (wSeq (wSet 11 (sX aK (ak (wVar 3) (ak (wVar 9) (ak (wVar 10) wNil)))))
 (wFrz 10 (wFrz 9 (wIfS (wOr (wB (wUn (fIsi "bool") (wVar 11))) (wB (wOp fNe (wVar 11) (wGet (wVar 5) (wTup (ak (wVar 9) (ak (wVar 10) wNil))) (wC .non)))))
 (wRet (wC (.bl false)))
 cQ)))))))
def jg:WS :=
 (wFor (dW (wC (.int 4))) (gN 14)
 (wSeq (wIfS (wB (wOp fNe (dg bj (ak (wVar 14) (ak (wVar 3) (ak (wVar 13) (ak (wVar 6) wNil))))) (wTup (ak (wC (.str "refused")) (ak (wC (.bl true)) wNil)))))
 (wRet (wC (.bl false)))
 cQ)
 (wIfS (wB (wOp fNe (dg bj (ak (wVar 14) (ak (wVar 3) (ak (wVar 6) (ak (wVar 13) wNil))))) (wTup (ak (wC (.str "refused")) (ak (wC (.bl true)) wNil)))))
 (wRet (wC (.bl false)))
 cQ)))
def sH:WS :=
 (wRet (wOp fEq (wVar 3) (wVar 4)))
def n6:WS :=
 (wSeq (wFrz 1 (wFor (wG (wTup (ak (wUn fNeg (wC (.int 1))) (ak (wOp fSub (wUn fNeg (wC (.int 1))) (wOp fMod (wVar 2) (wOp fPow (wC (.int 10)) (wC (.int 59))))) (ak (wVar 1) (ak (wOp fAdd (wVar 1) (wOp fMod (wVar 2) (wOp fPow (wC (.int 10)) (wC (.int 59))))) wNil)))))) (gN 13)
 jg))
 sH)
def uR:WS :=
 (wSeq (wFrz 6 (wIfS (wOr (wNot (wB (wUn (fIsi "bool") (wVar 12)))) (wB (wOp fNe (wVar 12) (wOp (fIn true) (wTup (ak (wVar 6) (ak (wOp fMod (wVar 2) (wVar 1)) wNil))) (wVar 5)))))
 (wRet (wC (.bl false)))
 cQ))
 n6)
def mU:WS :=
 (wSeq (wSet 12 (sX gK (ak (wVar 3) (ak (wVar 6) (ak (wOp fMod (wVar 2) (wVar 1)) wNil)))))
 uR)
def uN:WS :=
 (wSeq (wFor (dW (wOp z9 (wVar 1) (wC (.int 5)))) (gN 7)
 (wSeq (wSet 8 (wOp fMod (wOp fAdd (wOp fDiv (wVar 2) (wC (.int 7))) (wVar 7)) (wVar 1)))
 jj))
 mU)
def mW:WS :=
 (wSeq (wFrz 1 (wSet 4 (wTup (ak (wVar 1) (ak (wUn ue (wOp fIx (wVar 3) (wC (.int 1)))) wNil)))))
 (wSeq (wSet 5 (dg bA (ak (wVar 4) wNil)))
 (wSeq (wSet 6 (wOp fMod (dg aD (ak (wVar 0) (ak (wC (.int 3)) wNil))) (wVar 1)))
 uN)))
def Bp:WS :=
 (wSeq (wSet 1 (wOp fAdd (wC (.int 1)) (wOp fMod (dg aD (ak (wVar 0) (ak (wC (.int 0)) wNil))) (wC (.int 8)))))
 (wSeq (wSet 2 (dg aD (ak (wVar 0) (ak (wC (.int 1)) wNil))))
 (wSeq (wSet 3 (dg a_ (ak (wVar 0) (ak (wVar 1) (ak (dg bJ (ak (wVar 2) wNil)) wNil)))))
 mW)))
abbrev sp_law:SpD:=spLaw
theorem BZ (ds Q) (h:sp_law ds Q):ds.length=["_law_script"].length:=by obtain ⟨_,rfl,_⟩:=h; rfl
theorem All.told {many:Int} {l:List Stp} {mp:Mp} (h:All many l numD mp) {p:P2} (hp:InP many p):∃ d,Told l p d/\(∀ m n Q,(∀ m,Q m d)->gotG (getG (kvM mp) (p2K p)) m n .non Q)/\d.isN=decide (p∉mpK mp):=by
 by_cases z:p∈mpK mp
 ·obtain ⟨d,e,hd⟩:=uW z
  obtain ⟨_,k,hk,rfl⟩:=h.inn _ hd
  exact ⟨_,.inl ⟨k,hk,rfl⟩,fun m n Q q=>by rw [e]; exact q _,by simp [z,D.isN]⟩
 ·exact ⟨_,.inr ⟨h.all p hp z,rfl⟩,fun m n Q q=>by rw [qK z]; exact q _,by simp [z,D.isN]⟩
theorem xm {N B:L2.Q.Env->Prop} {Q:Md->D->Prop} {ns:List Int} {many far one:Int} {l:List Stp} {mp:Mp} {k st:Int} {o9 o10 o11:Option Sl} (hm:1<=many/\many<=8) (hin:StIn many l) (hl:l.length<=1000) (ha:All many l numD mp) (h1:0<=one/\one<many) (h2:0<=st/\st<many)
  (hN:∀ o9 o10 o11,N [some (.sh (.list (ns.map .int))),some (.sh (.int many)),some (.sh (.int far)),some (.ow true (.tup [.int many,.list (l.map stpD)])),some (.ow true (.tup [.int many,.list (l.map stpD)])),some (.ow true (.dT (kvM mp))),some (.sh (.int one)),some (.sh (.int k)),some (.sh (.int st)),o9,o10,o11,none,none,none]) :
  jj { nx:=N,ct:=N,bk:=B,rt:=Q } [some (.sh (.list (ns.map .int))),some (.sh (.int many)),some (.sh (.int far)),some (.ow true (.tup [.int many,.list (l.map stpD)])),some (.ow true (.tup [.int many,.list (l.map stpD)])),some (.ow true (.dT (kvM mp))),some (.sh (.int one)),some (.sh (.int k)),some (.sh (.int st)),o9,o10,o11,none,none,none]:=by
 unfold jj
 walk_at "q"
 refine bO _ (fun i ρ=>∃ o9 o10 o11:Option Sl,ρ=[some (.sh (.list (ns.map .int))),some (.sh (.int many)),some (.sh (.int far)),some (.ow true (.tup [.int many,.list (l.map stpD)])),some (.ow true (.tup [.int many,.list (l.map stpD)])),some (.ow true (.dT (kvM mp))),some (.sh (.int one)),some (.sh (.int k)),some (.sh (.int st)),o9,o10,o11,none,none,none]) ⟨_,_,_,rfl⟩ ?_ ?_
 ·rintro i x ρ hx ⟨o9,o10,o11,rfl⟩ N hN
  obtain ⟨p,q,rfl,hp⟩:∃ p q:Int,x=.tup [.int p,.int q]/\InP many (p,q):=by
   have:=xaL hx
   simp only [xak,xbf,or_false] at this
   rcases this with e | e
   ·exact ⟨_,_,e,h2,h1⟩
   ·exact ⟨_,_,e,h1,h2⟩
  walk_at "q"
  refine ⟨many,l,p,q,rfl,by lia,hin,hl,fun _ d hd=>?_,fun z=>absurd hp z⟩
  obtain ⟨d2,hd2,hg,_⟩:=ha.told hp
  have e:=hd.uniq hd2
  subst e
  have fin:=hN _ ⟨some (.sh (.int p)),some (.sh (.int q)),some (.sh d),rfl⟩
  have cs:(∃ n:Nat,d=.int n)\/d=.non:=by
   rcases hd with ⟨n,_,e⟩ | ⟨_,e⟩
   ·exact .inl ⟨n,e⟩
   ·exact .inr e
  rcases cs with ⟨n,rfl⟩ | rfl
  ·walk_at "q"
   refine R.F (by decide) ?_
   walk_at "q"
   refine hg _ _ _ fun m=>?_
   walk_at "q"
   exact fin
  ·walk_at "q"
   refine R.F (by decide) ?_
   walk_at "q"
   refine hg _ _ _ fun m=>?_
   refine ⟨by decide +kernel,by decide +kernel,R.F (by decide +kernel) ?_⟩
   walk_at "q"
   exact fin
 ·rintro ρ ⟨o9,o10,o11,rfl⟩
  exact hN _ _ _
theorem xx {N B:L2.Q.Env->Prop} {Q:Md->D->Prop} {ns:List Int} {many far one:Int} {l:List Stp} {mp:Mp} {w:Int} {o7 o8 o9 o10 o11 o12 o14:Option Sl} (hm:1<=many/\many<=8) (hin:StIn many l) (hl:l.length<=1000) (ha:All many l numD mp) (h1:0<=one/\one<many) (hw:¬ (0<=w/\w<many))
  (hN:∀ o14,N [some (.sh (.list (ns.map .int))),some (.sh (.int many)),some (.sh (.int far)),some (.ow true (.tup [.int many,.list (l.map stpD)])),some (.ow true (.tup [.int many,.list (l.map stpD)])),some (.ow true (.dT (kvM mp))),some (.sh (.int one)),o7,o8,o9,o10,o11,o12,some (.sh (.int w)),o14]) :
  jg { nx:=N,ct:=N,bk:=B,rt:=Q } [some (.sh (.list (ns.map .int))),some (.sh (.int many)),some (.sh (.int far)),some (.ow true (.tup [.int many,.list (l.map stpD)])),some (.ow true (.tup [.int many,.list (l.map stpD)])),some (.ow true (.dT (kvM mp))),some (.sh (.int one)),o7,o8,o9,o10,o11,o12,some (.sh (.int w)),o14]:=by
 unfold jg
 walk_at "q"
 refine bO _ (fun i ρ=>∃ o14:Option Sl,ρ=[some (.sh (.list (ns.map .int))),some (.sh (.int many)),some (.sh (.int far)),some (.ow true (.tup [.int many,.list (l.map stpD)])),some (.ow true (.tup [.int many,.list (l.map stpD)])),some (.ow true (.dT (kvM mp))),some (.sh (.int one)),o7,o8,o9,o10,o11,o12,some (.sh (.int w)),o14]) ⟨_,rfl⟩ ?_ ?_
 ·rintro i x ρ hx ⟨o14,rfl⟩ N hN
  obtain ⟨hi,rfl⟩:=fW hx
  walk_at "q"
  refine ⟨_,many,l,w,one,rfl,by lia,hin,hl,fun z=>hw z.1,?_⟩
  walk_at "q"
  refine ⟨by decide +kernel,by decide +kernel,R.F (by decide +kernel) ?_⟩
  walk_at "q"
  refine ⟨_,many,l,one,w,rfl,by lia,hin,hl,fun z=>hw z.2,?_⟩
  walk_at "q"
  refine ⟨by decide +kernel,by decide +kernel,R.F (by decide +kernel) ?_⟩
  walk_at "q"
  exact hN _ ⟨_,rfl⟩
 ·rintro ρ ⟨o14,rfl⟩
  exact hN _
theorem Bq {Q:Md->D->Prop} {ns:List Int} {many far one:Int} {l:List Stp} {mp:Mp} {o7 o8 o9 o10 o11 o12:Option Sl} (hm:1<=many/\many<=8) (hin:StIn many l) (hl:l.length<=1000) (ha:All many l numD mp) (h1:0<=one/\one<many) (h:∀ m,Q m (.bl true)) :
  n6 { nx:=fun _=>Q .sh .non,rt:=Q } [some (.sh (.list (ns.map .int))),some (.sh (.int many)),some (.sh (.int far)),some (.ow true (.tup [.int many,.list (l.map stpD)])),some (.ow true (.tup [.int many,.list (l.map stpD)])),some (.ow true (.dT (kvM mp))),some (.sh (.int one)),o7,o8,o9,o10,o11,o12,none,none]:=by
 obtain ⟨w1,e1⟩:∃ w1,w1=jg:=⟨_,rfl⟩
 unfold n6 sH
 rw [<- e1]
 walk_at "q"
 have p1:=xb8 far (show (100000000000000000000000000000000000000000000000000000000000:Int)≠0 by decide)
 generalize far % 100000000000000000000000000000000000000000000000000000000000=big at *
 have cp:CPow 10 59:=by unfold CPow; decide
 refine ⟨cp,cp,?_⟩
 refine bO _ (fun i ρ=>∃ (o13 o14:Option Sl),ρ=[some (.sh (.list (ns.map .int))),some (.sh (.int many)),some (.sh (.int far)),some (.ow true (.tup [.int many,.list (l.map stpD)])),some (.ow true (.tup [.int many,.list (l.map stpD)])),some (.ow true (.dT (kvM mp))),some (.sh (.int one)),o7,o8,o9,o10,o11,o12,o13,o14]) ⟨_,_,rfl⟩ ?_ ?_
 ·rintro i x ρ hx ⟨o13,o14,rfl⟩ N hN
  obtain ⟨w,rfl,hw⟩:∃ w:Int,x=.int w/\¬ (0<=w/\w<many):=by
   have:=xaL hx
   simp only [xak,xbf,or_false] at this
   rcases this with e | e | e | e <;> exact ⟨_,e,by lia⟩
  walk_at "q"
  rw [e1]
  exact xx hm hin hl ha h1 hw fun o14=>hN _ ⟨_,_,rfl⟩
 ·rintro ρ ⟨o13,o14,rfl⟩
  walk_at "q"
  refine ⟨m_ok 9 hin,m_ok 9 hin,?_⟩
  rw [show eqD (.tup [.int many,.list (l.map stpD)]) (.tup [.int many,.list (l.map stpD)])=true from eq_self (nb_m _ _)]
  exact h _
theorem zK {Q:Md->D->Prop} {ns:List Int} {many far one:Int} {l:List Stp} {mp:Mp} {o7 o8 o9 o10 o11:Option Sl} (hm:1<=many/\many<=8) (hin:StIn many l) (hl:l.length<=1000) (ha:All many l numD mp) (h1:0<=one/\one<many) (h:∀ m,Q m (.bl true)) :
  mU { nx:=fun _=>Q .sh .non,rt:=Q } [some (.sh (.list (ns.map .int))),some (.sh (.int many)),some (.sh (.int far)),some (.ow true (.tup [.int many,.list (l.map stpD)])),some (.ow true (.tup [.int many,.list (l.map stpD)])),some (.ow true (.dT (kvM mp))),some (.sh (.int one)),o7,o8,o9,o10,o11,none,none,none]:=by
 obtain ⟨w9,e9⟩:∃ w9,w9=n6:=⟨_,rfl⟩
 unfold mU uR
 rw [<- e9]
 have h2:=fL far (show 0<many by lia)
 have hp:InP many (one,far % many):=⟨h1,h2⟩
 walk_at "q"
 refine ⟨by lia,many,l,one,far % many,rfl,by lia,hin,hl,fun _ d hd=>?_,fun z=>absurd hp z⟩
 obtain ⟨d2,hd2,_,hi⟩:=ha.told hp
 have e:=hd.uniq hd2
 subst e
 rw [hi]
 walk_at "q"
 refine R.F (by decide) ?_
 walk_at "q"
 have e1:=fu mp (one,far % many)
 unfold p2K at e1
 rw [e1]
 refine ⟨by lia,R.F (by by_cases z:(one,far % many)∈mpK mp <;> simp [z]) ?_⟩
 walk_at "q"
 rw [e9]
 exact Bq hm hin hl ha h1 h
theorem Ay {Q:Md->D->Prop} {ns:List Int} {many far:Int} {l:List Stp} (hm:1<=many/\many<=8) (hin:StIn many l) (hl:l.length<=1000) (h:∀ m,Q m (.bl true)) :
  mW { nx:=fun _=>Q .sh .non,rt:=Q } [some (.sh (.list (ns.map .int))),some (.sh (.int many)),some (.sh (.int far)),some (.ow true (.tup [.int many,.list (l.map stpD)])),none,none,none,none,none,none,none,none,none,none,none]:=by
 obtain ⟨w7,e7⟩:∃ w7,w7=mU:=⟨_,rfl⟩
 obtain ⟨w0,e0⟩:∃ w0,w0=jj:=⟨_,rfl⟩
 unfold mW uN
 rw [<- e7,<- e0]
 walk_at "q"
 refine .inl ⟨qH _,?_⟩
 refine ⟨many,l,rfl,hm,hin,hl,fun mp ha=>?_⟩
 walk_at "q"
 refine ⟨ns,3,rfl,by decide,?_⟩
 generalize ns.getD _ 0=c3
 have h1:=fL c3 (show 0<many by lia)
 walk_at "q"
 refine ⟨by lia,?_⟩
 generalize c3 % many=one at *
 refine ⟨by split <;> lia,by split <;> lia,?_⟩
 refine bO _ (fun i ρ=>∃ (o7 o8 o9 o10 o11:Option Sl),ρ=[some (.sh (.list (ns.map .int))),some (.sh (.int many)),some (.sh (.int far)),some (.ow true (.tup [.int many,.list (l.map stpD)])),some (.ow true (.tup [.int many,.list (l.map stpD)])),some (.ow true (.dT (kvM mp))),some (.sh (.int one)),o7,o8,o9,o10,o11,none,none,none]) ⟨_,_,_,_,_,rfl⟩ ?_ ?_
 ·rintro i x ρ hx ⟨o7,o8,o9,o10,o11,rfl⟩ N hN
  obtain ⟨hi,rfl⟩:=fW hx
  have h2:=fL (far / 7+(0+(i:Nat))) (show 0<many by lia)
  walk_at "q"
  rw [e0]
  exact ⟨by lia,xm hm hin hl ha h1 h2 fun o9 o10 o11=>hN _ ⟨_,_,_,_,_,rfl⟩⟩
 ·rintro ρ ⟨o7,o8,o9,o10,o11,rfl⟩
  rw [e7]
  exact zK hm hin hl ha h1 h
theorem Gh:∀ ds Q,sp_law ds Q->Bp { nx:=fun _=>Q .sh .non,rt:=Q } (aX 15 ds):=by
 rintro ds Q ⟨ns,rfl,hn,h⟩
 obtain ⟨w3,e3⟩:∃ w3,w3=mW:=⟨_,rfl⟩
 unfold Bp
 rw [<- e3]
 walk_at "q"
 refine ⟨ns,0,rfl,by decide,?_⟩
 generalize ns.getD _ 0=cell
 have b1:=fL cell (show (0:Int)<8 by decide)
 obtain ⟨many,em,hm⟩:∃ many:Int,many=1+cell % 8/\1<=many/\many<=8:=⟨_,rfl,by lia,by lia⟩
 walk_at "q"
 rw [<- em]
 refine ⟨ns,1,rfl,by decide,?_⟩
 generalize ns.getD _ 0=far
 walk_at "q"
 refine ⟨far,rfl,fun names n1 n3 hd=>?_⟩
 walk_at "q"
 refine ⟨ns,many,names,rfl,hn,hm,n1,n3,hd,fun l hin hl=>?_⟩
 walk_at "q"
 rw [e3]
 exact Ay hm hin hl h
def top (i:Nat):Stmt:=PySem.Challenge.pw_kinlook_k54_rounds_of_following.main.body.getD i (.Pass ⟨0,0,0,0⟩)
abbrev aL:Stmt:=top 12
abbrev gn:List Str:=["m", "state"]
abbrev dI:Stmt:=top 13
abbrev uH:List Str:=["m", "ways", "start", "deed", "end"]
abbrev cC:Stmt:=top 14
abbrev jx:List Str:=["m", "exits", "start", "deed", "end"]
abbrev b8:Stmt:=top 20
abbrev nj:List Str:=["missed", "end", "others", "other"]
abbrev bL:Stmt:=top 21
abbrev lJ:List Str:=["exits", "ways", "missed", "p", "q", "deed", "end"]
abbrev cG:Stmt:=top 22
abbrev qz:List Str:=["exits", "ways", "missed", "turn", "found", "p", "q", "step"]
abbrev cD:Stmt:=top 23
abbrev qp:List Str:=["m", "exits", "ways", "missed", "turn", "found"]
abbrev aU:Stmt:=top 24
abbrev ir:List Str:=["m", "p", "q"]
abbrev aZ:Stmt:=top 25
abbrev iM:List Str:=["m", "p", "q", "missed"]
abbrev lG:Stmt:=top 26
abbrev yI:List Str:=["m", "p", "q"]
abbrev aQ:Stmt:=top 27
abbrev gP:List Str:=["m", "p", "q", "missed", "pairs", "a"]
abbrev bQ:Stmt:=top 29
abbrev mC:List Str:=["m", "p", "q", "missed", "ways", "sheet", "numbers", "pair"]
abbrev bz:Stmt:=top 31
abbrev jJ:List Str:=["_law_script", "_law_k"]
abbrev b_:Stmt:=top 32
abbrev mY:List Str:=["_law_cell", "_law_letters", "_law_base"]
abbrev b7:Stmt:=top 33
abbrev nQ:List Str:=["_law_cell", "_law_many", "_law_deeds_here", "_law_long", "_law_steps", "_law_k"]
abbrev bB:Stmt:=top 34
abbrev kZ:List Str:=["_law_script", "_law_many", "_law_deeds_here", "_law_first", "_law_known", "_law_low", "_law_k", "_law_cell", "_law_step", "_law_end"]
abbrev aY:Stmt:=top 35
abbrev fD:List Str:=["_law_nexts", "_law_p", "_law_q", "_law_missed", "_law_step", "_law_ends"]
abbrev aF:Stmt:=top 36
abbrev bw:List Str:=["_law_m", "_law_nexts", "_law_pairs", "_law_p", "_law_missed", "_law_count", "_law_fresh", "_law_pair", "_law_left"]
abbrev aM:Stmt:=top 37
abbrev gA:List Str:=["_law_way", "_law_m", "_law_p", "_law_q"]
abbrev bZ:Stmt:=top 38
abbrev nO:List Str:=["_law_way", "_law_m", "_law_p", "_law_q", "_law_found", "e", "_law_others"]
abbrev nY:Stmt:=top 39
abbrev CQ:List Str:=["_law_script", "_law_many", "_law_far", "_law_m", "_law_copied", "_law_missed", "_law_one", "_law_k", "_law_state", "_law_p", "_law_q", "_law_found", "_law_truth", "_law_wrong", "_law_way"]
abbrev rn:List Str:=["NoState"]
structure Txt (K:PySem.W.Frag) (mg:Str->Option Value):Prop where
 n_ValueError:mg "ValueError" = none
 n__law_step:mg "_law_step" = none
 n_bool:mg "bool" = none
 n_enumerate:mg "enumerate" = none
 n_int:mg "int" = none
 n_isinstance:mg "isinstance" = none
 n_len:mg "len" = none
 n_list:mg "list" = none
 n_min:mg "min" = none
 n_range:mg "range" = none
 n_sorted:mg "sorted" = none
 x_NoState:XCl K mg "NoState"
 r_KinError:Dd K mg rn "KinError"
 i_NoText:∀ n C,n∈rn->mg n=some (.ref C)->∃ c,mg "NoText" = some (.ref c)/\PySem.W.kitOne K (.ref C) (.ref c)=some (decide (n = "NoText"))
 i_NoDeed:∀ n C,n∈rn->mg n=some (.ref C)->∃ c,mg "NoDeed" = some (.ref c)/\PySem.W.kitOne K (.ref C) (.ref c)=some (decide (n = "NoDeed"))
 i_TooBig:∀ n C,n∈rn->mg n=some (.ref C)->∃ c,mg "TooBig" = some (.ref c)/\PySem.W.kitOne K (.ref C) (.ref c)=some (decide (n = "TooBig"))
 i_NoMachine:∀ n C,n∈rn->mg n=some (.ref C)->∃ c,mg "NoMachine" = some (.ref c)/\PySem.W.kitOne K (.ref C) (.ref c)=some (decide (n = "NoMachine"))
 i_NoName:∀ n C,n∈rn->mg n=some (.ref C)->∃ c,mg "NoName" = some (.ref c)/\PySem.W.kitOne K (.ref C) (.ref c)=some (decide (n = "NoName"))
 i_NoScroll:∀ n C,n∈rn->mg n=some (.ref C)->∃ c,mg "NoScroll" = some (.ref c)/\PySem.W.kitOne K (.ref C) (.ref c)=some (decide (n = "NoScroll"))
 i_NoFrame:∀ n C,n∈rn->mg n=some (.ref C)->∃ c,mg "NoFrame" = some (.ref c)/\PySem.W.kitOne K (.ref C) (.ref c)=some (decide (n = "NoFrame"))
 i_NoRow:∀ n C,n∈rn->mg n=some (.ref C)->∃ c,mg "NoRow" = some (.ref c)/\PySem.W.kitOne K (.ref C) (.ref c)=some (decide (n = "NoRow"))
 i_ValueError:∀ n C,n∈rn->mg n=some (.ref C)->PySem.W.kitOne K (.ref C) (.type "ValueError")=some true
 i_NoState:∀ n C,n∈rn->mg n=some (.ref C)->∃ c,mg "NoState" = some (.ref c)/\PySem.W.kitOne K (.ref C) (.ref c)=some (decide (n = "NoState"))
section
variable {P:Program} {w:World} {K:PySem.W.Frag} {mg:Str->Option Value} {base:Heap}
theorem gw:FnScope gn ["m", "state"] (defScope aL):=⟨rfl,rfl,rfl,by decide +kernel,rfl,by decide +kernel,by decide +kernel⟩
theorem nM {f:Addr} (T:Txt K mg)  (cdv:Value) (A:Around) (outer:List PySem.Env) (s:Shared) (H:Hp) (E:XK) (hr:Room 0 (A.deeper (envOfC "check_state" (defScope aL) s.heap.objs.size f cdv))) :
  QSs (cxOf (CXx P w mg rn) P w K mg base gn "check_state" (defScope aL) f cdv A outer s H E) K (LX rn mg E) (defBody aL) eG :=
 have nd:=gw.nd
 have hu:(A.deeper (envOfC "check_state" (defScope aL) s.heap.objs.size f cdv)).units+64<cLine:=hr.units
 (ao (cV (qg (xZ DG iR FJ qC au (qv 1) (q_ix hu (qv 0) au)))
   (ao (xF rfl El T.x_NoState (.head _) gB))
   aW))
theorem lA {f:Addr} {fd:FuncData} (F:Fun K "check_state" "check_state" aL f fd) (T:Txt K mg)  : FnOk P w K mg base (CXx P w mg rn) 1 f fd ["m", "state"] (cB K rn mg aR) :=
 FunX.ok F gw jQ (nM T ) nR
theorem mj:FnScope uH ["m"] (defScope dI):=⟨rfl,rfl,rfl,by decide +kernel,rfl,by decide +kernel,by decide +kernel⟩
theorem uD {f:Addr} {fd:FuncData} (F:Fun K "ways_of" "ways_of" dI f fd) (T:Txt K mg)  : FnOk P w K mg base CX0 1 f fd ["m"] (aA K cW) :=
 FunQ.ok (t:=jO) F mj rM (fun cdv A outer s H E hr =>
  have nd:=mj.nd
  have hu:=hr.units
  (aj (aH (i:=1) nd rfl (Or.inl rfl) iz)
   (aj (aN 0 (cU PassesOwn.never rfl (iB (q_ix hu (qv 0) au)) (pX rfl (bY (aG (i:=2) nd rfl (Or.inl rfl)) (bY (aG (i:=3) nd rfl (Or.inl rfl)) (bY (aG (i:=4) nd rfl (Or.inl rfl)) lg))))
   (ao (aN 4 (aN 3 (aN 2 (Gm hu (pv 1) (cu (aa (qv 2) (aa (qv 3) aq))) (qv 4))))))))
   (ao (jP (pv 1)))))) vY
theorem jT:FnScope jx ["m"] (defScope cC):=⟨rfl,rfl,rfl,by decide +kernel,rfl,by decide +kernel,by decide +kernel⟩
theorem qQ {f:Addr} {fd:FuncData} (F:Fun K "exits_of" "exits_of" cC f fd) (T:Txt K mg)  : FnOk P w K mg base CX0 1 f fd ["m"] (aA K cH) :=
 FunQ.ok (t:=iD) F jT pR (fun cdv A outer s H E hr =>
  have nd:=jT.nd
  have hu:=hr.units
  (aj (dH (i:=1) (tn:=["state"]) (cn:=[]) (ix:=[]) nd rfl (Or.inl rfl) rfl (uZ (dF T.n_range (q_ix hu (qv 0) au))) (cg.of (sc:=defScope cC) (N:=jx) rfl rfl (by decide +kernel)) (fun _ _ _ _=>(aG (i:=0) (show (["state"]:List Str).Nodup by decide +kernel) rfl (Or.inl rfl) (.inr rfl))) (fun _ _ _ _=>rR) (fun _ _ _ _=>(gG aq)))
   (aj (aN 0 (cU PassesOwn.never rfl (iB (q_ix hu (qv 0) au)) (pX rfl (bY (aG (i:=2) nd rfl (Or.inl rfl)) (bY (aG (i:=3) nd rfl (Or.inl rfl)) (bY (aG (i:=4) nd rfl (Or.inl rfl)) lg))))
   (ao (aN 4 (aN 3 (tX (GC hu (eU (pv 1)) (qv 2)) (cu (aa (qv 3) (aa (qv 4) aq)))))))))
   (ao (jP (pv 1)))))) uF
theorem h_:FnScope nj ["missed", "end", "others"] (defScope b8):=⟨rfl,rfl,rfl,by decide +kernel,rfl,by decide +kernel,by decide +kernel⟩
theorem oG {f:Addr} {fd:FuncData} (F:Fun K "all_missed" "all_missed" b8 f fd) (T:Txt K mg)  : FnOk P w K mg base CX0 1 f fd ["missed", "end", "others"] (aA K bK) :=
 FunQ.ok (t:=fJ) F h_ lL (fun cdv A outer s H E hr =>
  have nd:=h_.nd
  have hu:=hr.units
  (aj (aN 2 (cU PassesOwn.never rfl (iB (qv 2)) (aG (i:=3) nd rfl (Or.inl rfl))
   (ao (aN 3 (aN 1 (cV (aO (qi (K:=K) hu) rW (cu (aa (qv 1) (aa (qv 3) aq))) (qv 0) (by rfl))
   (ao (cM q_bl))
   aW))))))
   (ao (cM q_bl)))) qd
theorem fO:FnScope jJ ["_law_script", "_law_k"] (defScope bz):=⟨rfl,rfl,rfl,by decide +kernel,rfl,by decide +kernel,by decide +kernel⟩
theorem kW {f:Addr} {fd:FuncData} (F:Fun K "_law_cell_at" "_law_cell_at" bz f fd) (T:Txt K mg)  : FnOk P w K mg base CX0 1 f fd ["_law_script", "_law_k"] (aA K aD) :=
 FunQ.ok (t:=dC) F fO jc (fun cdv A outer s H E hr =>
  have nd:=fO.nd
  have hu:=hr.units
  (aj (cV (aO iR qC (qv 1) (fX cX mK rfl T.n_len l_ (qv 0)) (nomark _))
   (ao (cM (q_ix hu (qv 0) (qv 1))))
   aW)
   (ao (cM au)))) lH
theorem gU:FnScope mY ["_law_cell"] (defScope b_):=⟨rfl,rfl,rfl,by decide +kernel,rfl,by decide +kernel,by decide +kernel⟩
theorem nF {f:Addr} {fd:FuncData} (F:Fun K "_law_deeds" "_law_deeds" b_ f fd) (T:Txt K mg)  : FnOk P w K mg base CX0 1 f fd ["_law_cell"] (aA K bJ) :=
 FunQ.ok (t:=fM) F gU lN (fun cdv A outer s H E hr =>
  have nd:=gU.nd
  have hu:=hr.units
  (aj (aH (i:=1) nd rfl (Or.inl rfl) gB)
   (aj (aH (i:=2) nd rfl (Or.inl rfl) (cP (q_ix hu (qv 1) (cO (eX (qv 0) au) au)) (Eo (q_ix hu (qv 1) (cO (eX (qv 0) au) au)) (cO (eX (qv 0) au) au))))
   (ao (aN 2 (cM (qU (q_ix hu (gG (aa (gG (aa (qv 2) (aa (cP (qv 2) gB) (aa gB aq)))) (aa (gG (aa gB (aa (qv 2) (aa (cP gB (qU (qv 2) (mV au) wI)) aq)))) aq))) (cO (qv 0) au)) wI (mV (cP au (cO (eX (qv 0) au) au)))))))))) ph
theorem gM:FnScope nQ ["_law_cell", "_law_many", "_law_deeds_here"] (defScope b7):=⟨rfl,rfl,rfl,by decide +kernel,rfl,by decide +kernel,by decide +kernel⟩
theorem nH {f:Addr} {fd:FuncData} (F:Fun K "_law_rings" "_law_rings" b7 f fd) (T:Txt K mg)  : FnOk P w K mg base CX0 1 f fd ["_law_cell", "_law_many", "_law_deeds_here"] (aA K bM) :=
 FunQ.ok (t:=eY) F gM lV (fun cdv A outer s H E hr =>
  have nd:=gM.nd
  have hu:=hr.units
  (aj (cV (aO iR qC (qv 1) au (nomark _))
   (ao (j_ (qm_v (pv 1) (qm_e (gG aq) pM))))
   aW)
   (aj (aH (i:=3) nd rfl (Or.inl rfl) (cP au (cO (qv 0) (uJ (qv 1) au))))
   (aj (aH (i:=4) nd rfl (Or.inl rfl) (gG aq))
   (aj (cU PassesOwn.never rfl (dF T.n_range (qv 1)) (aG (i:=5) nd rfl (Or.inl rfl))
   (aj (cV (aO iR qC (qv 5) (qv 3) (nomark _))
   (ao (aN 5 (tX (eU (pv 4)) (cu (aa (qv 5) (aa (q_ix hu (qv 2) au) (aa (cO (cP (qv 5) au) (qv 3)) aq)))))))
   (ao (aN 5 (tX (eU (pv 4)) (cu (aa (qv 5) (aa (q_ix hu (qv 2) au) (aa (cP (qv 3) (cO (uJ (cP (qv 5) au) (qv 3)) (uJ (qv 1) (qv 3)))) aq))))))))
   (ao (cV (qt_w (wu (aO (kEq (K:=K) hu) iG (qv 5) (cO (eX (qv 0) au) (qv 3)) (nomark _)) (sW (qt_w (pC (aO Em Gp (qv 5) (qv 3) (nomark _)) (oV (aO (kNe (K:=K) hu) rQ (qv 5) (cP (qv 3) (cO (eX (qv 0) au) (uJ (qv 1) (qv 3)))) (nomark _))))))))
   (ao (aN 5 (tX (eU (pv 4)) (cu (aa (qv 5) (aa (q_ix hu (cP (qv 2) (gG (aa (q_ix hu (gG (aa gB (aa gB aq))) (oN call_int1 Er rfl T.n_int zf (zO (kEq (K:=K) hu) iG (q_ix hu (qv 2) au) gB (nomark _)))) aq))) au) (aa (qv 5) aq)))))))
   aW))))
   (ao (j_ (qm_v (pv 1) (qm_e (fX yW sY rfl T.n_sorted pP (qv 4)) pM))))))))) pF
theorem fV:FnScope fD ["_law_nexts", "_law_p", "_law_q", "_law_missed"] (defScope aY):=⟨rfl,rfl,rfl,by decide +kernel,rfl,by decide +kernel,by decide +kernel⟩
theorem kY {f:Addr} {fd:FuncData} (F:Fun K "_law_follows" "_law_follows" aY f fd) (T:Txt K mg)  : FnOk P w K mg base CX0 1 f fd ["_law_nexts", "_law_p", "_law_q", "_law_missed"] (aA K aV) :=
 FunQ.ok (t:=du) F fV i_ (fun cdv A outer s H E hr =>
  have nd:=fV.nd
  have hu:=hr.units
  (aj (aN 0 (cU PassesOwn.never rfl (iB (q_ix hu (qv 0) (qv 1))) (aG (i:=4) nd rfl (Or.inr rfl))
   (aj (dH (i:=5) (tn:=["_law_other"]) (cn:=["_law_missed", "_law_step"]) (ix:=[3,4]) nd rfl (Or.inl rfl) rfl (lq (q_ix hu (qv 0) (qv 2))) (cg.of (sc:=defScope aY) (N:=fD) rfl rfl (by decide +kernel)) (fun _ _ _ _=>(aG (i:=0) (show (["_law_other", "_law_missed", "_law_step"]:List Str).Nodup by decide +kernel) rfl (Or.inl rfl) (.inr rfl))) (fun _ _ _ _=>(jw (qt_w (pC (aO (kEq (K:=K) hu) iG (q_ix hu (qv 0) au) (q_ix hu (qv 2) au) (nomark _)) (oV (aO (qi (K:=K) hu) rW (cu (aa (q_ix hu (qv 2) au) (aa (q_ix hu (qv 0) au) aq))) (qv 1) (by rfl))))))) (fun _ _ _ _=>(qv 0)))
   (ao (cV (aO (kEq (K:=K) hu) iG (qv 5) (gG aq) (nomark _))
   (ao (cM q_bl))
   aW)))))
   (ao (cM q_bl)))) lK
theorem gm:FnScope lJ ["exits", "ways", "missed", "p", "q"] (defScope bL):=⟨rfl,rfl,rfl,by decide +kernel,rfl,by decide +kernel,by decide +kernel⟩
theorem lF {f:Addr} {fd:FuncData} (F:Fun K "step_missed" "step_missed" bL f fd) (T:Txt K mg) (c_all_missed:Cal P w K mg base 1 "all_missed" ["missed", "end", "others"] (aA K bK)):FnOk P w K mg base CX0 2 f fd ["exits", "ways", "missed", "p", "q"] (aA K bx) :=
 FunQ.ok (t:=eO) F gm jV (fun cdv A outer s H E hr =>
  have nd:=gm.nd
  have hu:=hr.units
  (aj (aN 0 (cU PassesOwn.never rfl (iB (q_ix hu (qv 0) (qv 3))) (pX rfl (bY (aG (i:=5) nd rfl (Or.inl rfl)) (bY (aG (i:=6) nd rfl (Or.inl rfl)) lg)))
   (ao (aN 5 (aN 4 (cV (kO (eF c_all_missed (hr.mono (by decide)) (aa (qv 2) (aa (qv 6) (aa (Fy hu (qv 1) (cu (aa (qv 4) (aa (qv 5) aq))) (gG aq)) aq)))))
   (ao (j_ (qm_v (pv 5) (qm_v (pv 6) pM))))
   aW))))))
   (ao (cM zE)))) nG
theorem g_:FnScope ir ["m", "p", "q"] (defScope aU):=⟨rfl,rfl,rfl,by decide +kernel,rfl,by decide +kernel,by decide +kernel⟩
theorem qL {f:Addr} (T:Txt K mg) (c_check_state:CalX P w K mg base rn 1 "check_state" ["m", "state"] aR) (cdv:Value) (A:Around) (outer:List PySem.Env) (s:Shared) (H:Hp) (E:XK) (hr:Room 1 (A.deeper (envOfC "check_both" (defScope aU) s.heap.objs.size f cdv))) :
  QSs (cxOf (CXx P w mg rn) P w K mg base ir "check_both" (defScope aU) f cdv A outer s H E) K (LX rn mg E) (defBody aU) fQ :=
 have nd:=g_.nd
 have hu:(A.deeper (envOfC "check_both" (defScope aU) s.heap.objs.size f cdv)).units+64<cLine:=hr.units
 (aj (gZ c_check_state (hr.mono (by decide)) lM (aa (qv 0) (aa (qv 1) aq)))
   (ao (gZ c_check_state (hr.mono (by decide)) lM (aa (qv 0) (aa (qv 2) aq)))))
theorem oM {f:Addr} {fd:FuncData} (F:Fun K "check_both" "check_both" aU f fd) (T:Txt K mg) (c_check_state:CalX P w K mg base rn 1 "check_state" ["m", "state"] aR):FnOk P w K mg base (CXx P w mg rn) 2 f fd ["m", "p", "q"] (cB K rn mg aB) :=
 FunX.ok F g_ lO (qL T c_check_state) o_
theorem fG:FnScope kZ ["_law_script", "_law_many", "_law_deeds_here"] (defScope bB):=⟨rfl,rfl,rfl,by decide +kernel,rfl,by decide +kernel,by decide +kernel⟩
theorem jr {f:Addr} {fd:FuncData} (F:Fun K "_law_machine" "_law_machine" bB f fd) (T:Txt K mg) (c__law_cell_at:Cal P w K mg base 1 "_law_cell_at" ["_law_script", "_law_k"] (aA K aD)) (c__law_rings:Cal P w K mg base 1 "_law_rings" ["_law_cell", "_law_many", "_law_deeds_here"] (aA K bM)):FnOk P w K mg base CX0 2 f fd ["_law_script", "_law_many", "_law_deeds_here"] (aA K a_) :=
 FunQ.ok (t:=dD) F fG jd (fun cdv A outer s H E hr =>
  have nd:=fG.nd
  have hu:=hr.units
  (aj (aH (i:=3) nd rfl (Or.inl rfl) (eF c__law_cell_at (hr.mono (by decide)) (aa (qv 0) (aa au aq))))
   (aj (cV (aO (kEq (K:=K) hu) iG (cO (eX (qv 3) au) au) au (nomark _))
   (ao (cM (eF c__law_rings (hr.mono (by decide)) (aa (eX (qv 3) au) (aa (qv 1) (aa (qv 2) aq))))))
   aW)
   (aj (aH (i:=4) nd rfl (Or.inl rfl) iz)
   (aj (aN 1 (aH (i:=5) nd rfl (Or.inl rfl) (qv 1)))
   (aj (cV (aO (kEq (K:=K) hu) iG (cO (qv 3) au) au (nomark _))
   (ao (aH (i:=5) nd rfl (Or.inl rfl) (eX (cP (qv 1) au) au)))
   aW)
   (aj (aN 0 (cU PassesOwn.never rfl (Az T.n_enumerate (qU (qv 0) (mV au) (mV au))) (pX rfl (bY (aG (i:=6) nd rfl (Or.inl rfl)) (bY (aG (i:=7) nd rfl (Or.inl rfl)) lg)))
   (aj (aH (i:=8) nd rfl (Or.inl rfl) (cu (aa (cO (qv 7) (qv 5)) (aa (q_ix hu (qv 2) (cO (eX (eX (qv 7) (qv 5)) (qv 5)) (fX cX mK rfl T.n_len l_ (qv 2)))) (aa (cO (eX (qv 7) (qv 5)) (qv 5)) aq)))))
   (aj (cV (aO iR qC (fX cX mK rfl T.n_len l_ (qv 4)) au (nomark _))
   (ao (jk hu (eU (pv 4)) (qv 8) q_bl))
   aW)
   (ao (cV (qt_w (pC (aO iR qC (fX cX mK rfl T.n_len l_ (qv 4)) au (nomark _)) (pC (aO iR qC (cP (q_ix hu (qv 8) au) (qv 5)) (qv 1) (nomark _)) (oV (aO (kNe (K:=K) hu) rQ (cO (eX (eX (qv 3) au) (cP (Gb (qv 6) (qv 6)) au)) au) au (nomark _))))))
   (aj (aH (i:=9) nd rfl (Or.inl rfl) (q_ix hu (qv 8) au))
   (aj (cV (qt_w (pC (aO (kEq (K:=K) hu) iG (cO (eX (eX (qv 3) au) (cP (qv 6) au)) au) au (nomark _)) (oV (aO iR qC (cP (qv 9) (qv 5)) (qv 1) (nomark _)))))
   (ao (aH (i:=9) nd rfl (Or.inl rfl) (cP (qv 9) (qv 5))))
   aW)
   (ao (jk hu (eU (pv 4)) (cu (aa (cP (q_ix hu (qv 8) au) (qv 5)) (aa (q_ix hu (qv 8) au) (aa (qv 9) aq)))) q_bl))))
   aW))))))
   (aj (cV (aO (kEq (K:=K) hu) iG (cO (eX (qv 3) au) au) au (nomark _))
   (ao (cU PassesOwn.never rfl (dF T.n_range (uJ (qv 1) au)) (aG (i:=6) nd rfl (Or.inl rfl))
   (ao (jk hu (eU (pv 4)) (cu (aa (qv 6) (aa (q_ix hu (qv 2) au) (aa (cP (qv 6) au) aq)))) q_bl))))
   aW)
   (ao (j_ (qm_v (pv 1) (qm_e (fX yW sY rfl T.n_sorted pP (oN mJ vC rfl T.n_list vM (qv 4))) pM)))))))))))) lE
theorem gq:FnScope bw ["_law_m"] (defScope aF):=⟨rfl,rfl,rfl,by decide +kernel,rfl,by decide +kernel,by decide +kernel⟩
theorem lU {f:Addr} {fd:FuncData} (F:Fun K "_law_rounds" "_law_rounds" aF f fd) (T:Txt K mg) (c__law_follows:Cal P w K mg base 1 "_law_follows" ["_law_nexts", "_law_p", "_law_q", "_law_missed"] (aA K aV)):FnOk P w K mg base CX0 2 f fd ["_law_m"] (aA K bA) :=
 FunQ.ok (t:=dZ) F gq k_ (fun cdv A outer s H E hr =>
  have nd:=gq.nd
  have hu:=hr.units
  (aj (aH (i:=1) nd rfl (Or.inr rfl) (zF (tn:=["_law_k"]) (cn:=["_law_m"]) (ix:=[0]) rfl (uZ (dF T.n_range (q_ix hu (qv 0) au))) (fC.of (sc:=defScope aF) (N:=bw) rfl rfl (by decide +kernel)) (fun _ _ _ _=>(aG (i:=0) (show (["_law_k", "_law_m"]:List Str).Nodup by decide +kernel) rfl (Or.inr rfl) (.inl rfl))) (fun _ _ _ _=>rR) (fun _ _ _ _=>(yR (tn:=["_law_step"]) (cn:=["_law_k"]) (ix:=[0]) rfl (lq (q_ix hu (qv 1) au)) (cg.inC (sc:=defScope aF) rfl (by decide +kernel)) (fun _ _ _ _=>(aG (i:=0) (show (["_law_step", "_law_k"]:List Str).Nodup by decide +kernel) rfl (Or.inl rfl) (.inr rfl))) (fun _ _ _ _=>(jw (aO (kEq (K:=K) hu) iG (q_ix hu (qv 0) au) (qv 1) (nomark _)))) (fun _ _ _ _=>(qv 0))))))
   (aj (aH (i:=2) nd rfl (Or.inl rfl) (gG aq))
   (aj (cU PassesOwn.never rfl (dF T.n_range (q_ix hu (qv 0) au)) (aG (i:=3) nd rfl (Or.inr rfl))
   (ao (aN 3 (aH (i:=2) nd rfl (Or.inl rfl) (cP (qv 2) (yR (tn:=["_law_q"]) (cn:=["_law_p"]) (ix:=[3]) rfl (uZ (dF T.n_range (q_ix hu (qv 0) au))) (cg.of (sc:=defScope aF) (N:=bw) rfl rfl (by decide +kernel)) (fun _ _ _ _=>(aG (i:=0) (show (["_law_q", "_law_p"]:List Str).Nodup by decide +kernel) rfl (Or.inl rfl) (.inr rfl))) (fun _ _ _ _=>rR) (fun _ _ _ _=>(cu (aa (qv 1) (aa (qv 0) aq))))))))))
   (aj (aH (i:=4) nd rfl (Or.inr rfl) iz)
   (aj (aH (i:=5) nd rfl (Or.inl rfl) au)
   (aj (dH (i:=6) (tn:=["_law_pair"]) (cn:=["_law_nexts"]) (ix:=[1]) nd rfl (Or.inl rfl) rfl (lq (qv 2)) (cg.of (sc:=defScope aF) (N:=bw) rfl rfl (by decide +kernel)) (fun _ _ _ _=>(aG (i:=0) (show (["_law_pair", "_law_nexts"]:List Str).Nodup by decide +kernel) rfl (Or.inl rfl) (.inr rfl))) (fun _ _ _ _=>(jw (qg (kO (eF c__law_follows (hr.mono (by decide)) (aa (qv 1) (aa (q_ix hu (qv 0) au) (aa (q_ix hu (qv 0) au) (aa iz aq))))))))) (fun _ _ _ _=>(qv 0)))
   (aj (sS PassesOwn.never (aO (kNe (K:=K) hu) rQ (qv 6) (gG aq) (nomark _))
   (aj (aH (i:=5) nd rfl (Or.inl rfl) (cP (qv 5) au))
   (aj (aN 6 (cU PassesOwn.never rfl (iB (qv 6)) (aG (i:=7) nd rfl (Or.inl rfl))
   (ao (aN 5 (jk hu (eU (pv 4)) (qv 7) (qv 5))))))
   (aj (dH (i:=8) (tn:=["_law_pair"]) (cn:=["_law_missed"]) (ix:=[4]) nd rfl (Or.inl rfl) rfl (lq (qv 2)) (cg.of (sc:=defScope aF) (N:=bw) rfl rfl (by decide +kernel)) (fun _ _ _ _=>(aG (i:=0) (show (["_law_pair", "_law_missed"]:List Str).Nodup by decide +kernel) rfl (Or.inl rfl) (.inr rfl))) (fun _ _ _ _=>(jw (aO (qi (K:=K) hu) rW (qv 0) (qv 1) (by rfl)))) (fun _ _ _ _=>(qv 0)))
   (ao (dH (i:=6) (tn:=["_law_pair"]) (cn:=["_law_missed", "_law_nexts"]) (ix:=[4,1]) nd rfl (Or.inl rfl) rfl (lq (qv 8)) (cg.of (sc:=defScope aF) (N:=bw) rfl rfl (by decide +kernel)) (fun _ _ _ _=>(aG (i:=0) (show (["_law_pair", "_law_missed", "_law_nexts"]:List Str).Nodup by decide +kernel) rfl (Or.inl rfl) (.inr rfl))) (fun _ _ _ _=>(jw (qg (kO (eF c__law_follows (hr.mono (by decide)) (aa (qv 2) (aa (q_ix hu (qv 0) au) (aa (q_ix hu (qv 0) au) (aa (qv 1) aq))))))))) (fun _ _ _ _=>(qv 0))))))))
   (ao (jP (pv 4))))))))))) nW
theorem iZ:FnScope qz ["exits", "ways", "missed", "turn"] (defScope cG):=⟨rfl,rfl,rfl,by decide +kernel,rfl,by decide +kernel,by decide +kernel⟩
theorem qt {f:Addr} {fd:FuncData} (F:Fun K "missed_in" "missed_in" cG f fd) (T:Txt K mg) (c_step_missed:Cal P w K mg base 2 "step_missed" ["exits", "ways", "missed", "p", "q"] (aA K bx)):FnOk P w K mg base CX0 3 f fd ["exits", "ways", "missed", "turn"] (aA K bD) :=
 FunQ.ok (t:=gF) F iZ oW (fun cdv A outer s H E hr =>
  have nd:=iZ.nd
  have hu:=hr.units
  (aj (aH (i:=4) nd rfl (Or.inl rfl) iz)
   (aj (cU PassesOwn.never rfl (dF T.n_range (fX cX mK rfl T.n_len l_ (qv 0))) (aG (i:=5) nd rfl (Or.inl rfl))
   (ao (cU PassesOwn.never rfl (dF T.n_range (fX cX mK rfl T.n_len l_ (qv 0))) (aG (i:=6) nd rfl (Or.inl rfl))
   (ao (aN 6 (aN 5 (cV (aO (qi (K:=K) hu) rW (cu (aa (qv 5) (aa (qv 6) aq))) (qv 2) (by rfl))
   (aj (aH (i:=7) nd rfl (Or.inl rfl) (eF c_step_missed (hr.mono (by decide)) (aa (qv 0) (aa (qv 1) (aa (qv 2) (aa (qv 5) (aa (qv 6) aq)))))))
   (ao (cV (aO op_notN BL (qv 7) zE (nomark _))
   (ao (aN 3 (jk hu (eU (pv 4)) (cu (aa (qv 5) (aa (qv 6) aq))) (cu (aa (qv 3) (aa (q_ix hu (qv 7) au) (aa (q_ix hu (qv 7) au) aq)))))))
   aW)))
   aW)))))))
   (ao (jP (pv 4)))))) qN
theorem gJ:FnScope gP ["m", "p", "q"] (defScope aQ):=⟨rfl,rfl,rfl,by decide +kernel,rfl,by decide +kernel,by decide +kernel⟩
theorem pK {f:Addr} (T:Txt K mg) (c_check_both:CalX P w K mg base rn 2 "check_both" ["m", "p", "q"] aB) (cdv:Value) (A:Around) (outer:List PySem.Env) (s:Shared) (H:Hp) (E:XK) (hr:Room 2 (A.deeper (envOfC "one_way_of" (defScope aQ) s.heap.objs.size f cdv))) :
  QSs (cxOf (CXx P w mg rn) P w K mg base gP "one_way_of" (defScope aQ) f cdv A outer s H E) K (LX rn mg E) (defBody aQ) eZ :=
 have nd:=gJ.nd
 have hu:(A.deeper (envOfC "one_way_of" (defScope aQ) s.heap.objs.size f cdv)).units+64<cLine:=hr.units
 (aj (gZ c_check_both (hr.mono (by decide)) lM (aa (qv 0) (aa (qv 1) (aa (qv 2) aq))))
   p_)
theorem oO {f:Addr} {fd:FuncData} (F:Fun K "one_way_of" "one_way_of" aQ f fd) (T:Txt K mg) (c_check_both:CalX P w K mg base rn 2 "check_both" ["m", "p", "q"] aB):FnOk P w K mg base (CXx P w mg rn) 3 f fd ["m", "p", "q"] (cB K rn mg bh) :=
 FunX.ok F gJ lB (pK T c_check_both) qD
theorem mq:FnScope mC ["m", "p", "q"] (defScope bQ):=⟨rfl,rfl,rfl,by decide +kernel,rfl,by decide +kernel,by decide +kernel⟩
theorem wA {f:Addr} (T:Txt K mg) (c_check_both:CalX P w K mg base rn 2 "check_both" ["m", "p", "q"] aB) (cdv:Value) (A:Around) (outer:List PySem.Env) (s:Shared) (H:Hp) (E:XK) (hr:Room 2 (A.deeper (envOfC "lack_of" (defScope bQ) s.heap.objs.size f cdv))) :
  QSs (cxOf (CXx P w mg rn) P w K mg base mC "lack_of" (defScope bQ) f cdv A outer s H E) K (LX rn mg E) (defBody bQ) jE :=
 have nd:=mq.nd
 have hu:(A.deeper (envOfC "lack_of" (defScope bQ) s.heap.objs.size f cdv)).units+64<cLine:=hr.units
 (aj (gZ c_check_both (hr.mono (by decide)) lM (aa (qv 0) (aa (qv 1) (aa (qv 2) aq))))
   p_)
theorem uo {f:Addr} {fd:FuncData} (F:Fun K "lack_of" "lack_of" bQ f fd) (T:Txt K mg) (c_check_both:CalX P w K mg base rn 2 "check_both" ["m", "p", "q"] aB):FnOk P w K mg base (CXx P w mg rn) 3 f fd ["m", "p", "q"] (cB K rn mg cI) :=
 FunX.ok F mq qO (wA T c_check_both) vU
theorem iK:FnScope qp ["m"] (defScope cD):=⟨rfl,rfl,rfl,by decide +kernel,rfl,by decide +kernel,by decide +kernel⟩
theorem qI {f:Addr} {fd:FuncData} (F:Fun K "misses_of" "misses_of" cD f fd) (T:Txt K mg) (c_exits_of:Cal P w K mg base 1 "exits_of" ["m"] (aA K cH)) (c_ways_of:Cal P w K mg base 1 "ways_of" ["m"] (aA K cW)) (c_missed_in:Cal P w K mg base 3 "missed_in" ["exits", "ways", "missed", "turn"] (aA K bD)):FnOk P w K mg base CX0 4 f fd ["m"] (aA K bF) :=
 FunQ.ok (t:=gH) F iK oR (fun cdv A outer s H E hr =>
  have nd:=iK.nd
  have hu:=hr.units
  (aj (aH (i:=1) nd rfl (Or.inl rfl) (eF c_exits_of (hr.mono (by decide)) (aa (qv 0) aq)))
   (aj (aH (i:=2) nd rfl (Or.inl rfl) (eF c_ways_of (hr.mono (by decide)) (aa (qv 0) aq)))
   (aj (aH (i:=3) nd rfl (Or.inl rfl) iz)
   (aj (aH (i:=4) nd rfl (Or.inl rfl) au)
   (aj (aH (i:=5) nd rfl (Or.inl rfl) (eF c_missed_in (hr.mono (by decide)) (aa (qv 1) (aa (qv 2) (aa (qv 3) (aa (qv 4) aq))))))
   (aj (sS PassesOwn.never (Ao (pv 5))
   (aj (Bd (xbO (Nat.add_le_add_left (by decide:1<=64) _) hu) (pv 3) (pv 5))
   (aj (aH (i:=4) nd rfl (Or.inl rfl) (cP (qv 4) au))
   (ao (aH (i:=5) nd rfl (Or.inl rfl) (eF c_missed_in (hr.mono (by decide)) (aa (qv 1) (aa (qv 2) (aa (qv 3) (aa (qv 4) aq))))))))))
   (ao (jP (pv 3)))))))))) rH
theorem iQ:FnScope iM ["m", "p", "q"] (defScope aZ):=⟨rfl,rfl,rfl,by decide +kernel,rfl,by decide +kernel,by decide +kernel⟩
theorem rY {f:Addr} (T:Txt K mg) (c_check_both:CalX P w K mg base rn 2 "check_both" ["m", "p", "q"] aB) (c_misses_of:Cal P w K mg base 4 "misses_of" ["m"] (aA K bF)) (cdv:Value) (A:Around) (outer:List PySem.Env) (s:Shared) (H:Hp) (E:XK) (hr:Room 4 (A.deeper (envOfC "missed_at" (defScope aZ) s.heap.objs.size f cdv))) :
  QSs (cxOf (CXx P w mg rn) P w K mg base iM "missed_at" (defScope aZ) f cdv A outer s H E) K (LX rn mg E) (defBody aZ) gD :=
 have nd:=iQ.nd
 have hu:(A.deeper (envOfC "missed_at" (defScope aZ) s.heap.objs.size f cdv)).units+64<cLine:=hr.units
 (aj (gZ c_check_both (hr.mono (by decide)) lM (aa (qv 0) (aa (qv 1) (aa (qv 2) aq))))
   (aj (aH (i:=3) nd rfl (Or.inl rfl) (eF c_misses_of (hr.mono (by decide)) (aa (qv 0) aq)))
   (ao (aN 2 (aN 1 (cM (q_if (aO (kIn (K:=K) hu) rW (cu (aa (qv 1) (aa (qv 2) aq))) (qv 3) (by rfl)) (q_ix hu (q_ix hu (qv 3) (cu (aa (qv 1) (aa (qv 2) aq)))) au) zE)))))))
theorem pQ {f:Addr} {fd:FuncData} (F:Fun K "missed_at" "missed_at" aZ f fd) (T:Txt K mg) (c_check_both:CalX P w K mg base rn 2 "check_both" ["m", "p", "q"] aB) (c_misses_of:Cal P w K mg base 4 "misses_of" ["m"] (aA K bF)):FnOk P w K mg base (CXx P w mg rn) 5 f fd ["m", "p", "q"] (cB K rn mg aK) :=
 FunX.ok F iQ oA (rY T c_check_both c_misses_of) qP
theorem zb:FnScope yI ["m", "p", "q"] (defScope lG):=⟨rfl,rfl,rfl,by decide +kernel,rfl,by decide +kernel,by decide +kernel⟩
theorem Hr {f:Addr} (T:Txt K mg) (c_missed_at:CalX P w K mg base rn 5 "missed_at" ["m", "p", "q"] aK) (cdv:Value) (A:Around) (outer:List PySem.Env) (s:Shared) (H:Hp) (E:XK) (hr:Room 5 (A.deeper (envOfC "can" (defScope lG) s.heap.objs.size f cdv))) :
  QSs (cxOf (CXx P w mg rn) P w K mg base yI "can" (defScope lG) f cdv A outer s H E) K (LX rn mg E) (defBody lG) Aq :=
 have nd:=zb.nd
 have hu:(A.deeper (envOfC "can" (defScope lG) s.heap.objs.size f cdv)).units+64<cLine:=hr.units
 (ao (yG c_missed_at (hr.mono (by decide)) lM (aa (qv 0) (aa (qv 1) (aa (qv 2) aq)))))
theorem Eh {f:Addr} {fd:FuncData} (F:Fun K "can" "can" lG f fd) (T:Txt K mg) (c_missed_at:CalX P w K mg base rn 5 "missed_at" ["m", "p", "q"] aK):FnOk P w K mg base (CXx P w mg rn) 6 f fd ["m", "p", "q"] (cB K rn mg gK) :=
 FunX.ok F zb Ba (Hr T c_missed_at) FN
theorem gr:FnScope gA ["_law_way", "_law_m", "_law_p", "_law_q"] (defScope aM):=⟨rfl,rfl,rfl,by decide +kernel,rfl,by decide +kernel,by decide +kernel⟩
theorem mX {f:Addr} (T:Txt K mg) (c_can:CalX P w K mg base rn 6 "can" ["m", "p", "q"] gK) (c_one_way_of:CalX P w K mg base rn 3 "one_way_of" ["m", "p", "q"] bh) (c_missed_at:CalX P w K mg base rn 5 "missed_at" ["m", "p", "q"] aK) (c_lack_of:CalX P w K mg base rn 3 "lack_of" ["m", "p", "q"] cI) (cdv:Value) (A:Around) (outer:List PySem.Env) (s:Shared) (H:Hp) (E:XK) (hr:Room 6 (A.deeper (envOfC "_law_called" (defScope aM) s.heap.objs.size f cdv))) :
  QSs (cxOf (CXx P w mg rn) P w K mg base gA "_law_called" (defScope aM) f cdv A outer s H E) K (LX rn mg E) (defBody aM) eN :=
 have nd:=gr.nd
 have hu:(A.deeper (envOfC "_law_called" (defScope aM) s.heap.objs.size f cdv)).units+64<cLine:=hr.units
 (aj (cV (aO (kEq (K:=K) hu) iG (qv 0) au (nomark _))
   (ao (nu c_can (hr.mono (by decide)) lM (aa (qv 1) (aa (qv 2) (aa (qv 3) aq)))))
   aW)
   (aj (cV (aO (kEq (K:=K) hu) iG (qv 0) au (nomark _))
   (ao (nu c_one_way_of (hr.mono (by decide)) lM (aa (qv 1) (aa (qv 2) (aa (qv 3) aq)))))
   aW)
   (aj (cV (aO (kEq (K:=K) hu) iG (qv 0) au (nomark _))
   (ao (nu c_missed_at (hr.mono (by decide)) lM (aa (qv 1) (aa (qv 2) (aa (qv 3) aq)))))
   aW)
   (ao (nu c_lack_of (hr.mono (by decide)) lM (aa (qv 1) (aa (qv 2) (aa (qv 3) aq))))))))
theorem lD {f:Addr} {fd:FuncData} (F:Fun K "_law_called" "_law_called" aM f fd) (T:Txt K mg) (c_can:CalX P w K mg base rn 6 "can" ["m", "p", "q"] gK) (c_one_way_of:CalX P w K mg base rn 3 "one_way_of" ["m", "p", "q"] bh) (c_missed_at:CalX P w K mg base rn 5 "missed_at" ["m", "p", "q"] aK) (c_lack_of:CalX P w K mg base rn 3 "lack_of" ["m", "p", "q"] cI):FnOk P w K mg base (CXx P w mg rn) 7 f fd ["_law_way", "_law_m", "_law_p", "_law_q"] (cB K rn mg bu) :=
 FunX.ok F gr kh (mX T c_can c_one_way_of c_missed_at c_lack_of) mZ
theorem gQ:FnScope nO ["_law_way", "_law_m", "_law_p", "_law_q"] (defScope bZ):=⟨rfl,rfl,rfl,by decide +kernel,rfl,by decide +kernel,by decide +kernel⟩
theorem m8 {f:Addr} {fd:FuncData} (F:Fun K "_law_asked" "_law_asked" bZ f fd) (T:Txt K mg) (c__law_called:CalX P w K mg base rn 7 "_law_called" ["_law_way", "_law_m", "_law_p", "_law_q"] bu):FnOk P w K mg base CX0 8 f fd ["_law_way", "_law_m", "_law_p", "_law_q"] (aA K bj) :=
 FunQ.ok (t:=fU) F gQ lC (fun cdv A outer s H E hr =>
  have nd:=gQ.nd
  have hu:=hr.units
  (aj (Cy (j:=5) (ρh:=fun a=>[none,none,none,none,none,some (.xc a),none]) T.r_KinError nd rfl rfl rfl rfl (fun a=>rfl) (fun pn xe E1 hx1=>(ao (Am c__law_called (hr.mono (by decide)) hx1 (i:=4) nd rfl (Or.inl rfl) (aa (qv 0) (aa (qv 1) (aa (qv 2) (aa (qv 3) aq)))))))
   (fun pn a oe n C hn hm xc hp hcl=>by
    obtain ⟨c_NoText,m_NoText,k_NoText⟩:=T.i_NoText n C hn hm
    obtain ⟨c_NoDeed,m_NoDeed,k_NoDeed⟩:=T.i_NoDeed n C hn hm
    obtain ⟨c_TooBig,m_TooBig,k_TooBig⟩:=T.i_TooBig n C hn hm
    obtain ⟨c_NoMachine,m_NoMachine,k_NoMachine⟩:=T.i_NoMachine n C hn hm
    obtain ⟨c_NoName,m_NoName,k_NoName⟩:=T.i_NoName n C hn hm
    obtain ⟨c_NoScroll,m_NoScroll,k_NoScroll⟩:=T.i_NoScroll n C hn hm
    obtain ⟨c_NoFrame,m_NoFrame,k_NoFrame⟩:=T.i_NoFrame n C hn hm
    obtain ⟨c_NoRow,m_NoRow,k_NoRow⟩:=T.i_NoRow n C hn hm
    obtain ⟨c_NoState,m_NoState,k_NoState⟩:=T.i_NoState n C hn hm
    exact (aj (aH (i:=6) nd rfl (Or.inl rfl) (gG (aa (lu (vc:=.ref c_NoMachine) (j:=5) T.n_isinstance hp hcl xc k_NoMachine (pv 5) (pe_glob rfl m_NoMachine rfl) (fun _ r=>r)) (aa (lu (vc:=.ref c_TooBig) (j:=5) T.n_isinstance hp hcl xc k_TooBig (pv 5) (pe_glob rfl m_TooBig rfl) (fun _ r=>r)) (aa (lu (vc:=.ref c_NoDeed) (j:=5) T.n_isinstance hp hcl xc k_NoDeed (pv 5) (pe_glob rfl m_NoDeed rfl) (fun _ r=>r)) (aa (lu (vc:=.ref c_NoText) (j:=5) T.n_isinstance hp hcl xc k_NoText (pv 5) (pe_glob rfl m_NoText rfl) (fun _ r=>r)) aq))))))
   (aj (aH (i:=6) nd rfl (Or.inl rfl) (cP (qv 6) (gG (aa (lu (vc:=.ref c_NoFrame) (j:=5) T.n_isinstance hp hcl xc k_NoFrame (pv 5) (pe_glob rfl m_NoFrame rfl) (fun _ r=>r)) (aa (lu (vc:=.ref c_NoScroll) (j:=5) T.n_isinstance hp hcl xc k_NoScroll (pv 5) (pe_glob rfl m_NoScroll rfl) (fun _ r=>r)) (aa (lu (vc:=.ref c_NoName) (j:=5) T.n_isinstance hp hcl xc k_NoName (pv 5) (pe_glob rfl m_NoName rfl) (fun _ r=>r)) aq))))))
   (aj (cV (qt_w (wu (aO (kIn (K:=K) hu) rW q_bl (qv 6) (by rfl)) (wu (kO (lu (vc:=.ref c_NoRow) (j:=5) T.n_isinstance hp hcl xc k_NoRow (pv 5) (pe_glob rfl m_NoRow rfl) (fun _ r=>r))) (sW (qg (kO (lu (vc:=.ty "ValueError") (j:=5) T.n_isinstance hp hcl xc (T.i_ValueError n C hn hm) (pv 5) (zL T.n_ValueError nT) (fun _ r=>r))))))))
   (ao (cM (cu (aa gB (aa gB aq)))))
   aW)
   (ao (cM (cu (aa gB (aa (lu (vc:=.ref c_NoState) (j:=5) T.n_isinstance hp hcl xc k_NoState (pv 5) (pe_glob rfl m_NoState rfl) (fun _ r=>r)) aq))))))))))
   (ao (j_ (qm_e gB (qm_v (pv 4) pM)))))) pq
theorem y_:FnScope CQ ["_law_script"] (defScope nY):=⟨rfl,rfl,rfl,by decide +kernel,rfl,by decide +kernel,by decide +kernel⟩
theorem ok_law {f:Addr} {fd:FuncData} (F:Fun K "law" "law" nY f fd) (T:Txt K mg) (c__law_cell_at:Cal P w K mg base 1 "_law_cell_at" ["_law_script", "_law_k"] (aA K aD)) (c__law_machine:Cal P w K mg base 2 "_law_machine" ["_law_script", "_law_many", "_law_deeds_here"] (aA K a_)) (c__law_deeds:Cal P w K mg base 1 "_law_deeds" ["_law_cell"] (aA K bJ)) (c__law_rounds:Cal P w K mg base 2 "_law_rounds" ["_law_m"] (aA K bA)) (c_missed_at:CalX P w K mg base rn 5 "missed_at" ["m", "p", "q"] aK) (c_can:CalX P w K mg base rn 6 "can" ["m", "p", "q"] gK) (c__law_asked:Cal P w K mg base 8 "_law_asked" ["_law_way", "_law_m", "_law_p", "_law_q"] (aA K bj)):FnOk P w K mg base CX0 9 f fd ["_law_script"] (aA K sp_law) :=
 FunQ.ok (t:=Bp) F y_ BZ (fun cdv A outer s H E hr =>
  have nd:=y_.nd
  have hu:=hr.units
  (aj (aH (i:=1) nd rfl (Or.inl rfl) (cP au (cO (eF c__law_cell_at (hr.mono (by decide)) (aa (qv 0) (aa au aq))) au)))
   (aj (aH (i:=2) nd rfl (Or.inl rfl) (eF c__law_cell_at (hr.mono (by decide)) (aa (qv 0) (aa au aq))))
   (aj (aH (i:=3) nd rfl (Or.inl rfl) (eF c__law_machine (hr.mono (by decide)) (aa (qv 0) (aa (qv 1) (aa (eF c__law_deeds (hr.mono (by decide)) (aa (qv 2) aq)) aq)))))
   (aj (aN 1 (aH (i:=4) nd rfl (Or.inl rfl) (cu (aa (qv 1) (aa (oN mJ vC rfl T.n_list vM (q_ix hu (qv 3) au)) aq)))))
   (aj (aH (i:=5) nd rfl (Or.inl rfl) (eF c__law_rounds (hr.mono (by decide)) (aa (qv 4) aq)))
   (aj (aH (i:=6) nd rfl (Or.inl rfl) (cO (eF c__law_cell_at (hr.mono (by decide)) (aa (qv 0) (aa au aq))) (qv 1)))
   (aj (cU PassesOwn.never rfl (dF T.n_range (zY CN BP rfl T.n_min DY (qv 1) au)) (aG (i:=7) nd rfl (Or.inl rfl))
   (aj (aH (i:=8) nd rfl (Or.inl rfl) (cO (cP (eX (qv 2) au) (qv 7)) (qv 1)))
   (ao (aN 6 (aN 8 (cU PassesOwn.never rfl (yL (cu (aa (cu (aa (qv 8) (aa (qv 6) aq))) (aa (cu (aa (qv 6) (aa (qv 8) aq))) aq)))) (pX rfl (bY (aG (i:=9) nd rfl (Or.inl rfl)) (bY (aG (i:=10) nd rfl (Or.inl rfl)) lg)))
   (aj (aH (i:=11) nd rfl (Or.inl rfl) (za c_missed_at (hr.mono (by decide)) (aa (qv 3) (aa (qv 9) (aa (qv 10) aq)))))
   (ao (aN 10 (aN 9 (cV (qt_w (wu (kO (Ek T.n_isinstance (qv 11) (zL T.n_bool vh))) (sW (aO (kNe (K:=K) hu) rQ (qv 11) (Dw hu (qv 5) (cu (aa (qv 9) (aa (qv 10) aq)))) (nomark _)))))
   (ao (cM q_bl))
   aW)))))))))))
   (aj (aH (i:=12) nd rfl (Or.inl rfl) (za c_can (hr.mono (by decide)) (aa (qv 3) (aa (qv 6) (aa (cO (qv 2) (qv 1)) aq)))))
   (aj (aN 6 (cV (qt_w (wu (qg (kO (Ek T.n_isinstance (qv 12) (zL T.n_bool vh)))) (sW (aO (kNe (K:=K) hu) rQ (qv 12) (zO (qi (K:=K) hu) rW (cu (aa (qv 6) (aa (cO (qv 2) (qv 1)) aq))) (qv 5) (by rfl)) (nomark _)))))
   (ao (cM q_bl))
   aW))
   (aj (aN 1 (cU PassesOwn.never rfl (yL (cu (aa (Cu au) (aa (uJ (Cu au) (cO (qv 2) (Cw au au))) (aa (qv 1) (aa (cP (qv 1) (cO (qv 2) (Cw au au))) aq)))))) (aG (i:=13) nd rfl (Or.inl rfl))
   (ao (cU PassesOwn.never rfl (dF T.n_range au) (aG (i:=14) nd rfl (Or.inl rfl))
   (aj (cV (aO (kNe (K:=K) hu) rQ (eF c__law_asked (hr.mono (by decide)) (aa (qv 14) (aa (qv 3) (aa (qv 13) (aa (qv 6) aq))))) (cu (aa gB (aa q_bl aq))) (nomark _))
   (ao (cM q_bl))
   aW)
   (ao (cV (aO (kNe (K:=K) hu) rQ (eF c__law_asked (hr.mono (by decide)) (aa (qv 14) (aa (qv 3) (aa (qv 6) (aa (qv 13) aq))))) (cu (aa gB (aa q_bl aq))) (nomark _))
   (ao (cM q_bl))
   aW)))))))
   (ao (cM (zO (kEq (K:=K) hu) iG (qv 3) (qv 4) (nomark _))))))))))))))) Gh
end
theorem us1 {us:List Value} (h:us.length=1):∃ a0,us=[a0]:=by
 cases us with
 | nil=>simp at h
 | cons a0 us =>
 cases us with
 | nil=>exact ⟨_,rfl⟩
 | cons b us=>simp at h
theorem us2 {us:List Value} (h:us.length=2):∃ a0 a1,us=[a0,a1]:=by
 cases us with
 | nil=>simp at h
 | cons a0 us =>
 cases us with
 | nil=>simp at h
 | cons a1 us =>
 cases us with
 | nil=>exact ⟨_,_,rfl⟩
 | cons b us=>simp at h
theorem us3 {us:List Value} (h:us.length=3):∃ a0 a1 a2,us=[a0,a1,a2]:=by
 cases us with
 | nil=>simp at h
 | cons a0 us =>
 cases us with
 | nil=>simp at h
 | cons a1 us =>
 cases us with
 | nil=>simp at h
 | cons a2 us =>
 cases us with
 | nil=>exact ⟨_,_,_,rfl⟩
 | cons b us=>simp at h
theorem us4 {us:List Value} (h:us.length=4):∃ a0 a1 a2 a3,us=[a0,a1,a2,a3]:=by
 cases us with
 | nil=>simp at h
 | cons a0 us =>
 cases us with
 | nil=>simp at h
 | cons a1 us =>
 cases us with
 | nil=>simp at h
 | cons a2 us =>
 cases us with
 | nil=>simp at h
 | cons a3 us =>
 cases us with
 | nil=>exact ⟨_,_,_,_,rfl⟩
 | cons b us=>simp at h
theorem us5 {us:List Value} (h:us.length=5):∃ a0 a1 a2 a3 a4,us=[a0,a1,a2,a3,a4]:=by
 cases us with
 | nil=>simp at h
 | cons a0 us =>
 cases us with
 | nil=>simp at h
 | cons a1 us =>
 cases us with
 | nil=>simp at h
 | cons a2 us =>
 cases us with
 | nil=>simp at h
 | cons a3 us =>
 cases us with
 | nil=>simp at h
 | cons a4 us =>
 cases us with
 | nil=>exact ⟨_,_,_,_,_,rfl⟩
 | cons b us=>simp at h
theorem all_mk {l:PySem.W.OpenLaw} {w:World} {K:PySem.W.Frag} {h:Heap} {mg:Str->Option Value} {fa:Addr} (X:K.In h) (G:h.Ns mainGlobals mg) (hfa:mg "law" = some (.ref fa))
  (a0:PySem.W.nsIn K mainGlobals "check_state" = some (some (.ref f0))) (l0:K.lookup f0=some ⟨o0,d0,.func (PySem.W.fnOf "check_state" "check_state" (defArgs aL) (defBody aL) (defScope aL) .none v0 j0 p0 e0 r0 u0),t0⟩) (c0:PySem.W.codeIn K r0 "check_state" = true) (k0:PySem.W.keepIn K (.ref f0)=true)
  (a1:PySem.W.nsIn K mainGlobals "ways_of" = some (some (.ref f1))) (l1:K.lookup f1=some ⟨o1,d1,.func (PySem.W.fnOf "ways_of" "ways_of" (defArgs dI) (defBody dI) (defScope dI) .none v1 j1 p1 e1 r1 u1),t1⟩) (c1:PySem.W.codeIn K r1 "ways_of" = true) (k1:PySem.W.keepIn K (.ref f1)=true)
  (a2:PySem.W.nsIn K mainGlobals "exits_of" = some (some (.ref f2))) (l2:K.lookup f2=some ⟨o2,d2,.func (PySem.W.fnOf "exits_of" "exits_of" (defArgs cC) (defBody cC) (defScope cC) .none v2 j2 p2 e2 r2 u2),t2⟩) (c2:PySem.W.codeIn K r2 "exits_of" = true) (k2:PySem.W.keepIn K (.ref f2)=true)
  (a3:PySem.W.nsIn K mainGlobals "all_missed" = some (some (.ref f3))) (l3:K.lookup f3=some ⟨o3,d3,.func (PySem.W.fnOf "all_missed" "all_missed" (defArgs b8) (defBody b8) (defScope b8) .none v3 j3 p3 e3 r3 u3),t3⟩) (c3:PySem.W.codeIn K r3 "all_missed" = true) (k3:PySem.W.keepIn K (.ref f3)=true)
  (a4:PySem.W.nsIn K mainGlobals "step_missed" = some (some (.ref f4))) (l4:K.lookup f4=some ⟨o4,d4,.func (PySem.W.fnOf "step_missed" "step_missed" (defArgs bL) (defBody bL) (defScope bL) .none v4 j4 p4 e4 r4 u4),t4⟩) (c4:PySem.W.codeIn K r4 "step_missed" = true) (k4:PySem.W.keepIn K (.ref f4)=true)
  (a5:PySem.W.nsIn K mainGlobals "missed_in" = some (some (.ref f5))) (l5:K.lookup f5=some ⟨o5,d5,.func (PySem.W.fnOf "missed_in" "missed_in" (defArgs cG) (defBody cG) (defScope cG) .none v5 j5 p5 e5 r5 u5),t5⟩) (c5:PySem.W.codeIn K r5 "missed_in" = true) (k5:PySem.W.keepIn K (.ref f5)=true)
  (a6:PySem.W.nsIn K mainGlobals "misses_of" = some (some (.ref f6))) (l6:K.lookup f6=some ⟨o6,d6,.func (PySem.W.fnOf "misses_of" "misses_of" (defArgs cD) (defBody cD) (defScope cD) .none v6 j6 p6 e6 r6 u6),t6⟩) (c6:PySem.W.codeIn K r6 "misses_of" = true) (k6:PySem.W.keepIn K (.ref f6)=true)
  (a7:PySem.W.nsIn K mainGlobals "check_both" = some (some (.ref f7))) (l7:K.lookup f7=some ⟨o7,d7,.func (PySem.W.fnOf "check_both" "check_both" (defArgs aU) (defBody aU) (defScope aU) .none v7 j7 p7 e7 r7 u7),t7⟩) (c7:PySem.W.codeIn K r7 "check_both" = true) (k7:PySem.W.keepIn K (.ref f7)=true)
  (a8:PySem.W.nsIn K mainGlobals "missed_at" = some (some (.ref f8))) (l8:K.lookup f8=some ⟨o8,d8,.func (PySem.W.fnOf "missed_at" "missed_at" (defArgs aZ) (defBody aZ) (defScope aZ) .none v8 j8 p8 e8 r8 u8),t8⟩) (c8:PySem.W.codeIn K r8 "missed_at" = true) (k8:PySem.W.keepIn K (.ref f8)=true)
  (a9:PySem.W.nsIn K mainGlobals "can" = some (some (.ref f9))) (l9:K.lookup f9=some ⟨o9,d9,.func (PySem.W.fnOf "can" "can" (defArgs lG) (defBody lG) (defScope lG) .none v9 j9 p9 e9 r9 u9),t9⟩) (c9:PySem.W.codeIn K r9 "can" = true) (k9:PySem.W.keepIn K (.ref f9)=true)
  (a10:PySem.W.nsIn K mainGlobals "one_way_of" = some (some (.ref f10))) (l10:K.lookup f10=some ⟨o10,d10,.func (PySem.W.fnOf "one_way_of" "one_way_of" (defArgs aQ) (defBody aQ) (defScope aQ) .none v10 j10 p10 e10 r10 u10),t10⟩) (c10:PySem.W.codeIn K r10 "one_way_of" = true) (k10:PySem.W.keepIn K (.ref f10)=true)
  (a11:PySem.W.nsIn K mainGlobals "lack_of" = some (some (.ref f11))) (l11:K.lookup f11=some ⟨o11,d11,.func (PySem.W.fnOf "lack_of" "lack_of" (defArgs bQ) (defBody bQ) (defScope bQ) .none v11 j11 p11 e11 r11 u11),t11⟩) (c11:PySem.W.codeIn K r11 "lack_of" = true) (k11:PySem.W.keepIn K (.ref f11)=true)
  (a12:PySem.W.nsIn K mainGlobals "_law_cell_at" = some (some (.ref f12))) (l12:K.lookup f12=some ⟨o12,d12,.func (PySem.W.fnOf "_law_cell_at" "_law_cell_at" (defArgs bz) (defBody bz) (defScope bz) .none v12 j12 p12 e12 r12 u12),t12⟩) (c12:PySem.W.codeIn K r12 "_law_cell_at" = true) (k12:PySem.W.keepIn K (.ref f12)=true)
  (a13:PySem.W.nsIn K mainGlobals "_law_deeds" = some (some (.ref f13))) (l13:K.lookup f13=some ⟨o13,d13,.func (PySem.W.fnOf "_law_deeds" "_law_deeds" (defArgs b_) (defBody b_) (defScope b_) .none v13 j13 p13 e13 r13 u13),t13⟩) (c13:PySem.W.codeIn K r13 "_law_deeds" = true) (k13:PySem.W.keepIn K (.ref f13)=true)
  (a14:PySem.W.nsIn K mainGlobals "_law_rings" = some (some (.ref f14))) (l14:K.lookup f14=some ⟨o14,d14,.func (PySem.W.fnOf "_law_rings" "_law_rings" (defArgs b7) (defBody b7) (defScope b7) .none v14 j14 p14 e14 r14 u14),t14⟩) (c14:PySem.W.codeIn K r14 "_law_rings" = true) (k14:PySem.W.keepIn K (.ref f14)=true)
  (a15:PySem.W.nsIn K mainGlobals "_law_machine" = some (some (.ref f15))) (l15:K.lookup f15=some ⟨o15,d15,.func (PySem.W.fnOf "_law_machine" "_law_machine" (defArgs bB) (defBody bB) (defScope bB) .none v15 j15 p15 e15 r15 u15),t15⟩) (c15:PySem.W.codeIn K r15 "_law_machine" = true) (k15:PySem.W.keepIn K (.ref f15)=true)
  (a16:PySem.W.nsIn K mainGlobals "_law_follows" = some (some (.ref f16))) (l16:K.lookup f16=some ⟨o16,d16,.func (PySem.W.fnOf "_law_follows" "_law_follows" (defArgs aY) (defBody aY) (defScope aY) .none v16 j16 p16 e16 r16 u16),t16⟩) (c16:PySem.W.codeIn K r16 "_law_follows" = true) (k16:PySem.W.keepIn K (.ref f16)=true)
  (a17:PySem.W.nsIn K mainGlobals "_law_rounds" = some (some (.ref f17))) (l17:K.lookup f17=some ⟨o17,d17,.func (PySem.W.fnOf "_law_rounds" "_law_rounds" (defArgs aF) (defBody aF) (defScope aF) .none v17 j17 p17 e17 r17 u17),t17⟩) (c17:PySem.W.codeIn K r17 "_law_rounds" = true) (k17:PySem.W.keepIn K (.ref f17)=true)
  (a18:PySem.W.nsIn K mainGlobals "_law_called" = some (some (.ref f18))) (l18:K.lookup f18=some ⟨o18,d18,.func (PySem.W.fnOf "_law_called" "_law_called" (defArgs aM) (defBody aM) (defScope aM) .none v18 j18 p18 e18 r18 u18),t18⟩) (c18:PySem.W.codeIn K r18 "_law_called" = true) (k18:PySem.W.keepIn K (.ref f18)=true)
  (a19:PySem.W.nsIn K mainGlobals "_law_asked" = some (some (.ref f19))) (l19:K.lookup f19=some ⟨o19,d19,.func (PySem.W.fnOf "_law_asked" "_law_asked" (defArgs bZ) (defBody bZ) (defScope bZ) .none v19 j19 p19 e19 r19 u19),t19⟩) (c19:PySem.W.codeIn K r19 "_law_asked" = true) (k19:PySem.W.keepIn K (.ref f19)=true)
  (a20:PySem.W.nsIn K mainGlobals "law" = some (some (.ref f20))) (l20:K.lookup f20=some ⟨o20,d20,.func (PySem.W.fnOf "law" "law" (defArgs nY) (defBody nY) (defScope nY) .none v20 j20 p20 e20 r20 u20),t20⟩) (c20:PySem.W.codeIn K r20 "law" = true) (k20:PySem.W.keepIn K (.ref f20)=true)
  (n_ValueError:PySem.W.nsIn K mainGlobals "ValueError" = some none)
  (n__law_step:PySem.W.nsIn K mainGlobals "_law_step" = some none)
  (n_bool:PySem.W.nsIn K mainGlobals "bool" = some none)
  (n_enumerate:PySem.W.nsIn K mainGlobals "enumerate" = some none)
  (n_int:PySem.W.nsIn K mainGlobals "int" = some none)
  (n_isinstance:PySem.W.nsIn K mainGlobals "isinstance" = some none)
  (n_len:PySem.W.nsIn K mainGlobals "len" = some none)
  (n_list:PySem.W.nsIn K mainGlobals "list" = some none)
  (n_min:PySem.W.nsIn K mainGlobals "min" = some none)
  (n_range:PySem.W.nsIn K mainGlobals "range" = some none)
  (n_sorted:PySem.W.nsIn K mainGlobals "sorted" = some none)
  {C_KinError:Addr} (xa_KinError:PySem.W.nsIn K mainGlobals "KinError" = some (some (.ref C_KinError)))
  {C_NoDeed:Addr} (xa_NoDeed:PySem.W.nsIn K mainGlobals "NoDeed" = some (some (.ref C_NoDeed)))
  {C_NoFrame:Addr} (xa_NoFrame:PySem.W.nsIn K mainGlobals "NoFrame" = some (some (.ref C_NoFrame)))
  {C_NoMachine:Addr} (xa_NoMachine:PySem.W.nsIn K mainGlobals "NoMachine" = some (some (.ref C_NoMachine)))
  {C_NoName:Addr} (xa_NoName:PySem.W.nsIn K mainGlobals "NoName" = some (some (.ref C_NoName)))
  {C_NoRow:Addr} (xa_NoRow:PySem.W.nsIn K mainGlobals "NoRow" = some (some (.ref C_NoRow)))
  {C_NoScroll:Addr} (xa_NoScroll:PySem.W.nsIn K mainGlobals "NoScroll" = some (some (.ref C_NoScroll)))
  {C_NoState:Addr} (xa_NoState:PySem.W.nsIn K mainGlobals "NoState" = some (some (.ref C_NoState)))
  {C_NoText:Addr} (xa_NoText:PySem.W.nsIn K mainGlobals "NoText" = some (some (.ref C_NoText)))
  {C_TooBig:Addr} (xa_TooBig:PySem.W.nsIn K mainGlobals "TooBig" = some (some (.ref C_TooBig)))
  (xe_KinError:PySem.W.excIn K C_KinError [.type "ValueError",.type "Exception",.type "BaseException",.type "object"] "ValueError.__new__" = true) (xg_KinError:PySem.W.findIn K (.ref C_KinError) "__getattr__" = some none) (xh_KinError:PySem.W.findIn K (.ref C_KinError) "__getattribute__" = some (some (.builtin "BaseException.__getattribute__"))) (xi_KinError:PySem.W.findIn K (.ref C_KinError) "__class__" = some (some (.builtin "object.__class__"))) (xj_KinError:PySem.W.mroIn K C_KinError (.type "object")=some true)
  (xe_NoState:PySem.W.excIn K C_NoState [.type "ValueError",.type "Exception",.type "BaseException",.type "object"] "ValueError.__new__" = true) (xg_NoState:PySem.W.findIn K (.ref C_NoState) "__getattr__" = some none) (xh_NoState:PySem.W.findIn K (.ref C_NoState) "__getattribute__" = some (some (.builtin "BaseException.__getattribute__"))) (xi_NoState:PySem.W.findIn K (.ref C_NoState) "__class__" = some (some (.builtin "object.__class__"))) (xj_NoState:PySem.W.mroIn K C_NoState (.type "object")=some true)
  (xs_NoState_KinError:PySem.W.mroIn K C_NoState (.ref C_KinError)=some true)
  (xt_NoState_NoText:PySem.W.kitOne K (.ref C_NoState) (.ref C_NoText)=some false)
  (xt_NoState_NoDeed:PySem.W.kitOne K (.ref C_NoState) (.ref C_NoDeed)=some false)
  (xt_NoState_TooBig:PySem.W.kitOne K (.ref C_NoState) (.ref C_TooBig)=some false)
  (xt_NoState_NoMachine:PySem.W.kitOne K (.ref C_NoState) (.ref C_NoMachine)=some false)
  (xt_NoState_NoName:PySem.W.kitOne K (.ref C_NoState) (.ref C_NoName)=some false)
  (xt_NoState_NoScroll:PySem.W.kitOne K (.ref C_NoState) (.ref C_NoScroll)=some false)
  (xt_NoState_NoFrame:PySem.W.kitOne K (.ref C_NoState) (.ref C_NoFrame)=some false)
  (xt_NoState_NoRow:PySem.W.kitOne K (.ref C_NoState) (.ref C_NoRow)=some false)
  (xt_NoState_ValueError:PySem.W.kitOne K (.ref C_NoState) (.type "ValueError")=some true)
  (xt_NoState_NoState:PySem.W.kitOne K (.ref C_NoState) (.ref C_NoState)=some true)
  : ∃ fd:FuncData,(∀ (s:Shared) (v:Value),BindsTo s fd ⟨[v],[]⟩ [("_law_script",v)])/\∀ base:Heap,K.In base->base.Ns mainGlobals mg->FnOk l.prog w K mg base CX0 9 fa fd ["_law_script"] (aA K sp_law):=by
 have e:=hfa.symm.trans (PySem.W.mg_of X G a20)
 cases e
 have ma_KinError:=PySem.W.mg_of X G xa_KinError
 have ma_NoDeed:=PySem.W.mg_of X G xa_NoDeed
 have ma_NoFrame:=PySem.W.mg_of X G xa_NoFrame
 have ma_NoMachine:=PySem.W.mg_of X G xa_NoMachine
 have ma_NoName:=PySem.W.mg_of X G xa_NoName
 have ma_NoRow:=PySem.W.mg_of X G xa_NoRow
 have ma_NoScroll:=PySem.W.mg_of X G xa_NoScroll
 have ma_NoState:=PySem.W.mg_of X G xa_NoState
 have ma_NoText:=PySem.W.mg_of X G xa_NoText
 have ma_TooBig:=PySem.W.mg_of X G xa_TooBig
 have mk_KinError:XcK K C_KinError:=⟨xe_KinError,xg_KinError,xh_KinError,xi_KinError,xj_KinError⟩
 have mk_NoState:XcK K C_NoState:=⟨xe_NoState,xg_NoState,xh_NoState,xi_NoState,xj_NoState⟩
 have each:∀ {G:Str->Addr->Prop},G "NoState" C_NoState->∀ n C,n∈rn->mg n=some (.ref C)->G n C:=by
  intro G q_NoState n C hn hm
  simp only [rn,xak,xbf,or_false] at hn
  rcases hn with rfl
  ·rw [ma_NoState] at hm; cases hm; exact q_NoState
 have T:Txt K mg:=⟨PySem.W.mg_none_of X G n_ValueError,PySem.W.mg_none_of X G n__law_step,PySem.W.mg_none_of X G n_bool,PySem.W.mg_none_of X G n_enumerate,PySem.W.mg_none_of X G n_int,PySem.W.mg_none_of X G n_isinstance,PySem.W.mg_none_of X G n_len,PySem.W.mg_none_of X G n_list,PySem.W.mg_none_of X G n_min,PySem.W.mg_none_of X G n_range,PySem.W.mg_none_of X G n_sorted,⟨_,ma_NoState,mk_NoState⟩,⟨_,ma_KinError,mk_KinError,each ⟨mk_NoState,xs_NoState_KinError⟩⟩,each ⟨_,ma_NoText,xt_NoState_NoText⟩,each ⟨_,ma_NoDeed,xt_NoState_NoDeed⟩,each ⟨_,ma_TooBig,xt_NoState_TooBig⟩,each ⟨_,ma_NoMachine,xt_NoState_NoMachine⟩,each ⟨_,ma_NoName,xt_NoState_NoName⟩,each ⟨_,ma_NoScroll,xt_NoState_NoScroll⟩,each ⟨_,ma_NoFrame,xt_NoState_NoFrame⟩,each ⟨_,ma_NoRow,xt_NoState_NoRow⟩,each xt_NoState_ValueError,each ⟨_,ma_NoState,xt_NoState_NoState⟩⟩
 have F0:=fun_mk (st:=aL) l0 c0 k0
 have F1:=fun_mk (st:=dI) l1 c1 k1
 have F2:=fun_mk (st:=cC) l2 c2 k2
 have F3:=fun_mk (st:=b8) l3 c3 k3
 have F4:=fun_mk (st:=bL) l4 c4 k4
 have F5:=fun_mk (st:=cG) l5 c5 k5
 have F6:=fun_mk (st:=cD) l6 c6 k6
 have F7:=fun_mk (st:=aU) l7 c7 k7
 have F8:=fun_mk (st:=aZ) l8 c8 k8
 have F9:=fun_mk (st:=lG) l9 c9 k9
 have F10:=fun_mk (st:=aQ) l10 c10 k10
 have F11:=fun_mk (st:=bQ) l11 c11 k11
 have F12:=fun_mk (st:=bz) l12 c12 k12
 have F13:=fun_mk (st:=b_) l13 c13 k13
 have F14:=fun_mk (st:=b7) l14 c14 k14
 have F15:=fun_mk (st:=bB) l15 c15 k15
 have F16:=fun_mk (st:=aY) l16 c16 k16
 have F17:=fun_mk (st:=aF) l17 c17 k17
 have F18:=fun_mk (st:=aM) l18 c18 k18
 have F19:=fun_mk (st:=bZ) l19 c19 k19
 have F20:=fun_mk (st:=nY) l20 c20 k20
 refine ⟨PySem.W.fnOf "law" "law" (defArgs nY) (defBody nY) (defScope nY) .none v20 j20 p20 e20 r20 u20,fun s v=>.of_eq rfl,fun base _ _=>?_⟩
 have C0:CalX l.prog w K mg base rn 1 "check_state" ["m", "state"] aR:=Fun.calX F0 (PySem.W.mg_of X G a0) (lA F0 T ) fun _ _ _ _ _ _ us hl=>by obtain ⟨_,_,rfl⟩:=us2 hl; rfl
 have C1:Cal l.prog w K mg base 1 "ways_of" ["m"] (aA K cW):=F1.cal (PySem.W.mg_of X G a1) (uD F1 T ) fun _ _ _ _ _ _ us hl=>by obtain ⟨_,rfl⟩:=us1 hl; rfl
 have C2:Cal l.prog w K mg base 1 "exits_of" ["m"] (aA K cH):=F2.cal (PySem.W.mg_of X G a2) (qQ F2 T ) fun _ _ _ _ _ _ us hl=>by obtain ⟨_,rfl⟩:=us1 hl; rfl
 have C3:Cal l.prog w K mg base 1 "all_missed" ["missed", "end", "others"] (aA K bK):=F3.cal (PySem.W.mg_of X G a3) (oG F3 T ) fun _ _ _ _ _ _ us hl=>by obtain ⟨_,_,_,rfl⟩:=us3 hl; rfl
 have C12:Cal l.prog w K mg base 1 "_law_cell_at" ["_law_script", "_law_k"] (aA K aD):=F12.cal (PySem.W.mg_of X G a12) (kW F12 T ) fun _ _ _ _ _ _ us hl=>by obtain ⟨_,_,rfl⟩:=us2 hl; rfl
 have C13:Cal l.prog w K mg base 1 "_law_deeds" ["_law_cell"] (aA K bJ):=F13.cal (PySem.W.mg_of X G a13) (nF F13 T ) fun _ _ _ _ _ _ us hl=>by obtain ⟨_,rfl⟩:=us1 hl; rfl
 have C14:Cal l.prog w K mg base 1 "_law_rings" ["_law_cell", "_law_many", "_law_deeds_here"] (aA K bM):=F14.cal (PySem.W.mg_of X G a14) (nH F14 T ) fun _ _ _ _ _ _ us hl=>by obtain ⟨_,_,_,rfl⟩:=us3 hl; rfl
 have C16:Cal l.prog w K mg base 1 "_law_follows" ["_law_nexts", "_law_p", "_law_q", "_law_missed"] (aA K aV):=F16.cal (PySem.W.mg_of X G a16) (kY F16 T ) fun _ _ _ _ _ _ us hl=>by obtain ⟨_,_,_,_,rfl⟩:=us4 hl; rfl
 have C4:Cal l.prog w K mg base 2 "step_missed" ["exits", "ways", "missed", "p", "q"] (aA K bx):=F4.cal (PySem.W.mg_of X G a4) (lF F4 T C3) fun _ _ _ _ _ _ us hl=>by obtain ⟨_,_,_,_,_,rfl⟩:=us5 hl; rfl
 have C7:CalX l.prog w K mg base rn 2 "check_both" ["m", "p", "q"] aB:=Fun.calX F7 (PySem.W.mg_of X G a7) (oM F7 T C0) fun _ _ _ _ _ _ us hl=>by obtain ⟨_,_,_,rfl⟩:=us3 hl; rfl
 have C15:Cal l.prog w K mg base 2 "_law_machine" ["_law_script", "_law_many", "_law_deeds_here"] (aA K a_):=F15.cal (PySem.W.mg_of X G a15) (jr F15 T C12 C14) fun _ _ _ _ _ _ us hl=>by obtain ⟨_,_,_,rfl⟩:=us3 hl; rfl
 have C17:Cal l.prog w K mg base 2 "_law_rounds" ["_law_m"] (aA K bA):=F17.cal (PySem.W.mg_of X G a17) (lU F17 T C16) fun _ _ _ _ _ _ us hl=>by obtain ⟨_,rfl⟩:=us1 hl; rfl
 have C5:Cal l.prog w K mg base 3 "missed_in" ["exits", "ways", "missed", "turn"] (aA K bD):=F5.cal (PySem.W.mg_of X G a5) (qt F5 T C4) fun _ _ _ _ _ _ us hl=>by obtain ⟨_,_,_,_,rfl⟩:=us4 hl; rfl
 have C10:CalX l.prog w K mg base rn 3 "one_way_of" ["m", "p", "q"] bh:=Fun.calX F10 (PySem.W.mg_of X G a10) (oO F10 T C7) fun _ _ _ _ _ _ us hl=>by obtain ⟨_,_,_,rfl⟩:=us3 hl; rfl
 have C11:CalX l.prog w K mg base rn 3 "lack_of" ["m", "p", "q"] cI:=Fun.calX F11 (PySem.W.mg_of X G a11) (uo F11 T C7) fun _ _ _ _ _ _ us hl=>by obtain ⟨_,_,_,rfl⟩:=us3 hl; rfl
 have C6:Cal l.prog w K mg base 4 "misses_of" ["m"] (aA K bF):=F6.cal (PySem.W.mg_of X G a6) (qI F6 T C2 C1 C5) fun _ _ _ _ _ _ us hl=>by obtain ⟨_,rfl⟩:=us1 hl; rfl
 have C8:CalX l.prog w K mg base rn 5 "missed_at" ["m", "p", "q"] aK:=Fun.calX F8 (PySem.W.mg_of X G a8) (pQ F8 T C7 C6) fun _ _ _ _ _ _ us hl=>by obtain ⟨_,_,_,rfl⟩:=us3 hl; rfl
 have C9:CalX l.prog w K mg base rn 6 "can" ["m", "p", "q"] gK:=Fun.calX F9 (PySem.W.mg_of X G a9) (Eh F9 T C8) fun _ _ _ _ _ _ us hl=>by obtain ⟨_,_,_,rfl⟩:=us3 hl; rfl
 have C18:CalX l.prog w K mg base rn 7 "_law_called" ["_law_way", "_law_m", "_law_p", "_law_q"] bu:=Fun.calX F18 (PySem.W.mg_of X G a18) (lD F18 T C9 C10 C8 C11) fun _ _ _ _ _ _ us hl=>by obtain ⟨_,_,_,_,rfl⟩:=us4 hl; rfl
 have C19:Cal l.prog w K mg base 8 "_law_asked" ["_law_way", "_law_m", "_law_p", "_law_q"] (aA K bj):=F19.cal (PySem.W.mg_of X G a19) (m8 F19 T C18) fun _ _ _ _ _ _ us hl=>by obtain ⟨_,_,_,_,rfl⟩:=us4 hl; rfl
 exact ok_law F20 T C12 C15 C13 C17 C8 C9 C19
theorem walk {l:PySem.W.OpenLaw} {q:Program} {loose:List Str} {XP:(Str->Option Value)->Heap->Prop} {YP:World->Heap->Prop} {d:DefRec} {K:Params->PySem.W.Frag} (hn:l.most=some 63) (hdf:d.params.defaults=[])
  (hY:∀ (w:World) (h:Heap),YP w h->(K w.params).In h)
  (F:∀ (w:World) (mg:Str->Option Value) (fa:Addr) (h:Heap),(K w.params).In h->h.Ns mainGlobals mg->mg d.name=some (.ref fa) ->
   ∃ fd:FuncData,(∀ (s:Shared) (u:Value),BindsTo s fd ⟨[u],[]⟩ [("_law_script",u)])/\∀ base:Heap,(K w.params).In base->base.Ns mainGlobals mg->FnOk l.prog w (K w.params) mg base CX0 9 fa fd ["_law_script"] (aA (K w.params) sp_law)) :
  PySem.W.WalkO q loose XP YP l.row.toRowW d [] (fun f vs=>PySem.call f vs) :=
 L2.walk_of (n:=63) (k:=9) (x := "_law_script") (CX:=fun _=>CX0) (sp:=fun w=>aA (K w.params) sp_law) hn (by decide) hdf ⟨rfl,by decide,by decide⟩ hY F (fun w H a ns hl hO hS=>ye hl hS) fun _ _ _ _ _ z=>z
end L2.Q.Law
open PySem PySem.W PyProof.Rows
namespace PySem.W.Fast
def tw11300138706597362195:=0
def tw2706484595918722109:=0
def tw15008015208058376680:=0
def tw15766687090459618712:=0
def tw3828996383411853888:=0
def tw10969064753194271760:=0
def tw4362861416675175158:=0
def tw6247004895578342980:=0
def tw15860672911690959364:=0
def tw2373100837350227358:=0
def tw7094915080942377374:=0
def tw9261815625674593511:=0
def tw14715171843639799707:=0
def tw16138019211368188776:=0
def tw3750668066361714717:=0
def tw261651438160097170:=0
def tw12386928003716191723:=0
def tw17046556785725993457:=0
def tw15180181881636445121:=0
def tw5485363425639744727:=0
end PySem.W.Fast
set_option maxRecDepth 100000 in
set_option maxHeartbeats 0 in
theorem PySem.Challenge.cw_kinlook_k54_rounds_of_following_holds : PySem.Challenge.rw_kinlook_k54_rounds_of_following.Holds := by
 w_on; o_law; k_head; (case hw=>w_witness2)
 k_fill
 refine L2.Q.Law.walk (l:=PySem.Challenge.rw_kinlook_k54_rounds_of_following) rfl rfl (fun w h Y=>PySem.W.kIn_of Y) ?F
 case F =>
  intro w mg fa h KX G hmg
  refine' L2.Q.Law.all_mk KX G hmg ?a0 ?l0 ?c0 ?k0 ?a1 ?l1 ?c1 ?k1 ?a2 ?l2 ?c2 ?k2 ?a3 ?l3 ?c3 ?k3 ?a4 ?l4 ?c4 ?k4 ?a5 ?l5 ?c5 ?k5 ?a6 ?l6 ?c6 ?k6 ?a7 ?l7 ?c7 ?k7 ?a8 ?l8 ?c8 ?k8 ?a9 ?l9 ?c9 ?k9 ?a10 ?l10 ?c10 ?k10 ?a11 ?l11 ?c11 ?k11 ?a12 ?l12 ?c12 ?k12 ?a13 ?l13 ?c13 ?k13 ?a14 ?l14 ?c14 ?k14 ?a15 ?l15 ?c15 ?k15 ?a16 ?l16 ?c16 ?k16 ?a17 ?l17 ?c17 ?k17 ?a18 ?l18 ?c18 ?k18 ?a19 ?l19 ?c19 ?k19 ?a20 ?l20 ?c20 ?k20 ?n_ValueError ?n__law_step ?n_bool ?n_enumerate ?n_int ?n_isinstance ?n_len ?n_list ?n_min ?n_range ?n_sorted ?xa_KinError ?xa_NoDeed ?xa_NoFrame ?xa_NoMachine ?xa_NoName ?xa_NoRow ?xa_NoScroll ?xa_NoState ?xa_NoText ?xa_TooBig ?xe_KinError ?xg_KinError ?xh_KinError ?xi_KinError ?xj_KinError ?xe_NoState ?xg_NoState ?xh_NoState ?xi_NoState ?xj_NoState ?xs_NoState_KinError ?xt_NoState_NoText ?xt_NoState_NoDeed ?xt_NoState_TooBig ?xt_NoState_NoMachine ?xt_NoState_NoName ?xt_NoState_NoScroll ?xt_NoState_NoFrame ?xt_NoState_NoRow ?xt_NoState_ValueError ?xt_NoState_NoState
  (case a0=>k_is)
  (case l0=>k_is)
  (case c0=>k_is)
  (case k0=>k_is)
  (case a1=>k_is)
  (case l1=>k_is)
  (case c1=>k_is)
  (case k1=>k_is)
  (case a2=>k_is)
  (case l2=>k_is)
  (case c2=>k_is)
  (case k2=>k_is)
  (case a3=>k_is)
  (case l3=>k_is)
  (case c3=>k_is)
  (case k3=>k_is)
  (case a4=>k_is)
  (case l4=>k_is)
  (case c4=>k_is)
  (case k4=>k_is)
  (case a5=>k_is)
  (case l5=>k_is)
  (case c5=>k_is)
  (case k5=>k_is)
  (case a6=>k_is)
  (case l6=>k_is)
  (case c6=>k_is)
  (case k6=>k_is)
  (case a7=>k_is)
  (case l7=>k_is)
  (case c7=>k_is)
  (case k7=>k_is)
  (case a8=>k_is)
  (case l8=>k_is)
  (case c8=>k_is)
  (case k8=>k_is)
  (case a9=>k_is)
  (case l9=>k_is)
  (case c9=>k_is)
  (case k9=>k_is)
  (case a10=>k_is)
  (case l10=>k_is)
  (case c10=>k_is)
  (case k10=>k_is)
  (case a11=>k_is)
  (case l11=>k_is)
  (case c11=>k_is)
  (case k11=>k_is)
  (case a12=>k_is)
  (case l12=>k_is)
  (case c12=>k_is)
  (case k12=>k_is)
  (case a13=>k_is)
  (case l13=>k_is)
  (case c13=>k_is)
  (case k13=>k_is)
  (case a14=>k_is)
  (case l14=>k_is)
  (case c14=>k_is)
  (case k14=>k_is)
  (case a15=>k_is)
  (case l15=>k_is)
  (case c15=>k_is)
  (case k15=>k_is)
  (case a16=>k_is)
  (case l16=>k_is)
  (case c16=>k_is)
  (case k16=>k_is)
  (case a17=>k_is)
  (case l17=>k_is)
  (case c17=>k_is)
  (case k17=>k_is)
  (case a18=>k_is)
  (case l18=>k_is)
  (case c18=>k_is)
  (case k18=>k_is)
  (case a19=>k_is)
  (case l19=>k_is)
  (case c19=>k_is)
  (case k19=>k_is)
  (case a20=>k_is)
  (case l20=>k_is)
  (case c20=>k_is)
  (case k20=>k_is)
  (case n_ValueError=>k_is)
  (case n__law_step=>k_is)
  (case n_bool=>k_is)
  (case n_enumerate=>k_is)
  (case n_int=>k_is)
  (case n_isinstance=>k_is)
  (case n_len=>k_is)
  (case n_list=>k_is)
  (case n_min=>k_is)
  (case n_range=>k_is)
  (case n_sorted=>k_is)
  (case xa_KinError=>k_is)
  (case xa_NoDeed=>k_is)
  (case xa_NoFrame=>k_is)
  (case xa_NoMachine=>k_is)
  (case xa_NoName=>k_is)
  (case xa_NoRow=>k_is)
  (case xa_NoScroll=>k_is)
  (case xa_NoState=>k_is)
  (case xa_NoText=>k_is)
  (case xa_TooBig=>k_is)
  (case xe_KinError=>k_exc)
  (case xg_KinError=>k_is)
  (case xh_KinError=>k_is)
  (case xi_KinError=>k_is)
  (case xj_KinError=>k_is)
  (case xe_NoState=>k_exc)
  (case xg_NoState=>k_is)
  (case xh_NoState=>k_is)
  (case xi_NoState=>k_is)
  (case xj_NoState=>k_is)
  (case xs_NoState_KinError=>k_is)
  (case xt_NoState_NoText=>kit_is)
  (case xt_NoState_NoDeed=>kit_is)
  (case xt_NoState_TooBig=>kit_is)
  (case xt_NoState_NoMachine=>kit_is)
  (case xt_NoState_NoName=>kit_is)
  (case xt_NoState_NoScroll=>kit_is)
  (case xt_NoState_NoFrame=>kit_is)
  (case xt_NoState_NoRow=>kit_is)
  (case xt_NoState_ValueError=>kit_is)
  (case xt_NoState_NoState=>kit_is)
