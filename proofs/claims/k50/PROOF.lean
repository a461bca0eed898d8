import PyProof.Rows.All
import Wide.All
import OpenK.AllK
import Wide.FinOn
import Lean
import PyProof.EqAt
import PyProof.EqKinds
import PyProof.TupleCall
import PyProof.CompUse
import PyProof.NeData
import PyProof.WalksEnum
import PyProof.EnumMake
import PyProof.ZipIter
import PyProof.Rows.EnumRows
import PyProof.Rows.FactsT2
import KE.KDictList
import PyProof.Rows.SortRuns
import PyProof.Rows.SortWalk
import KE.KSortTup
import PyProof.Rows.SortStr
import PyProof.ListRange
import PyProof.StrOps2
import PyProof.StrBlock2
import PyProof.AutoIntG3
import PyProof.ListMulRight
import PyProof.Rows.ListMulArg
import PyProof.Rows.CallKwBuiltin
import PyProof.Rows.StrMul
import KE.KMinBuiltin
import PyProof.TupleKey
import PyProof.SetKind
import PyProof.Rows.SetFrom
import PyProof.DictWalks
import KE.KRevIter
import PySem.Challenge.RW_kinlook_k50_walks_told
open PySem renaming wpAny_bind->xaa,wpAny_pure->xah,wpAny_mono->xaZ
open List renaming length_map->xab,mem_cons_of_mem->xac,mem_cons_self->xad,mem_append_right->xaf,mem_append->xag,mem_append_left->xai,nodup_append->xak,size_toArray->xal,mem_cons->xam,getElem?_eq_some_iff->xas,map_cons->xat,sublist_append_right->xau,nodup_cons->xax,nodup_nil->xay,length_append->xaB,append_nil->xaD,mem_map->xaE,length_take->xaG,length_cons->xaH,getElem?_map->xaK,drop_eq_getElem_cons->xaL,filterMap_cons->xaN,append_assoc->xaO,map_map->xaQ,getElem?_append_right->xaR,mem_range->xaV,getElem?_eq_getElem->xaX,mem_singleton->xaY,map_append->xa0,nil_sublist->xa2,take_length->xa3,sublist_append_left->xa5,mem_of_getElem?->xa6,any_cons->xba,length_drop->xbc,append_eq_nil_iff->xbd,zip_cons_cons->xbg,take_append_drop->xbi,getElem?_append_left->xbk,all_cons->xbl,replicate_succ->xbn,not_mem_nil->xbo,find?_cons->xbq,length_zip->xbu,length_singleton->xbv,take_add_one->xbw,getElem?_eq_none->xbx,pairwise_append->xby,mem_of_mem_take->xbz,all_eq_true->xbB,drop_length->xbD,extract_eq_drop_take->xbG,map_congr_left->xbH,getElem?_replicate->xbK,flatten_cons->xbN,length_range->xbO,ext_getElem?->xbP,pairwise_map->xbQ,take_of_length_le->xbR,length_replicate->xbS,eraseIdxIfInBounds_toArray->xbT,cons_append->xbU,perm_append_comm->xbV,map_fst_zip->xbY,countP_cons->xbZ,cons_ne_nil->xb0,any_eq_true->xb1,mem_of_mem_drop->xb4,mem_filter->xb5,contains_cons->xce,lookup_cons->xci,getElem_mem->xcj
open Nat renaming le_refl->xae,zero_le->xao,lt_of_lt_of_le->xap,ne_of_lt->xav,le_trans->xaA,le_of_lt->xaP,lt_irrefl->xaT,lt_succ_of_lt->xa7,add_sub_of_le->xa8,le_add_right->xbb,succ_pos->xbj,le_of_not_lt->xbA,add_assoc->xbE,min_self->xbL,lt_of_succ_lt->xbM,one_pos->xbX,le_antisymm->xb6,add_comm->xb8,le_of_eq->xb9,sub_lt->xca,lt_of_le_of_lt->xcc,zero_add->xck
open PySem.Heap renaming get?_push_of_some->xaj,lt_size->xan,get?_push_size->xaw,get?_push_ne->xbm,size_update->xbp
open Bool renaming false_ne_true->xaq,false_eq_true->xar,and_eq_true->xaz,eq_iff_iff->xaW,not_eq_true'->xcg
open Array renaming toList_push->xaC,getElem?_toList->xaF,length_toList->xaI,eq_empty_of_size_eq_zero->xaS,size_extract->xa4,getD_eq_getD_getElem?->xbe,append_assoc->xbf,getElem?_eq_some_iff->xbh,getElem?_eq_none->xbs,getElem?_extract->xbt,perm_iff_toList_perm->xbC,getElem?_eq_getElem->xbF,toList_inj->xbW,toArray_toList->xb2,toList_extract->xb3,append_empty->xcd
open Int renaming emod_lt_of_pos->xaJ,emod_nonneg->xaM,le_trans->xaU,le_refl->xa1,le_of_lt->xa9,toNat_of_nonneg->xcb
open Option renaming map_eq_some_iff->xbr,map_some->xbI,isSome_iff_exists->xbJ,not_isSome_iff_eq_none->xb7,isSome_map->xcf
local macro_rules | `(command| def $i:declId $s:optDeclSig $v:declVal)=>`(command| noncomputable def $i:declId $s:optDeclSig $v:declVal)
local macro_rules | `(command| abbrev $i:declId $s:optDeclSig $v:declVal)=>`(command| noncomputable abbrev $i:declId $s:optDeclSig $v:declVal)
set_option compiler.extract_closed false
local macro_rules | `(tactic| walk_at "l") => `(tactic| first | lia | omega)
local macro_rules | `(tactic| walk_at "s1") => `(tactic| solve_by_elim (maxDepth := 4) [Nat.lt_of_lt_of_le, Nat.lt_of_le_of_lt, Nat.le_trans, Nat.lt_trans, Nat.le_of_lt, Nat.le_of_not_lt])
local macro_rules | `(tactic| walk_at "s2") => `(tactic| solve_by_elim (maxDepth := 5) [Nat.lt_of_lt_of_le, Nat.lt_of_le_of_lt, Nat.le_trans, Nat.le_of_lt, Nat.le_of_not_lt, Nat.lt_of_not_le, Nat.lt_of_succ_lt, Nat.le_of_succ_le])
local macro_rules | `(tactic| walk_at "s3") => `(tactic| solve_by_elim (maxDepth := 5) [Int.lt_of_lt_of_le, Int.lt_of_le_of_lt, Int.le_trans, Int.le_of_lt, Int.not_lt.mp, Int.not_le.mp])
local macro_rules | `(tactic| walk_at "s4") => `(tactic| solve_by_elim (maxDepth := 5) [Nat.le_trans, Nat.lt_of_lt_of_le, Nat.le_of_lt, Nat.le_add_right, Nat.le_add_left, Nat.add_le_add_left, Nat.add_lt_add_left, Nat.succ_le_succ, Nat.sub_le])
theorem L2.ex2 {α β:Type _} {A B C:α->β->Prop} {G:Prop} (x:∃ a b,A a b/\B a b/\C a b) (k:∀ a b,A a b->B a b->C a b->G):G :=
 let ⟨a,b,p,q,r⟩:=x
 k a b p q r
set_option Elab.async false
set_option linter.all false
set_option maxRecDepth 100000
namespace L2
open PySem PySem.Spec PyProof.Rows
abbrev Key:=Sum Int Str
def keyIs:Key->Value->Bool
 | .inl k,v=>Value.isInt k v
 | .inr x,v=>Value.isStrOf x v
def keyH (w:World):Key->Int
 | .inl k=>hashInt k
 | .inr x=>hashStr w x
theorem keyIs_shape:∀ {k:Key} {v:Value},keyIs k v=true->(∃ i t,k=Sum.inl i/\v=Value.int i t)\/(∃ x t,k=Sum.inr x/\v=Value.str x t)
 | .inl i,v,h=>by
  obtain ⟨t,e⟩:=Value.isInt_shape (k:=i) (v:=v) h
  exact .inl ⟨i,t,rfl,e⟩
 | .inr x,v,h=>by
  obtain ⟨t,e⟩:=Value.isStrOf_shape (x:=x) (v:=v) h
  exact .inr ⟨x,t,rfl,e⟩
theorem keyIs_int (i:Int) (t:Tok):keyIs (.inl i) (.int i t)=true:=by simp [keyIs,Value.isInt]
theorem keyIs_str (x:Str) (t:Tok):keyIs (.inr x) (.str x t)=true:=by simp [keyIs,Value.isStrOf]
theorem key_ll (a b:Int):decide ((Sum.inl a:Key)=Sum.inl b)=(a == b):=by
 by_cases e:a=b
 ·subst e; simp
 ·have h:¬ (Sum.inl a:Key)=Sum.inl b:=fun q=>e (Sum.inl.inj q)
  rw [decide_eq_false h]
  exact (beq_eq_false_iff_ne.mpr e).symm
theorem key_rr (a b:Str):decide ((Sum.inr a:Key)=Sum.inr b)=decide (a=b):=by
 by_cases e:a=b
 ·subst e; simp
 ·have h:¬ (Sum.inr a:Key)=Sum.inr b:=fun q=>e (Sum.inr.inj q)
  rw [decide_eq_false h,decide_eq_false e]
theorem key_lr (a:Int) (b:Str):decide ((Sum.inl a:Key)=Sum.inr b)=false:=decide_eq_false (fun q=>nomatch q)
theorem key_rl (a:Str) (b:Int):decide ((Sum.inr a:Key)=Sum.inl b)=false:=decide_eq_false (fun q=>nomatch q)
def mixKind (prog:Program) (w:World):PySem.KeyKind prog w Key where
 is:=keyIs
 hash:=keyH w
 inj:=fun v a b ha hb=>by
  rcases keyIs_shape ha with ⟨i,t,rfl,rfl⟩ | ⟨x,t,rfl,rfl⟩
  ·rcases keyIs_shape hb with ⟨j,u,rfl,e⟩ | ⟨y,u,rfl,e⟩
   ·injection e with e1 _; rw [e1]
   ·exact nomatch e
  ·rcases keyIs_shape hb with ⟨j,u,rfl,e⟩ | ⟨y,u,rfl,e⟩
   ·exact nomatch e
   ·injection e with e1 _; rw [e1]
 byValue:=fun k v h=>by
  rcases keyIs_shape h with ⟨i,t,rfl,rfl⟩ | ⟨x,t,rfl,rfl⟩ <;> rfl
 pyHash:=fun hv h=>by
  rcases keyIs_shape hv with ⟨i,t,rfl,rfl⟩ | ⟨x,t,rfl,rfl⟩
  ·exact wpAny_pyHash_int h
  ·exact wpAny_pyHash_str h
 eqBool:=fun hu hv h=>by
  rcases keyIs_shape hu with ⟨i,t,rfl,rfl⟩ | ⟨x,t,rfl,rfl⟩
  ·rcases keyIs_shape hv with ⟨j,u,rfl,rfl⟩ | ⟨y,u,rfl,rfl⟩
   ·rw [key_ll] at h; exact wpAny_eqBool_int h
   ·rw [key_lr] at h; exact SeqAt.EqAt.int_str i t y u _ _ _ _ h
  ·rcases keyIs_shape hv with ⟨j,u,rfl,rfl⟩ | ⟨y,u,rfl,rfl⟩
   ·rw [key_rl] at h; exact SeqAt.EqAt.str_int x t j u _ _ _ _ h
   ·rw [key_rr] at h; exact wpAny_eqBool_str h
 «strs» := fun k x t v h=>by
  rcases keyIs_shape h with ⟨i,u,rfl,e⟩ | ⟨y,u,rfl,e⟩
  ·exact nomatch e
  ·injection e with e1 _
   subst e1
   cases v <;> rfl
theorem mixKind_int (prog:Program) (w:World) (i:Int) (t:Tok):(mixKind prog w).is (.inl i) (.int i t)=true:=keyIs_int i t
theorem mixKind_str (prog:Program) (w:World) (x:Str) (t:Tok):(mixKind prog w).is (.inr x) (.str x t)=true:=keyIs_str x t
inductive V where
 | non | bl (b:Bool) | int (i:Int) | str (x:Str) | byt (b:Array UInt8) | flt (b:UInt64) | ref (a:Addr) | ty (n:String)
 deriving DecidableEq
def RelV:V->Value->Prop
 | .non,u=>u=Value.none
 | .bl b,u=>u=Value.bool b
 | .int i,u=>∃ t,u=Value.int i t
 | .str x,u=>∃ t,u=Value.str x t
 | .byt b,u=>∃ t,u=Value.bytes b t
 | .flt b,u=>∃ t,u=Value.float b t
 | .ref a,u=>u=Value.ref a
 | .ty n,u=>u=Value.type n
abbrev Vals:List V->List Value->Prop:=Paired RelV
theorem Vals.length (r:Vals xs us):xs.length=us.length:=Paired.length r
theorem Vals.get:∀ {xs:List V} {us:List Value} {i:Nat} {x:V},Vals xs us->xs[i]? = some x->∃ u,us[i]? = some u/\RelV x u
 | _,_,_,_,.nil,e=>by simp at e
 | _,_,0,_,.cons r _,e=>by simp at e; subst e; exact ⟨_,rfl,r⟩
 | _,_,i+1,x,.cons _ t,e=>by
  obtain ⟨u,h1,h2⟩:=Vals.get (i:=i) (x:=x) t (by simpa using e)
  exact ⟨u,by simpa using h1,h2⟩
theorem Vals.set (r:RelV x u):∀ {xs:List V} {us:List Value} (i:Nat),Vals xs us->Vals (xs.set i x) (us.set i u)
 | _,_,_,.nil=>.nil
 | _,_,0,.cons _ t=>.cons r t
 | _,_,i+1,.cons q t=>.cons q (Vals.set r i t)
theorem Vals.append:∀ {xs ys:List V} {us ws:List Value},Vals xs us->Vals ys ws->Vals (xs++ys) (us++ws)
 | _,_,_,_,.nil,s=>s
 | _,_,_,_,.cons r t,s=>.cons r (Vals.append t s)
theorem Vals.take:∀ {xs:List V} {us:List Value} (n:Nat),Vals xs us->Vals (xs.take n) (us.take n)
 | _,_,0,_=>.nil
 | _,_,_+1,.nil=>.nil
 | _,_,n+1,.cons r t=>.cons r (Vals.take n t)
theorem Vals.drop:∀ {xs:List V} {us:List Value} (n:Nat),Vals xs us->Vals (xs.drop n) (us.drop n)
 | _,_,0,r=>r
 | _,_,_+1,.nil=>.nil
 | _,_,n+1,.cons _ t=>Vals.drop n t
def RelO:Option V->Option Value->Prop
 | some v,some u=>RelV v u
 | none,none=>True
 | _,_=>False
def KV {κ:Type}:List (κ × V)->List (κ × Value)->Prop:=Paired fun (p:κ × V) (q:κ × Value)=>p.1=q.1/\RelV p.2 q.2
def kV:Key->V
 | .inl i=>.int i
 | .inr x=>.str x
inductive HO where
 /-- a list -/
 | lst (xs:List V)
 /-- a tuple (never changes) -/
 | tup (xs:List V)
 /-- a dict whose keys are ints and texts; one whose keys are tuples of ints and texts (the empty one is both) -/
 | dK (kvs:List (Key × V)) | dT (kvs:List (List Key × V))
 /-- a set of ints: its members,its size -/
 | set (S:Int->Bool) (n:Nat)
 /-- an instance of the class at C,its dict at dx,its attributes -/
 | ins (C dx:Addr) (fs:List (Str × V))
 /-- the dict of the instance at x -/
 | own (x:Addr)
 /-- the dict of an exception -/
 | xd (fs:List (Str × V))
 /-- a bound method,f of x -/
 | met (f x:Addr)
 /-- a range object lo,lo+1,.. below hi -/
 | rng (lo hi:Int)
 /-- a thing that is known to the object (the script; a dict while a loop walks it): read,never written while it is so -/
 | frz (o:Obj) (u:HO)
 /-- a code object's table -/
 | tbl (ps:Array Value)
 /-- any other thing,by what is true of its one object (a def of one's own: SetO a S n:=HO.ext fun h=>..) -/
 | ext (φ:Heap->Prop)
abbrev Hp:=Addr->Option HO
def upd (H:Hp) (a:Addr) (o:HO):Hp:=fun b=>if b=a then some o else H b
theorem upd_same:upd H a o a=some o:=by unfold upd; rw [if_pos rfl]
theorem upd_ne (h:b≠a):upd H a o b=H b:=by unfold upd; rw [if_neg h]
theorem ne_of {H:Hp} {a b:Addr} {o u:HO} (h:H a=some o) (h':H b=some u) (d:o≠u):a≠b:=by
 intro e; subst e; rw [h] at h'; exact d (Option.some.inj h')
theorem ne_of_none {H:Hp} {a b:Addr} {o:HO} (h:H a=some o) (h':H b=none):a≠b:=by
 intro e; subst e; rw [h] at h'; cases h'
section
variable (P:Program) (w:World)
def ObjOk (H:Hp) (h:Heap) (a:Addr):HO->Prop
 | .lst xs=>xs.length<=sizeLine/\∃ (its:List Value) (n:Nat),Vals xs its/\h.get? a=some { cls:=.type "list",data:=.seq its.toArray n }
 | .tup xs=>xs.length<=sizeLine/\∃ its:List Value,Vals xs its/\IsTup h a its.toArray
 | .dK kvs=>kvs.length<=sizeLine/\(a == sysModules)=false/\∃ vs,KV kvs vs/\h.DictOf (mixKind P w) a vs
 | .dT kvs=>kvs.length<=sizeLine/\(a == sysModules)=false/\∃ xs:List (List Key × Addr × Value),
   Paired (fun (p:List Key × V) (q:List Key × Addr × Value)=>p.1=q.1/\H q.2.1=some (.tup (p.1.map kV))/\RelV p.2 q.2.2) kvs xs /\
   ∃ o es ep,h.get? a=some o/\o.ExactDict/\o.data=.dict es ep/\es.toList=xs.map (entryOfKey (tupleKind (mixKind P w)))/\(xs.map (·.1)).Nodup
 | .set S n=>h.SetOf (intKind P w) a S n
 | .ins C dx fs=>H dx=some (.own a)/\fs.length<=1000/\dx≠a/\h.get? a=some (PySem.W.instObj C dx) /\
   ∃ mA,h.Ns1 dx mA/\(∀ f,RelO (fs.lookup f) (mA f))/\PySem.Within mA (fs.map (·.1))
 | .own _=>∃ o,h.get? a=some o
 | .xd fs=>∃ mA,h.Ns1 a mA/\∀ f,RelO (fs.lookup f) (mA f)
 | .rng lo hi=>∃ t u v,h.get? a=some { cls:=.type "range",data:=.fields #[.int lo t,.int hi u,.int 1 v] }
 | .frz o u=>h.get? a=some o/\ObjOk H h a u
 | .tbl ps=>h.get? a=some { cls:=.none,data:=.fields ps }
 | .met f x=>h.get? a=some (PySem.W.methodObj (.ref f) (.ref x))
 | .ext φ=>φ h/\(∃ o,h.get? a=some o)/\∀ h1 h2:Heap,φ h1->(∀ o,h1.get? a=some o->h2.get? a=some o)->φ h2
def HOk (H:Hp) (h:Heap):Prop:=∀ a o,H a=some o->ObjOk P w H h a o
end
section
variable {P:Program} {w:World} {H H':Hp} {h h':Heap} {a:Addr} {o:HO}
theorem ObjOk.lt (x:ObjOk P w H h a o):a<h.objs.size:=by
 cases o with
 | lst xs=>obtain ⟨_,_,_,_,e⟩:=x; exact xan e
 | tup xs=>obtain ⟨_,_,_,p⟩:=x; exact p.lt
 | dK kvs=>obtain ⟨_,_,_,_,o,_,_,e,_⟩:=x; exact xan e
 | dT kvs=>obtain ⟨_,_,_,_,o,_,_,e,_⟩:=x; exact xan e
 | set S n=>obtain ⟨o,_,_,_,e,_⟩:=x; exact xan e
 | ins C dx fs=>obtain ⟨_,_,_,e,_⟩:=x; exact xan e
 | own y=>obtain ⟨_,e⟩:=x; exact xan e
 | xd fs=>obtain ⟨_,⟨_,_,_,e,_⟩,_⟩:=x; exact xan e
 | rng lo hi=>obtain ⟨_,_,_,e⟩:=x; exact xan e
 | frz ob u=>obtain ⟨e,_⟩:=x; exact xan e
 | tbl ps=>exact xan (show h.get? a=some _ from x)
 | met f y=>exact xan (show h.get? a=some _ from x)
 | ext φ=>obtain ⟨_,⟨_,e⟩,_⟩:=x; exact xan e
theorem Paired.mapP {α β:Type} {F G:α->β->Prop}:∀ {l₁:List α} {l₂:List β},Paired F l₁ l₂->(∀ a b,F a b->G a b)->Paired G l₁ l₂
 | _,_,.nil,_=>.nil
 | _,_,.cons r t,f=>.cons (f _ _ r) (Paired.mapP t f)
theorem ObjOk.stay (x:ObjOk P w H h a o) (k:∀ b u,(b=a\/H b=some (.own a))->h.get? b=some u->h'.get? b=some u)
  (ho:∀ b,H b=some (.own a)->H' b=some (.own a)) (ht:∀ b xs,H b=some (.tup xs)->H' b=some (.tup xs)):ObjOk P w H' h' a o:=by
 induction o with
 | lst xs=>obtain ⟨z,its,n,r,e⟩:=x; exact ⟨z,its,n,r,k _ _ (.inl rfl) e⟩
 | tup xs=>obtain ⟨z,its,r,ob,e,c⟩:=x; exact ⟨z,its,r,ob,k _ _ (.inl rfl) e,c⟩
 | dK kvs=>obtain ⟨z,y,vs,r,ob,es,ep,e,c⟩:=x; exact ⟨z,y,vs,r,ob,es,ep,k _ _ (.inl rfl) e,c⟩
 | dT kvs =>
  obtain ⟨z,y,xs,r,ob,es,ep,e,c⟩:=x
  exact ⟨z,y,xs,Paired.mapP r fun p q z=>⟨z.1,ht _ _ z.2.1,z.2.2⟩,ob,es,ep,k _ _ (.inl rfl) e,c⟩
 | set S n=>obtain ⟨ob,es,ep,t,e,c⟩:=x; exact ⟨ob,es,ep,t,k _ _ (.inl rfl) e,c⟩
 | ins C dx fs =>
  obtain ⟨d,z,ne,e,mA,⟨od,es,ep,e2,c⟩,r⟩:=x
  exact ⟨ho _ d,z,ne,k _ _ (.inl rfl) e,mA,⟨od,es,ep,k _ _ (.inr d) e2,c⟩,r⟩
 | own y=>obtain ⟨ob,e⟩:=x; exact ⟨ob,k _ _ (.inl rfl) e⟩
 | xd fs=>obtain ⟨mA,⟨od,es,ep,e,c⟩,r⟩:=x; exact ⟨mA,⟨od,es,ep,k _ _ (.inl rfl) e,c⟩,r⟩
 | rng lo hi=>obtain ⟨t,u,v,e⟩:=x; exact ⟨t,u,v,k _ _ (.inl rfl) e⟩
 | frz ob u ih=>obtain ⟨e,q⟩:=x; exact ⟨k _ _ (.inl rfl) e,ih q⟩
 | tbl ps =>
  have e:h.get? a=some { cls:=.none,data:=.fields ps }:=x
  show h'.get? a=some { cls:=.none,data:=.fields ps }
  exact k a _ (.inl rfl) e
 | met f y =>
  have e:h.get? a=some (PySem.W.methodObj (.ref f) (.ref y)):=x
  show h'.get? a=some (PySem.W.methodObj (.ref f) (.ref y))
  exact k a _ (.inl rfl) e
 | ext φ=>obtain ⟨p,⟨o,e⟩,st⟩:=x; exact ⟨st _ _ p fun o q=>k _ _ (.inl rfl) q,⟨o,k _ _ (.inl rfl) e⟩,st⟩
theorem HOk.lt (x:HOk P w H h) (e:H a=some o):a<h.objs.size:=(x a o e).lt
theorem HOk.fresh (x:HOk P w H h) (e:h.objs.size<=a):H a=none:=by
 cases q:H a with
 | none=>rfl
 | some u=>exact absurd (xap (x.lt q) e) (xaT _)
theorem HOk.kept (x:HOk P w H h) (k:∀ b u,h.get? b=some u->h'.get? b=some u):HOk P w H h':=fun a o e =>
 (x a o e).stay (fun b u _ q=>k b u q) (fun _ q=>q) fun _ _ q=>q
theorem HOk.laid (x:HOk P w H h) (k:∀ b u,h.get? b=some u->h'.get? b=some u) (hp:h.objs.size<=a) (new:ObjOk P w (upd H a o) h' a o):HOk P w (upd H a o) h':=fun b u e=>by
 have hn:=x.fresh hp
 by_cases hb:b=a
 ·subst hb; rw [upd_same] at e; cases e; exact new
 ·rw [upd_ne hb] at e
  exact (x b u e).stay (fun c v _ q=>k c v q) (fun c q=>by rw [upd_ne (ne_of_none q hn)]; exact q) fun c xs q=>by rw [upd_ne (ne_of_none q hn)]; exact q
end
def Rd (H:Hp) (a:Addr) (u:HO):Prop:=H a=some u\/∃ o,H a=some (.frz o u)
theorem Rd.ok {P:Program} (r:Rd H a u) (x:HOk P w H h):ObjOk P w H h a u:=by
 rcases r with r | ⟨o,r⟩
 ·exact x a u r
 ·obtain ⟨_,q⟩:=x a _ r
  exact q
def Mut:Option HO->Prop
 | some (.lst _)=>True
 | some (.dK _)=>True
 | some (.dT _)=>True
 | some (.set _ _)=>True
 | some (.ins _ _ _)=>True
 | some (.ext _)=>True
 | _=>False
section
variable {P:Program} {w:World} {H:Hp} {h h':Heap} {x e:Addr} {o':HO}
theorem HOk.write (ok:HOk P w H h) (mu:Mut (H x)) (he:e=x\/H e=some (.own x)) (k:∀ b u,b≠e->h.get? b=some u->h'.get? b=some u) (heo:∃ u,h'.get? e=some u)
  (new:ObjOk P w (upd H x o') h' x o'):HOk P w (upd H x o') h':=fun b u q=>by
 have nown:∀ c y,H c=some (.own y)->c≠x:=fun c y r z=>by subst z; rw [r] at mu; exact mu
 have ntup:∀ c xs,H c=some (.tup xs)->c≠x:=fun c xs r z=>by subst z; rw [r] at mu; exact mu
 by_cases hb:b=x
 ·subst hb; rw [upd_same] at q; cases q; exact new
 ·rw [upd_ne hb] at q
  by_cases hbe:b=e
  ·have q':H b=some (.own x):=by
    rcases he with z | z
    ·exact absurd (hbe.trans z) hb
    ·rw [hbe]; exact z
   rw [q] at q'; cases q'
   obtain ⟨v,hv⟩:=heo
   exact ⟨v,by rw [hbe]; exact hv⟩
  ·refine (ok b u q).stay (fun c v hc r=>k c v ?_ r) (fun c r=>by rw [upd_ne (nown c b r)]; exact r) fun c xs r=>by rw [upd_ne (ntup c xs r)]; exact r
   rcases hc with rfl | hc
   ·exact hbe
   ·rintro rfl
    rcases he with z | z
    ·exact nown c b hc z
    ·rw [hc] at z; cases z; exact hb rfl
end
structure Un (fs ex:List Addr) (H H':Hp) (h h':Heap):Prop where
 keep:∀ b o,h.get? b=some o->H b=none->b∉fs->b∉ex->h'.get? b=some o
 slot:∀ b o,h.get? b=some o->H b=none->b∈fs->b∉ex->∃ sl,h'.get? b=some { o with slots:=sl }
 free:∀ b o,h.get? b=some o->H b=none->b∉ex->H' b=none
 there:∀ b o,h.get? b=some o->b∉ex->∃ o',h'.get? b=some o'
 tups:∀ b xs,H b=some (.tup xs)->H' b=some (.tup xs)
 frzs:∀ b o u,H b=some (.frz o u)->H' b=some (.frz o u)
 tbls:∀ b ps,H b=some (.tbl ps)->∃ more,H' b=some (.tbl (ps++more))
section
variable {fs fs' ex ex':List Addr} {H H1 H2:Hp} {h h1 h2 h':Heap} {a x e:Addr} {o:HO}
theorem Un.any (u:Un fs ex H H1 h h1) (q:h.get? b=some ob) (n:H b=none) (hx:b∉ex):∃ sl,h1.get? b=some { ob with slots:=sl }:=by
 by_cases hb:b∈fs
 ·exact u.slot b ob q n hb hx
 ·exact ⟨ob.slots,u.keep b ob q n hb hx⟩
theorem Un.trans (a:Un fs ex H H1 h h1) (b:Un fs ex H1 H2 h1 h2):Un fs ex H H2 h h2 where
 keep:=fun c ob q n hc hx=>b.keep c ob (a.keep c ob q n hc hx) (a.free c ob q n hx) hc hx
 slot:=fun c ob q n hc hx=>by
  obtain ⟨sl,e1⟩:=a.slot c ob q n hc hx
  obtain ⟨sl',e2⟩:=b.slot c _ e1 (a.free c ob q n hx) hc hx
  exact ⟨sl',e2⟩
 free:=fun c ob q n hx=>by
  obtain ⟨o',e1⟩:=a.there c ob q hx
  exact b.free c o' e1 (a.free c ob q n hx) hx
 there:=fun c ob q hx=>by
  obtain ⟨o',e1⟩:=a.there c ob q hx
  exact b.there c o' e1 hx
 tups:=fun c xs q=>b.tups c xs (a.tups c xs q)
 frzs:=fun c ob xs q=>b.frzs c ob xs (a.frzs c ob xs q)
 tbls:=fun c ps q=>by
  obtain ⟨m1,e1⟩:=a.tbls c ps q
  obtain ⟨m2,e2⟩:=b.tbls c _ e1
  exact ⟨m1++m2,by rw [e2,xbf]⟩
theorem Un.kept (k:∀ b u,h.get? b=some u->h'.get? b=some u):Un fs ex H H h h' :=
 ⟨fun b ob q _ _ _=>k b ob q,fun b ob q _ _ _=>⟨ob.slots,k b ob q⟩,fun _ _ _ n _=>n,fun b ob q _=>⟨ob,k b ob q⟩,fun _ _ q=>q,fun _ _ _ q=>q,fun _ ps q=>⟨#[],by rw [q]; simp⟩⟩
theorem Un.refl:Un fs ex H H h h:=Un.kept fun _ _ q=>q
theorem Un.laid (k:∀ b u,h.get? b=some u->h'.get? b=some u) (hp:h.objs.size<=a) (hn:H a=none):Un fs ex H (upd H a o) h h' where
 keep:=fun b u q _ _ _=>k b u q
 slot:=fun b u q _ _ _=>⟨u.slots,k b u q⟩
 free:=fun b u q n _=>by rw [upd_ne (xav (xap (xan q) hp))]; exact n
 there:=fun b u q _=>⟨u,k b u q⟩
 tups:=fun b xs q=>by rw [upd_ne (ne_of_none q hn)]; exact q
 frzs:=fun b u xs q=>by rw [upd_ne (ne_of_none q hn)]; exact q
 tbls:=fun b ps q=>⟨#[],by rw [upd_ne (ne_of_none q hn),q]; simp⟩
theorem Un.write (mu:Mut (H x)) (he:e=x\/H e=some (.own x)) (k:∀ b u,b≠e->h.get? b=some u->h'.get? b=some u) (heo:∃ u,h'.get? e=some u):Un fs ex H (upd H x o) h h':=by
 have hx:∀ b,H b=none->b≠x:=fun b n z=>by subst z; rw [n] at mu; exact mu
 have hb:∀ b,H b=none->b≠e:=fun b n z=>by
  subst z
  rcases he with r | r
  ·exact hx b n r
  ·rw [n] at r; cases r
 have hm:∀ b u,H b=some u->¬ Mut (some u)->b≠x:=fun b u q nm z=>by subst z; rw [q] at mu; exact nm mu
 refine ⟨fun b u q n _ _=>k b u (hb b n) q,fun b u q n _ _=>⟨u.slots,k b u (hb b n) q⟩,fun b u q n _=>by rw [upd_ne (hx b n)]; exact n,fun b u q _=>?_,
  fun b xs q=>by rw [upd_ne (hm b _ q fun z=>z)]; exact q,fun b u xs q=>by rw [upd_ne (hm b _ q fun z=>z)]; exact q,fun b ps q=>⟨#[],by rw [upd_ne (hm b _ q fun z=>z),q]; simp⟩⟩
 by_cases hbe:b=e
 ·subst hbe; exact heo
 ·exact ⟨u,k b u hbe q⟩
theorem Un.mono (u:Un fs ex H H1 h h1) (hs:∀ b∈fs,b∈fs') (hx:∀ b∈ex,b∈ex'):Un fs' ex' H H1 h h1 :=
 ⟨fun b ob q n hb he=>u.keep b ob q n (fun z=>hb (hs b z)) fun z=>he (hx b z),fun _ _ q n _ he=>u.any q n fun z=>he (hx _ z),fun b ob q n he=>u.free b ob q n fun z=>he (hx b z),fun b ob q he=>u.there b ob q fun z=>he (hx b z),u.tups,u.frzs,u.tbls⟩
end
def trk (h:Heap) (H:Hp):List Addr:=(List.range h.objs.size).filter fun a=>(H a).isSome
def hidT (h:Heap) (H:Hp):Heap:=PySem.W.hideAll h (trk h H)
theorem hidT_size (h:Heap) (H:Hp):(hidT h H).objs.size=h.objs.size:=PySem.W.hideAll_size _ _
theorem hidT_get (e:h.get? b=some o) (n:H b=none):(hidT h H).get? b=some o :=
 PySem.W.hideAll_get _ e fun hm=>by
  have q:(H b).isSome=true:=(xb5.mp hm).2
  rw [n] at q; simp at q
theorem of_hidT (e:(hidT h H).get? b=some o):h.get? b=some o/\H b=none:=by
 have e':h.get? b=some o:=PySem.W.of_hideAll (trk h H) e
 refine ⟨e',?_⟩
 cases q:H b with
 | none=>rfl
 | some x =>
  have hm:b∈trk h H:=xb5.mpr ⟨xaV.mpr (xan e'),by simp [q]⟩
  have z:(hidT h H).get? b=none:=PySem.W.hideAll_none (trk h H) hm
  rw [z] at e; cases e
def allNews (g h:Heap) (L:Addr):List (Addr × Obj):=(List.range h.objs.size).filterMap fun a=>if a=L\/(g.get? a).isSome=true then none else (h.get? a).map fun o=>(a,o)
def rest (g h:Heap) (L d:Addr):List (Addr × Obj):=(allNews g h L).filter fun p=>decide (p.1≠d)
structure Mod (K:PySem.W.Frag) (mg:Str->Option Value) (base:Heap):Prop where
 kin:K.In base
 glob:base.Ns mainGlobals mg
 blt:∃ mb,base.Ns builtinsNs mb/\∀ x:Str,x ≠ "__name__"->mb x=bootBuiltins x
 nolimit:base.NoLimit
structure Cx where
 prog:Program
 w:World
 K:PySem.W.Frag
 mg:Str->Option Value
 base:Heap
 A:Around
 N:List Str
 s₀:Shared
 H₀:Hp
 env:Env
 outer:List Env
 stack:List Env
 ex:List Addr
 fn:Str->Bool
 calm:Bool
 pn:List (Addr × Obj)
 xe:Value->Shared->Prop
def frs (l:List Env):List Addr:=l.filterMap (·.frame)
abbrev Cx.fs (X:Cx):List Addr:=frs X.outer
def Vis (sc:Scope) (x:Str):Prop:=sc.names.lookup x=some .local\/sc.names.lookup x=some .cell\/sc.names.lookup x=some .free
def Loc (sc:Scope) (x:Str):Prop:=sc.names.lookup x=some .local\/sc.names.lookup x=some .cell
def Look (env:Env) (h:Heap) (m:Str->Option Value) (x:Str) (u:Value):Prop :=
 (env.kindOf x=some .local/\m x=some u)\/((env.kindOf x=some .cell\/env.kindOf x=some .free)/\∃ c,env.cells.lookup x=some c/\h.IsCell c (some u))
structure Cx.Ok (X:Cx):Prop where
 mod:Mod X.K X.mg X.base
 kind:X.env.scope.kind=.function
 glob:X.env.globals=mainGlobals
 blt:X.env.builtins=builtinsNs
 above:X.s₀.heap.objs.size<=X.env.locals
 inj:∀ x y c,X.env.cells.lookup x=some c->X.env.cells.lookup y=some c->x=y
 has:∀ x,(X.env.kindOf x=some .cell\/X.env.kindOf x=some .free)->∃ c,X.env.cells.lookup x=some c
 cab:∀ x c,X.fn x=true->X.env.cells.lookup x=some c->X.s₀.heap.objs.size<=c
 hd:X.calm=true->X.A.handled=none
 frames:X.A.frames=some X.stack
 stk:X.stack=X.outer\/(X.stack=X.env :: X.outer/\X.env.frame=some X.env.locals)
 exf:∀ b∈X.ex,b≠X.env.locals/\∀ x c,X.env.cells.lookup x=some c->c≠b
 bs:∀ b o,X.base.get? b=some o->X.s₀.heap.get? b=some o/\X.H₀ b=none
 bsz:X.base.objs.size<=X.s₀.heap.objs.size
 noex:∀ b o,X.base.get? b=some o->b∉X.ex
 exfs:∀ b∈X.ex,b∉X.fs
 funs:X.s₀.heap.FunFrames X.base X.outer
 frf:∀ b∈X.fs,X.H₀ b=none
structure Inv (X:Cx) (pins:List (Addr × Obj)) (σ:List (Option V)) (H:Hp) (s:Shared):Prop where
 ok:X.Ok
 os:s.os=X.s₀.os
 bare:AllBare s.gens
 base:Un X.fs X.ex X.H₀ H X.s₀.heap s.heap
 loc:∃ m,s.heap.Ns X.env.locals m/\∀ (i:Nat) (x:Str) (v:V),X.N[i]? = some x->σ[i]? = some (some v)->Vis X.env.scope x->∃ u,RelV v u/\Look X.env s.heap m x u
 cell:∀ x c,X.env.cells.lookup x=some c->∃ v,s.heap.IsCell c v
 free:H X.env.locals=none
 freeC:∀ x c,X.env.cells.lookup x=some c->H c=none
 pin:∀ p∈X.pn++pins,s.heap.get? p.1=some p.2/\H p.1=none/\p.1≠X.env.locals/\p.1∉X.fs/\∀ v,p.2.data≠.cell v
 hok:HOk X.prog X.w H s.heap
 len:σ.length=X.N.length
section
variable {X:Cx} {pins:List (Addr × Obj)} {σ:List (Option V)} {H H':Hp} {s:Shared} {h':Heap}
theorem Cx.Ok.nofr (ok:X.Ok) (e:X.base.get? b=some o):b∉X.fs:=fun hb=>by
 have:=(ok.funs.mem hb).1
 rw [e] at this; cases this
theorem Inv.bs (I:Inv X pins σ H s):∀ b o,X.base.get? b=some o->s.heap.get? b=some o/\H b=none:=fun b o e =>
 ⟨I.base.keep b o (I.ok.bs b o e).1 (I.ok.bs b o e).2 (I.ok.nofr e) (I.ok.noex b o e),I.base.free b o (I.ok.bs b o e).1 (I.ok.bs b o e).2 (I.ok.noex b o e)⟩
theorem Inv.bk (I:Inv X pins σ H s):∀ b o,X.base.get? b=some o->s.heap.get? b=some o:=fun b o e=>(I.bs b o e).1
theorem Inv.mod (I:Inv X pins σ H s):Mod X.K X.mg X.base:=I.ok.mod
theorem Inv.kIn (I:Inv X pins σ H s):X.K.In s.heap:=I.ok.mod.kin.keeps I.bk
theorem Inv.lt (I:Inv X pins σ H s):X.env.locals<s.heap.objs.size:=let ⟨_,hn,_⟩:=I.loc; hn.lt
theorem Inv.sz (I:Inv X pins σ H s):X.s₀.heap.objs.size<=s.heap.objs.size:=xaA I.ok.above (xaP I.lt)
theorem Inv.nofs (I:Inv X pins σ H s) (h:s.heap.objs.size<=a):a∉X.fs:=fun hb=>by
 obtain ⟨_,o,ho,_⟩:=I.ok.funs.mem hb
 exact absurd (xap (xan ho) (xaA I.sz h)) (xaT _)
theorem Inv.cne (I:Inv X pins σ H s):∀ x c,X.env.cells.lookup x=some c->c≠X.env.locals:=fun x c e z=>by
 obtain ⟨v,o,ho,hd⟩:=I.cell x c e
 obtain ⟨m,⟨o',es,ep,ho',hd',_⟩,_⟩:=I.loc
 rw [z,ho'] at ho; cases ho; rw [hd'] at hd; cases hd
theorem Inv.funs (I:Inv X pins σ H s):s.heap.FunFrames X.base X.outer:=by
 have all:∀ (l:List Env),(∀ b∈frs l,b∈X.fs)->X.s₀.heap.FunFrames X.base l->s.heap.FunFrames X.base l:=by
  intro l
  induction l with
  | nil=>intro _ _; trivial
  | cons env r ih =>
   intro hs hl
   obtain ⟨hk,⟨L,o,hf,hn,ho,hd⟩,hr⟩:=hl
   have hL:L∈X.fs:=hs L (by unfold frs; rw [xaN,hf]; exact xad)
   obtain ⟨sl,e⟩:=I.base.slot L o ho (I.ok.frf L hL) hL fun z=>I.ok.exfs L z hL
   exact ⟨hk,⟨L,_,hf,hn,e,hd⟩,ih (fun b hb=>hs b (by unfold frs; rw [xaN,hf]; exact xac _ hb)) hr⟩
 exact all X.outer (fun _ hb=>hb) I.ok.funs
theorem Inv.stack (I:Inv X pins σ H s):s.heap.FunFrames X.base X.stack:=by
 rcases I.ok.stk with e | ⟨e,hf⟩
 ·rw [e]; exact I.funs
 ·rw [e]
  obtain ⟨m,hn,_⟩:=I.loc
  refine .cons (by rw [I.ok.kind]; decide) hf hn ?_ I.funs
  exact Heap.get?_none_of_le (xaA I.ok.bsz I.ok.above)
theorem Inv.stkSub (I:Inv X pins σ H s):∀ b∈frs X.stack,b∈X.env.locals :: X.fs:=fun b hb=>by
 rcases I.ok.stk with e | ⟨e,hf⟩
 ·rw [e] at hb; exact xac _ hb
 ·rw [e] at hb
  unfold frs at hb
  rw [xaN,hf] at hb
  exact hb
theorem Inv.stkFree (I:Inv X pins σ H s):∀ b∈frs X.stack,H b=none:=fun b hb=>by
 rcases xam.mp (I.stkSub b hb) with e | hb
 ·rw [e]; exact I.free
 ·obtain ⟨_,o,ho,_⟩:=I.ok.funs.mem hb
  exact I.base.free b o ho (I.ok.frf b hb) fun z=>I.ok.exfs b z hb
theorem Inv.step {g':Array GenState} {t':Nat} {d':Drawn} {ch:List Addr} (I:Inv X pins σ H s)
  (hch:∀ b∈ch,(b∈X.ex\/X.s₀.heap.objs.size<=b)/\b≠X.env.locals/\(∀ x c,X.env.cells.lookup x=some c->c≠b)/\∀ p∈X.pn++pins,p.1≠b)
  (keep:∀ b o,b≠X.env.locals->b∉X.fs->b∉ch->s.heap.get? b=some o->H b=none->h'.get? b=some o)
  (slot:∀ b o,b≠X.env.locals->b∈X.fs->b∉ch->s.heap.get? b=some o->H b=none->∃ sl,h'.get? b=some { o with slots:=sl }) (free:∀ b o,b∉ch->s.heap.get? b=some o->H b=none->H' b=none)
  (there:∀ b o,b∉ch->s.heap.get? b=some o->∃ o',h'.get? b=some o')
  (tups:∀ b xs,H b=some (.tup xs)->H' b=some (.tup xs)) (frzs:∀ b o u,H b=some (.frz o u)->H' b=some (.frz o u)) (tbls:∀ b ps,H b=some (.tbl ps)->∃ more,H' b=some (.tbl (ps++more)))
  (ns:∀ m,s.heap.Ns X.env.locals m->h'.Ns X.env.locals m) (hok:HOk X.prog X.w H' h') (hg:AllBare g') :
  Inv X pins σ H' { s with heap:=h',gens:=g',drawn:=d',toks:=t' }:=by
 have neL:∀ b o,X.s₀.heap.get? b=some o->b≠X.env.locals:=fun b o e=>xav (xap (xan e) I.ok.above)
 have neC:∀ b o,X.s₀.heap.get? b=some o->b∉X.ex->b∉ch:=fun b o e hx hb=>by
  rcases (hch b hb).1 with z | z
  ·exact hx z
  ·exact absurd (xap (xan e) z) (xaT _)
 have cellK:∀ x c,X.env.cells.lookup x=some c->∀ v,s.heap.IsCell c v->h'.IsCell c v:=fun x c e v hx9=>by
  obtain ⟨o,ho,hd⟩:=hx9
  have nch:c∉ch:=fun z=>(hch c z).2.2.1 x c e rfl
  by_cases hc:c∈X.fs
  ·obtain ⟨sl,q⟩:=slot c o (I.cne x c e) hc nch ho (I.freeC x c e)
   exact ⟨_,q,hd⟩
  ·exact ⟨o,keep c o (I.cne x c e) hc nch ho (I.freeC x c e),hd⟩
 refine ⟨I.ok,I.os,hg,⟨fun b o e n hb hx=>?_,fun b o e n hb hx=>?_,fun b o e n hx=>?_,fun b o e hx=>?_,fun b xs e=>tups b xs (I.base.tups b xs e),fun b o xs e=>frzs b o xs (I.base.frzs b o xs e),fun b ps e=>?_⟩,?_,fun x c e=>?_,?_,fun x c e=>?_,fun p hp=>?_,hok,I.len⟩
 ·exact keep b o (neL b o e) hb (neC b o e hx) (I.base.keep b o e n hb hx) (I.base.free b o e n hx)
 ·obtain ⟨sl,e1⟩:=I.base.slot b o e n hb hx
  obtain ⟨sl',e2⟩:=slot b _ (neL b o e) hb (neC b o e hx) e1 (I.base.free b o e n hx)
  exact ⟨sl',e2⟩
 ·obtain ⟨o',e1⟩:=I.base.there b o e hx
  exact free b o' (neC b o e hx) e1 (I.base.free b o e n hx)
 ·obtain ⟨o',e1⟩:=I.base.there b o e hx
  exact there b o' (neC b o e hx) e1
 ·obtain ⟨m1,e1⟩:=I.base.tbls b ps e
  obtain ⟨m2,e2⟩:=tbls b _ e1
  exact ⟨m1++m2,by rw [e2,xbf]⟩
 ·obtain ⟨m,hn,hl⟩:=I.loc
  refine ⟨m,ns m hn,fun i x v e1 e2 e3=>?_⟩
  obtain ⟨u,r,l⟩:=hl i x v e1 e2 e3
  refine ⟨u,r,?_⟩
  rcases l with l | ⟨k,c,e,z⟩
  ·exact .inl l
  ·exact .inr ⟨k,c,e,cellK x c e _ z⟩
 ·obtain ⟨v,z⟩:=I.cell x c e
  exact ⟨v,cellK x c e v z⟩
 ·obtain ⟨m,⟨o,_,_,ho,_⟩,_⟩:=I.loc
  exact free _ o (fun z=>(hch _ z).2.1 rfl) ho I.free
 ·obtain ⟨v,o,ho,hd⟩:=I.cell x c e
  exact free c o (fun z=>(hch c z).2.2.1 x c e rfl) ho (I.freeC x c e)
 ·obtain ⟨e,n,ne,nf,d⟩:=I.pin p hp
  have nch:p.1∉ch:=fun z=>(hch p.1 z).2.2.2 p hp rfl
  exact ⟨keep p.1 p.2 ne nf nch e n,free p.1 p.2 nch e n,ne,nf,d⟩
theorem Inv.un {t':Nat} (I:Inv X pins σ H s) (u:Un X.fs [] H H' s.heap h') (hok:HOk X.prog X.w H' h'):Inv X pins σ H' { s with heap:=h',toks:=t' }:=by
 obtain ⟨m,⟨o,es,ep,ho,r⟩,_⟩:=id I.loc
 obtain ⟨sl,hL⟩:=u.any ho I.free (by simp)
 exact I.step (g':=s.gens) (d':=s.drawn) (ch:=[]) (fun _ z=>nomatch z) (fun b o _ hb _ e n=>u.keep b o e n hb (by simp)) (fun b o _ hb _ e n=>u.slot b o e n hb (by simp)) (fun b o _ e n=>u.free b o e n (by simp)) (fun b o _ e=>u.there b o e (by simp)) u.tups u.frzs u.tbls (fun m' hm=>by
  obtain ⟨o',es',ep',ho',r'⟩:=hm
  rw [ho] at ho'; cases ho'
  exact ⟨_,es',ep',hL,r'⟩) hok I.bare
theorem Inv.call {g':Array GenState} {t':Nat} {d':Drawn} {ch:List Addr} (I:Inv X pins σ H s) (u:Un (frs X.stack) ch H H' s.heap h') (hok:HOk X.prog X.w H' h') (hg:AllBare g')
  (hch:∀ b∈ch,(b∈X.ex\/X.s₀.heap.objs.size<=b)/\b≠X.env.locals/\(∀ x c,X.env.cells.lookup x=some c->c≠b)/\∀ p∈X.pn++pins,p.1≠b) :
  Inv X pins σ H' { s with heap:=h',gens:=g',drawn:=d',toks:=t' }:=by
 obtain ⟨m,⟨o,es,ep,ho,r⟩,_⟩:=id I.loc
 obtain ⟨sl,hL⟩:=u.any ho I.free fun z=>(hch _ z).2.1 rfl
 exact I.step (ch:=ch) hch (fun b o hL hb hc e n=>u.keep b o e n (fun z=>(xam.mp (I.stkSub b z)).elim hL hb) hc) (fun b o _ _ hc e n=>u.any e n hc) (fun b o hc e n=>u.free b o e n hc) (fun b o hc e=>u.there b o e hc) u.tups u.frzs u.tbls (fun m' hm=>by
  obtain ⟨o',es',ep',ho',r'⟩:=hm
  rw [ho] at ho'; cases ho'
  exact ⟨_,es',ep',hL,r'⟩) hok hg
theorem Inv.turned {t':Nat} {it:Addr} (I:Inv X pins σ H s) (k:∀ b o,b≠it->s.heap.get? b=some o->h'.get? b=some o) (hn:H it=none) (hL:it≠X.env.locals)
  (h1:it∈X.ex\/X.s₀.heap.objs.size<=it) (h2:∀ x c,X.env.cells.lookup x=some c->c≠it) (h3:∀ p∈X.pn++pins,p.1≠it):Inv X pins σ H { s with heap:=h',toks:=t' }:=by
 have nit:∀ b u,H b=some u->b≠it:=fun b u e z=>by rw [z,hn] at e; cases e
 refine I.step (g':=s.gens) (d':=s.drawn) (ch:=[it]) (fun b hb=>?_) (fun b o _ _ hc e _=>k b o (fun z=>hc (by simp [z])) e) (fun b o _ _ hc e _=>⟨o.slots,k b o (fun z=>hc (by simp [z])) e⟩) (fun _ _ _ _ n=>n)
  (fun b o hc e=>⟨o,k b o (fun z=>hc (by simp [z])) e⟩) (fun _ _ e=>e) (fun _ _ _ e=>e) (fun b ps e=>⟨#[],by rw [e]; simp⟩) (fun m hm=>?_) (fun b u e=>?_) I.bare
 ·have e:b=it:=by simpa using hb
  subst e
  exact ⟨h1,hL,h2,h3⟩
 ·obtain ⟨o,es,ep,ho,r⟩:=hm
  exact ⟨o,es,ep,k _ o (Ne.symm hL) ho,r⟩
 ·refine (I.hok b u e).stay (fun c v hc q=>k c v ?_ q) (fun _ q=>q) fun _ _ q=>q
  rcases hc with z | z
  ·rw [z]; exact nit b u e
  ·exact nit c _ z
theorem Inv.tok (I:Inv X pins σ H s) (t:Nat):Inv X pins σ H { s with toks:=t }:=I.un (h':=s.heap) (t':=t) Un.refl I.hok
theorem Inv.kept (I:Inv X pins σ H s) (k:∀ b u,s.heap.get? b=some u->h'.get? b=some u):Inv X pins σ H { s with heap:=h',toks:=t' }:=I.un (Un.kept k) (I.hok.kept k)
theorem Inv.laid (I:Inv X pins σ H s) (k:∀ b u,s.heap.get? b=some u->h'.get? b=some u) (hp:s.heap.objs.size<=a) (new:ObjOk X.prog X.w (upd H a o) h' a o) :
  Inv X pins σ (upd H a o) { s with heap:=h',toks:=t' }:=I.un (Un.laid k hp (I.hok.fresh hp)) (I.hok.laid k hp new)
theorem Inv.write (I:Inv X pins σ H s) (mu:Mut (H x)) (he:e=x\/H e=some (.own x)) (k:∀ b u,b≠e->s.heap.get? b=some u->h'.get? b=some u) (heo:∃ u,h'.get? e=some u)
  (new:ObjOk X.prog X.w (upd H x o) h' x o):Inv X pins σ (upd H x o) { s with heap:=h',toks:=t' }:=I.un (Un.write mu he k heo) (I.hok.write mu he k heo new)
theorem Inv.pins_of (I:Inv X pins σ H s) (h:∀ p∈pins',s.heap.get? p.1=some p.2/\H p.1=none/\p.1≠X.env.locals/\p.1∉X.fs/\∀ v,p.2.data≠.cell v):Inv X pins' σ H s :=
 ⟨I.ok,I.os,I.bare,I.base,I.loc,I.cell,I.free,I.freeC,fun p hp=>(xag.mp hp).elim (fun z=>I.pin p (xai _ z)) (h p),I.hok,I.len⟩
theorem nodup_ix {N:List Str} (hN:N.Nodup) {i j:Nat} {x:Str} (a:N[i]? = some x) (b:N[j]? = some x):i=j:=by
 obtain ⟨h1,e1⟩:=xas.mp a
 obtain ⟨h2,e2⟩:=xas.mp b
 exact (List.getElem_inj hN).mp (e1.trans e2.symm)
theorem store_ok2 {M:Model} {A:Around} {E:Value->Shared->Prop} {i:Nat} {x:Str} {v:V} {u:Value} {Q:Unit->Shared->Prop} (I:Inv X pins σ H s) (hN:X.N.Nodup) (hi:X.N[i]? = some x) (hx:Loc X.env.scope x) (r:RelV v u)
  (h:∀ s',Inv X pins (σ.set i (some v)) H s'->(∃ a,Heap.SameBut a s.heap s'.heap/\(a=X.env.locals\/X.env.cells.lookup x=some a))->Q () s') (hf:X.fn x=true\/X.env.scope.names.lookup x=some .local:=by first | exact .inl rfl | exact .inr rfl | assumption):wpAny M A (storeName X.env x u) Q E s:=by
 obtain ⟨m,hn,hl⟩:=id I.loc
 have hcls:(X.env.scope.kind == .class || (X.env.scope.kind == .module && X.env.locals != X.env.globals))=false:=by rw [I.ok.kind]; rfl
 have hiσ:i<σ.length:=by rw [I.len]; exact (xas.mp hi).1
 have cne:=I.cne
 have tracked:∀ {a:Addr} {h':Heap},(∃ o,s.heap.get? a=some o/\H a=none)->Heap.SameBut a s.heap h'->HOk X.prog X.w H h':=fun {a h'} ha hs b ob e=>by
  obtain ⟨_,_,hfree⟩:=ha
  refine (I.hok b ob e).stay (fun c w' hc q=>(hs.2 c ?_).trans q) (fun _ q=>q) fun _ _ q=>q
  rintro rfl
  rcases hc with rfl | hc
  ·rw [hfree] at e; cases e
  ·rw [hfree] at hc; cases hc
 rcases hx with hk | hk
 ·refine wpAny_storeName_local hk hn (fun h' hn' hs=>?_) hcls
  obtain ⟨oL,_,_,hoL,_⟩:=id hn
  refine h _ ⟨I.ok,I.os,I.bare,⟨fun b o e n hb hx=>?_,fun b o e n hb hx=>?_,I.base.free,fun b o e hx=>?_,I.base.tups,I.base.frzs,I.base.tbls⟩,⟨_,hn',fun j y v' e1 e2 e3=>?_⟩,fun y c e=>?_,I.free,I.freeC,fun p hp=>?_,tracked ⟨oL,hoL,I.free⟩ hs,by simpa using I.len⟩ ⟨_,hs,.inl rfl⟩
  ·exact (hs.2 b (xav (xap (xan e) I.ok.above))).trans (I.base.keep b o e n hb hx)
  ·obtain ⟨sl,e1⟩:=I.base.slot b o e n hb hx
   exact ⟨sl,(hs.2 b (xav (xap (xan e) I.ok.above))).trans e1⟩
  ·obtain ⟨o',e1⟩:=I.base.there b o e hx
   exact ⟨o',(hs.2 b (xav (xap (xan e) I.ok.above))).trans e1⟩
  ·by_cases hj:j=i
   ·subst hj
    rw [hi] at e1; cases e1
    rw [List.getElem?_set_self hiσ] at e2
    cases e2
    exact ⟨u,r,.inl ⟨hk,by simp⟩⟩
   ·rw [List.getElem?_set_ne (Ne.symm hj)] at e2
    obtain ⟨u',r',q⟩:=hl j y v' e1 e2 e3
    refine ⟨u',r',?_⟩
    rcases q with ⟨k,e⟩ | ⟨k,c,e,z⟩
    ·refine .inl ⟨k,?_⟩
     have:y≠x:=fun e=>hj (nodup_ix hN e1 (e ▸ hi))
     simp [this,e]
    ·exact .inr ⟨k,c,e,z.sameBut hs (cne y c e)⟩
  ·obtain ⟨w',z⟩:=I.cell y c e
   exact ⟨w',z.sameBut hs (cne y c e)⟩
  ·obtain ⟨e,n,ne,nf,d⟩:=I.pin p hp
   exact ⟨(hs.2 p.1 ne).trans e,n,ne,nf,d⟩
 ·have hfn:X.fn x=true:=by
   rcases hf with z | z
   ·exact z
   ·rw [z] at hk; cases hk
  obtain ⟨c,hc⟩:=I.ok.has x (.inl hk)
  obtain ⟨w',z⟩:=I.cell x c hc
  refine wpAny_storeName_cell I.ok.kind hk hc z (fun h' hc' hs=>?_)
  obtain ⟨oc,hoc,hocd⟩:=id z
  refine h { s with heap:=h' } ⟨I.ok,I.os,I.bare,⟨fun b o e n hb hx=>?_,fun b o e n hb hx=>?_,I.base.free,fun b o e hx=>?_,I.base.tups,I.base.frzs,I.base.tbls⟩,⟨m,hn.sameBut hs (Ne.symm (cne x c hc)),fun j y v' e1 e2 e3=>?_⟩,fun y c' e=>?_,I.free,I.freeC,fun p hp=>?_,tracked ⟨oc,hoc,I.freeC x c hc⟩ hs,by simpa using I.len⟩ ⟨c,hs,.inr hc⟩
  ·exact (hs.2 b (xav (xap (xan e) (I.ok.cab x c hfn hc)))).trans (I.base.keep b o e n hb hx)
  ·obtain ⟨sl,e1⟩:=I.base.slot b o e n hb hx
   exact ⟨sl,(hs.2 b (xav (xap (xan e) (I.ok.cab x c hfn hc)))).trans e1⟩
  ·obtain ⟨o',e1⟩:=I.base.there b o e hx
   exact ⟨o',(hs.2 b (xav (xap (xan e) (I.ok.cab x c hfn hc)))).trans e1⟩
  ·by_cases hj:j=i
   ·subst hj
    rw [hi] at e1; cases e1
    rw [List.getElem?_set_self hiσ] at e2
    cases e2
    exact ⟨u,r,.inr ⟨.inl hk,c,hc,hc'⟩⟩
   ·rw [List.getElem?_set_ne (Ne.symm hj)] at e2
    obtain ⟨u',r',q⟩:=hl j y v' e1 e2 e3
    refine ⟨u',r',?_⟩
    rcases q with q | ⟨k,c',e,z'⟩
    ·exact .inl q
    ·refine .inr ⟨k,c',e,z'.sameBut hs ?_⟩
     rintro rfl
     exact hj (nodup_ix hN e1 (I.ok.inj _ _ _ e hc ▸ hi))
  ·by_cases hcc:c'=c
   ·subst hcc; exact ⟨_,hc'⟩
   ·obtain ⟨w2,z2⟩:=I.cell y c' e
    exact ⟨w2,z2.sameBut hs hcc⟩
  ·obtain ⟨e,n,ne,nf,d⟩:=I.pin p hp
   refine ⟨(hs.2 p.1 ?_).trans e,n,ne,nf,d⟩
   intro q
   rw [q,hoc] at e
   have q':oc=p.2:=Option.some.inj e
   exact d w' (by rw [<- q']; exact hocd)
theorem store_ok (I:Inv X pins σ H s) (hN:X.N.Nodup) (hi:X.N[i]? = some x) (hx:Loc X.env.scope x) (r:RelV v u)
  (h:∀ s',Inv X pins (σ.set i (some v)) H s'->Q () s') (hf:X.fn x=true\/X.env.scope.names.lookup x=some .local:=by first | exact .inl rfl | exact .inr rfl | assumption):wpAny M A (storeName X.env x u) Q E s :=
 store_ok2 I hN hi hx r (fun s' I' _=>h s' I') hf
theorem Inv.call' (I:Inv X pins σ H s) (ho:s'.os=s.os) (u:Un (frs X.stack) ch H H' s.heap s'.heap) (hok:HOk X.prog X.w H' s'.heap) (hg:AllBare s'.gens)
  (hch:∀ b∈ch,(b∈X.ex\/X.s₀.heap.objs.size<=b)/\b≠X.env.locals/\(∀ x c,X.env.cells.lookup x=some c->c≠b)/\∀ p∈X.pn++pins,p.1≠b):Inv X pins σ H' s':=by
 obtain ⟨h',g',d',t',o'⟩:=s'
 have e:o'=s.os:=ho
 subst e
 exact I.call (g':=g') (t':=t') (d':=d') u hok hg hch
end
abbrev XK:=Value->Option Addr->Hp->Prop
abbrev St:=List (Option V)
abbrev VK:=V->Hp->Prop
abbrev TE:=St->Hp->VK->Prop
abbrev TT:=St->Hp->(Bool->Hp->Prop)->Prop
abbrev TA:=St->Hp->(List V->Hp->Prop)->Prop
structure Ends where
 nx:St->Hp->Prop
 rt:VK
 bk:St->Hp->Prop:=fun _ _=>False
 ct:St->Hp->Prop:=fun _ _=>False
abbrev TS:=Ends->St->Hp->Prop
def EP (X:Cx) (pins:List (Addr × Obj)) (σ:St) (Q:VK) (u:Value) (s':Shared):Prop:=∃ v H',Inv X pins σ H' s'/\RelV v u/\Q v H'
def TP (X:Cx) (pins:List (Addr × Obj)) (σ:St) (Q:Bool->Hp->Prop) (b:Bool) (s':Shared):Prop:=∃ H',Inv X pins σ H' s'/\Q b H'
def AP (X:Cx) (pins:List (Addr × Obj)) (σ:St) (Q:List V->Hp->Prop) (us:List Value) (s':Shared):Prop:=∃ vs H',Inv X pins σ H' s'/\Vals vs us/\Q vs H'
def SP (X:Cx) (pins:List (Addr × Obj)) (D:Ends) (f:Flow) (s':Shared):Prop :=
 match f with
 | .next=>∃ σ' H',Inv X pins σ' H' s'/\D.nx σ' H'
 | .brk=>∃ σ' H',Inv X pins σ' H' s'/\D.bk σ' H'
 | .cont=>∃ σ' H',Inv X pins σ' H' s'/\D.ct σ' H'
 | .ret u=>∃ v σ' H',Inv X pins σ' H' s'/\RelV v u/\D.rt v H'
def PE (X:Cx) (e:Expr) (t:TE):Prop :=
 ∀ (pins:List (Addr × Obj)) (s:Shared) (σ:St) (H:Hp) (Q:VK),Inv X pins σ H s->t σ H Q->wpAny (model X.prog X.w) X.A (eval e X.env) (EP X pins σ Q) X.xe s
def PT (X:Cx) (e:Expr) (t:TT):Prop :=
 ∀ (pins:List (Addr × Obj)) (s:Shared) (σ:St) (H:Hp) (Q:Bool->Hp->Prop),Inv X pins σ H s->t σ H Q->wpAny (model X.prog X.w) X.A (isTrue e X.env (eval e X.env)) (TP X pins σ Q) X.xe s
def PW (X:Cx) (e:Expr) (t:TT):Prop :=
 ∀ (whole:Sem Value) (pins:List (Addr × Obj)) (s:Shared) (σ:St) (H:Hp) (Q:Bool->Hp->Prop),Inv X pins σ H s->t σ H Q->wpAny (model X.prog X.w) X.A (isTrue e X.env whole) (TP X pins σ Q) X.xe s
def PA (X:Cx) (es:List Expr) (t:TA):Prop :=
 ∀ (pos:Pos) (pins:List (Addr × Obj)) (s:Shared) (σ:St) (H:Hp) (Q:List V->Hp->Prop),Inv X pins σ H s->t σ H Q->wpAny (model X.prog X.w) X.A (spliced (backTo pos (starEach es X.env))) (AP X pins σ Q) X.xe s
def PS (X:Cx) (st:Stmt) (t:TS):Prop :=
 ∀ (pins:List (Addr × Obj)) (s:Shared) (σ:St) (H:Hp) (D:Ends),Inv X pins σ H s->t D σ H->wpAny (model X.prog X.w) X.A (exec st X.env) (SP X pins D) X.xe s
def PSs (X:Cx) (st:List Stmt) (t:TS):Prop :=
 ∀ (pins:List (Addr × Obj)) (s:Shared) (σ:St) (H:Hp) (D:Ends),Inv X pins σ H s->t D σ H->wpAny (model X.prog X.w) X.A (execs st X.env) (SP X pins D) X.xe s
theorem thn {α:Type} {t:Sem α} {Q Q':α->Shared->Prop} {M:Model} {A:Around} {E:Value->Shared->Prop} {s:Shared} (h:wpAny M A t Q E s) (hQ:∀ a s,Q a s->Q' a s):wpAny M A t Q' E s:=xaZ h hQ fun _ _ x=>x
section
variable {X:Cx}
def tVar (i:Nat):TE:=fun σ H Q=>∃ v,σ[i]? = some (some v)/\Q v H
def tC (v:V):TE:=fun _ H Q=>Q v H
theorem pe_var (hN:X.N[i]? = some x) (hv:Vis X.env.scope x) (hd:(x == ("__debug__" : Str))=false:=by decide) (hcd:(x == ("__classdict__" : Str))=false:=by decide):PE X (.Name x pos) (tVar i):=by
 intro pins s σ H Q I h
 obtain ⟨v,e,h⟩:=h
 obtain ⟨m,hn,hl⟩:=I.loc
 obtain ⟨u,r,l⟩:=hl i x v hN e hv
 have fin:EP X pins σ Q u s:=⟨v,H,I,r,h⟩
 rcases l with ⟨hk,hm⟩ | ⟨hk,c,hc,hcell⟩
 ·exact wpAny_Name (wpAny_loadName_local I.ok.kind hk hn hm fin) hd
 ·rcases hk with hk | hk
  ·exact wpAny_Name (wpAny_loadName_cell I.ok.kind hk hc hcell fin) hd
  ·exact wpAny_Name (wpAny_loadName_free I.ok.kind hk hc hcell fin hcd) hd
theorem pe_int {i j pos}:PE X (.Constant (.int i) j pos) (tC (.int i)):=fun _ _ _ H _ I h=>wpAny_Constant_int ⟨.int i,H,I.tok _,⟨_,rfl⟩,h⟩
theorem pe_bl {b j pos}:PE X (.Constant (.bool b) j pos) (tC (.bl b)):=fun _ _ _ H _ I h=>Constant_bool ⟨.bl b,H,I,rfl,h⟩
theorem pe_non {j pos}:PE X (.Constant .none j pos) (tC .non):=fun _ _ _ H _ I h=>Constant_none ⟨.non,H,I,rfl,h⟩
theorem pe_str {x j pos}:PE X (.Constant (.str x) j pos) (tC (.str x)):=fun _ _ _ H _ I h=>Calls.Constant_str ⟨.str x,H,I.tok _,⟨_,rfl⟩,h⟩
def Gl (X:Cx) (x:Str):Prop:=X.env.kindOf x=some .globalImplicit
theorem ld_glob (I:Inv X pins σ H s) (hg:Gl X x) (hm:X.mg x=some u) (h:Q u s)
  (hd:(x == ("__debug__" : Str))=false:=by decide):wpAny (model X.prog X.w) X.A (eval (.Name x pos) X.env) Q E s :=
 Calls.Name_function_global I.ok.kind hg (Calls.loadGlobal_global (by rw [I.ok.glob]; exact I.mod.glob.keeps I.bk) hm h) hd
theorem ld_blt (I:Inv X pins σ H s) (hg:Gl X x) (hm:X.mg x=none) (hv:bootBuiltins x=some u) (h:Q u s)
  (hn:x ≠ "__name__" := by decide) (hd:(x == ("__debug__" : Str))=false:=by decide):wpAny (model X.prog X.w) X.A (eval (.Name x pos) X.env) Q E s:=by
 obtain ⟨mb,h1,h2⟩:=I.mod.blt
 exact Calls.Name_function_global I.ok.kind hg (Calls.loadGlobal_builtin (by rw [I.ok.glob]; exact I.mod.glob.keeps I.bk) hm (by rw [I.ok.blt]; exact h1.keeps I.bk) ((h2 x hn).trans hv) h) hd
theorem pe_glob (hg:Gl X x) (hm:X.mg x=some u) (r:RelV v u) (hd:(x == ("__debug__" : Str))=false:=by decide):PE X (.Name x pos) (tC v) :=
 fun _ _ _ H _ I h=>ld_glob I hg hm ⟨v,H,I,r,h⟩ hd
theorem pe_bltn (hg:Gl X x) (hm:X.mg x=none) (hv:bootBuiltins x=some u) (r:RelV v u) (hn:x ≠ "__name__" := by decide) (hd:(x == ("__debug__" : Str))=false:=by decide):PE X (.Name x pos) (tC v) :=
 fun _ _ _ H _ I h=>ld_blt I hg hm hv ⟨v,H,I,r,h⟩ hn hd
variable {a b:Expr} {ta tb:TE} {pos:Pos}
def tB (t:TE):TT:=fun σ H Q=>t σ H fun x H1=>∃ c,x=.bl c/\Q c H1
theorem pt_val (h:PE X e t) (he:∀ whole,isTrue e X.env whole=(do let v <- whole; standAt e.pos; holding [v] (truthy v)):=by intro _; rfl):PT X e (tB t):=by
 intro pins s σ H Q I hw
 refine isTrue_plain (thn (h pins s σ H _ I hw) fun v s1 hx5=>L2.ex2 hx5 fun x H1 I1 r1 q1=>?_) (he _)
 obtain ⟨d,rfl,q⟩:=q1
 cases r1
 exact wpAny_truthy_bool ⟨H1,I1,q⟩
variable {tA tB':TT} {rest:List Expr}
def tAnd (t u:TT):TT:=fun σ H Q=>t σ H fun c H1=>if c=true then u σ H1 Q else Q false H1
def tOr (t u:TT):TT:=fun σ H Q=>t σ H fun c H1=>if c=true then Q true H1 else u σ H1 Q
def tNot (t:TT):TT:=fun σ H Q=>t σ H fun c H1=>Q (!c) H1
theorem pw_and1 (ha:PT X a tA):PW X (.BoolOp .And [a] pos) tA:=by
 intro wh pins s σ H Q I h
 refine isTrue_and (thn (ha pins s σ H Q I h) fun c s1 e=>?_)
 cases c with
 | true=>exact isTrue_and_nil e
 | false=>exact e
theorem pw_or1 (ha:PT X a tA):PW X (.BoolOp .Or [a] pos) tA:=by
 intro wh pins s σ H Q I h
 refine isTrue_or (thn (ha pins s σ H Q I h) fun c s1 e=>?_)
 cases c with
 | false=>exact isTrue_or_nil e
 | true=>exact e
theorem pw_and (ha:PT X a tA) (hb:PW X (.BoolOp .And (b :: rest) pos) tB'):PW X (.BoolOp .And (a :: b :: rest) pos) (tAnd tA tB'):=by
 intro wh pins s σ H Q I h
 refine isTrue_and (thn (ha pins s σ H _ I h) fun c s1 hx9=>?_)
 obtain ⟨H1,I1,q1⟩:=hx9
 cases c with
 | true=>exact hb wh pins s1 σ H1 Q I1 q1
 | false=>exact ⟨H1,I1,q1⟩
theorem pw_or (ha:PT X a tA) (hb:PW X (.BoolOp .Or (b :: rest) pos) tB'):PW X (.BoolOp .Or (a :: b :: rest) pos) (tOr tA tB'):=by
 intro wh pins s σ H Q I h
 refine isTrue_or (thn (ha pins s σ H _ I h) fun c s1 hx9=>?_)
 obtain ⟨H1,I1,q1⟩:=hx9
 cases c with
 | true=>exact ⟨H1,I1,q1⟩
 | false=>exact hb wh pins s1 σ H1 Q I1 q1
theorem pt_not (ha:PT X a tA):PT X (.UnaryOp .Not a pos) (tNot tA):=by
 intro pins s σ H Q I h
 exact isTrue_not (ha pins s σ H (fun c H1=>Q (!c) H1) I h)
def tAndV (ta tb:TE):TE:=fun σ H Q=>ta σ H fun x H1=>∃ c,x=.bl c/\if c=true then tb σ H1 Q else Q (.bl false) H1
def tOrV (ta tb:TE):TE:=fun σ H Q=>ta σ H fun x H1=>∃ c,x=.bl c/\if c=true then Q (.bl true) H1 else tb σ H1 Q
theorem pe_one {op} (h:PE X a t):PE X (.BoolOp op [a] pos) t:=fun pins s σ H Q I hw=>BoolOp_one (h pins s σ H Q I hw)
theorem pe_and (ha:PE X a ta) (hb:PE X (.BoolOp .And (b :: rest) pos) tb):PE X (.BoolOp .And (a :: b :: rest) pos) (tAndV ta tb):=by
 intro pins s σ H Q I h
 refine BoolOp_and (thn (ha pins s σ H _ I h) fun v s1 hx5=>L2.ex2 hx5 fun x H1 I1 r1 q1=>?_)
 obtain ⟨c,rfl,q1⟩:=q1
 cases r1
 refine wpAny_truthy_bool ?_
 cases c with
 | true=>exact hb pins s1 σ H1 Q I1 q1
 | false=>exact ⟨.bl false,H1,I1,rfl,q1⟩
theorem pe_or (ha:PE X a ta) (hb:PE X (.BoolOp .Or (b :: rest) pos) tb):PE X (.BoolOp .Or (a :: b :: rest) pos) (tOrV ta tb):=by
 intro pins s σ H Q I h
 refine BoolOp_or (thn (ha pins s σ H _ I h) fun v s1 hx5=>L2.ex2 hx5 fun x H1 I1 r1 q1=>?_)
 obtain ⟨c,rfl,q1⟩:=q1
 cases r1
 refine wpAny_truthy_bool ?_
 cases c with
 | false=>exact hb pins s1 σ H1 Q I1 q1
 | true=>exact ⟨.bl true,H1,I1,rfl,q1⟩
end
def SqL (K:PySem.W.Frag) (H:Hp) (a:Addr) (xs:List V):Prop :=
 Rd H a (.lst xs) \/
  ∃ (o:Obj) (its:Array Value) (n:Nat),K.lookup a=some o/\o.cls=.type "list"/\o.dict=none/\o.data=.seq its n/\its.size<=sizeLine/\Vals xs its.toList
def SqT (K:PySem.W.Frag) (H:Hp) (a:Addr) (xs:List V):Prop :=
 Rd H a (.tup xs) \/
  ∃ (o:Obj) (its:Array Value) (n:Nat),K.lookup a=some o/\o.cls=.type "tuple"/\o.data=.seq its n/\its.size<=sizeLine/\Vals xs its.toList
def absV:Value->Option V
 | .none=>some .non
 | .bool b=>some (.bl b)
 | .int i _=>some (.int i)
 | .str x _=>some (.str x)
 | .bytes b _=>some (.byt b)
 | .float b _=>some (.flt b)
 | .ref a=>some (.ref a)
 | .type n=>some (.ty n)
 | _=>none
theorem RelV.abs (r:RelV x u):absV u=some x:=by
 cases x with
 | non=>cases r; rfl
 | bl _=>cases r; rfl
 | int _=>obtain ⟨t,rfl⟩:=r; rfl
 | str _=>obtain ⟨t,rfl⟩:=r; rfl
 | byt _=>obtain ⟨t,rfl⟩:=r; rfl
 | flt _=>obtain ⟨t,rfl⟩:=r; rfl
 | ref _=>cases r; rfl
 | ty _=>cases r; rfl
theorem RelV.inj (r:RelV x u) (q:RelV y u):x=y:=Option.some.inj (r.abs.symm.trans q.abs)
theorem Vals.inj:∀ {xs ys:List V} {us:List Value},Vals xs us->Vals ys us->xs=ys
 | _,_,_,.nil,.nil=>rfl
 | _,_,_,.cons r t,.cons r' t'=>by rw [r.inj r',Vals.inj t t']
section
variable {X:Cx} {pins:List (Addr × Obj)} {σ:St} {H:Hp} {s:Shared} {a:Addr} {xs ys:List V}
theorem Inv.list (I:Inv X pins σ H s) (h:SqL X.K H a xs):∃ its:List Value,Vals xs its/\PlainL s.heap a its.toArray/\xs.length<=sizeLine:=by
 rcases h with h | ⟨o,its,n,hk,hc,hd,hs,hz,r⟩
 ·obtain ⟨z,its,n,r,e⟩:=h.ok I.hok
  exact ⟨its,r,⟨_,n,e,rfl,rfl,rfl⟩,z⟩
 ·refine ⟨its.toList,r,⟨o,n,I.kIn a o hk,hc,hd,by simpa using hs⟩,?_⟩
  have e:=r.length
  simp only [xaI] at e
  lia
theorem Inv.tuple (I:Inv X pins σ H s) (h:SqT X.K H a xs):∃ its:List Value,Vals xs its/\IsTup s.heap a its.toArray/\xs.length<=sizeLine:=by
 rcases h with h | ⟨o,its,n,hk,hc,hs,hz,r⟩
 ·obtain ⟨z,its,r,p⟩:=h.ok I.hok
  exact ⟨its,r,p,z⟩
 ·refine ⟨its.toList,r,⟨o,I.kIn a o hk,hc,n,by simpa using hs⟩,?_⟩
  have e:=r.length
  simp only [xaI] at e
  lia
theorem Inv.list_inj (I:Inv X pins σ H s) (h:SqL X.K H a xs) (h':SqL X.K H a ys):xs=ys:=by
 obtain ⟨its,r,⟨o,n,e,_,_,d⟩,_⟩:=I.list h
 obtain ⟨its',r',⟨o',n',e',_,_,d'⟩,_⟩:=I.list h'
 rw [e] at e'; cases e'
 rw [d] at d'
 injection d' with d1 _
 have:its=its':=by simpa using congrArg Array.toList d1
 subst this
 exact r.inj r'
theorem Inv.tuple_inj (I:Inv X pins σ H s) (h:SqT X.K H a xs) (h':SqT X.K H a ys):xs=ys:=by
 obtain ⟨its,r,⟨o,e,_,n,d⟩,_⟩:=I.tuple h
 obtain ⟨its',r',⟨o',e',_,n',d'⟩,_⟩:=I.tuple h'
 rw [e] at e'; cases e'
 rw [d] at d'
 injection d' with d1 _
 have:its=its':=by simpa using congrArg Array.toList d1
 subst this
 exact r.inj r'
end
abbrev Cx.wish (X:Cx) (E:Value->Shared->Prop):Cx:={ X with xe:=E }
abbrev Cx.nox (X:Cx):Cx:=X.wish fun _ _=>False
theorem Cx.Ok.wish {X:Cx} (ok:X.Ok) (E:Value->Shared->Prop):(X.wish E).Ok :=
 ⟨ok.mod,ok.kind,ok.glob,ok.blt,ok.above,ok.inj,ok.has,ok.cab,ok.hd,ok.frames,ok.stk,ok.exf,ok.bs,ok.bsz,ok.noex,ok.exfs,ok.funs,ok.frf⟩
theorem Cx.Ok.unwish {X:Cx} (ok:(X.wish E).Ok):X.Ok :=
 ⟨ok.mod,ok.kind,ok.glob,ok.blt,ok.above,ok.inj,ok.has,ok.cab,ok.hd,ok.frames,ok.stk,ok.exf,ok.bs,ok.bsz,ok.noex,ok.exfs,ok.funs,ok.frf⟩
section
variable {X:Cx} {pins:List (Addr × Obj)} {σ:St} {H:Hp} {s:Shared} {E:Value->Shared->Prop}
theorem Inv.wish (I:Inv X pins σ H s) (E:Value->Shared->Prop):Inv (X.wish E) pins σ H s:=⟨I.ok.wish E,I.os,I.bare,I.base,I.loc,I.cell,I.free,I.freeC,I.pin,I.hok,I.len⟩
theorem Inv.unwish (I:Inv (X.wish E) pins σ H s):Inv X pins σ H s:=⟨I.ok.unwish,I.os,I.bare,I.base,I.loc,I.cell,I.free,I.freeC,I.pin,I.hok,I.len⟩
theorem SP.unwish {D:Ends} (h:SP (X.wish E) pins D f s'):SP X pins D f s':=by
 cases f with
 | next=>obtain ⟨σ',H',I,q⟩:=h; exact ⟨σ',H',I.unwish,q⟩
 | brk=>obtain ⟨σ',H',I,q⟩:=h; exact ⟨σ',H',I.unwish,q⟩
 | cont=>obtain ⟨σ',H',I,q⟩:=h; exact ⟨σ',H',I.unwish,q⟩
 | ret u=>obtain ⟨v,σ',H',I,r,q⟩:=h; exact ⟨v,σ',H',I.unwish,r,q⟩
theorem PSs.nox {st:List Stmt} (h:PSs X.nox st t):PSs X st t:=fun pins s σ H D I hw =>
 xaZ (h pins s σ H D (I.wish _) hw) (fun _ _ q=>q.unwish) fun _ _ z=>False.elim z
end
section
variable {X:Cx} {st:Stmt} {rest:List Stmt} {t u:TS} {e:Expr} {te:TE} {pos:Pos}
def tNext:TS:=fun D σ H=>D.nx σ H
def tSeq (t u:TS):TS:=fun D σ H=>t { D with nx:=u D } σ H
theorem pss_nil:PSs X [] tNext:=fun _ _ σ H _ I h=>wpAny_execs_nil ⟨σ,H,I,h⟩
theorem pss_cons (h1:PS X st t) (h2:PSs X rest u):PSs X (st :: rest) (tSeq t u):=by
 intro pins s σ H D I h
 refine wpAny_execs_cons (thn (h1 pins s σ H { D with nx:=u D } I h) fun f s1 q=>?_)
 cases f with
 | next =>
  obtain ⟨σ',H',I',q⟩:=q
  exact h2 pins s1 σ' H' D I' q
 | ret v=>exact q
 | brk=>exact q
 | cont=>exact q
theorem pss_one (h1:PS X st t):PSs X [st] t:=by
 intro pins s σ H D I h
 refine wpAny_execs_cons (thn (h1 pins s σ H D I h) fun f s1 q=>?_)
 cases f with
 | next=>exact wpAny_execs_nil q
 | ret v=>exact q
 | brk=>exact q
 | cont=>exact q
theorem Inv.quiet (I:Inv X pins σ H s):interactive X.env=false:=by simp [interactive,I.ok.kind]
def tDrop (te:TE):TS:=fun D σ H=>te σ H fun _ H1=>D.nx σ H1
theorem ps_expr (he:PE X e te) (hs:swapsWith e none pos.line X.env=pure false:=by rfl):PS X (.Expr e pos) (tDrop te):=by
 intro pins s σ H D I h
 exact wpAny_Expr_any (thn (he pins s σ H _ I h) fun v s1 hx5=>L2.ex2 hx5 fun x H1 I1 r1 q1=>⟨σ,H1,I1,q1⟩) I.quiet hs
def tRet (te:TE):TS:=fun D σ H=>te σ H D.rt
theorem ps_ret (he:PE X e te):PS X (.Return (some e) pos) (tRet te):=by
 intro pins s σ H D I h
 exact wpAny_Return_some (thn (he pins s σ H _ I h) fun v s1 hx5=>L2.ex2 hx5 fun x H1 I1 r1 q1=>⟨x,σ,H1,I1,r1,q1⟩)
def tIfS (c:TT) (t u:TS):TS:=fun D σ H=>c σ H fun b H1=>if b=true then t D σ H1 else u D σ H1
theorem ps_if (hc:PT X c tc) (ha:PSs X a t) (hb:PSs X b u):PS X (.If c a b pos) (tIfS tc t u):=by
 intro pins s σ H D I h
 refine wpAny_If (thn (hc pins s σ H _ I h) fun d s1 hx9=>?_)
 obtain ⟨H1,I1,q1⟩:=hx9
 cases d with
 | true=>exact ha pins s1 σ H1 D I1 q1
 | false=>exact hb pins s1 σ H1 D I1 q1
end
abbrev TG:=V->St->Hp->(St->Hp->Prop)->Prop
abbrev TGs:=List V->St->Hp->(St->Hp->Prop)->Prop
def PG (X:Cx) (target:Expr) (t:TG):Prop :=
 ∀ (pins:List (Addr × Obj)) (s:Shared) (σ:St) (H:Hp) (v:V) (u:Value) (Q:St->Hp->Prop),Inv X pins σ H s->RelV v u->t v σ H Q ->
  wpAny (model X.prog X.w) X.A (assign target X.env u) (fun _ s'=>∃ σ' H',Inv X pins σ' H' s'/\Q σ' H') X.xe s
def PGs (X:Cx) (ts:List Expr) (t:TGs):Prop :=
 ∀ (pins:List (Addr × Obj)) (s:Shared) (σ:St) (H:Hp) (vs:List V) (us:List Value) (Q:St->Hp->Prop),Inv X pins σ H s->Vals vs us->t vs σ H Q ->
  wpAny (model X.prog X.w) X.A (assignInOrder ((assignEach ts X.env).map (·.2)) us) (fun _ s'=>∃ σ' H',Inv X pins σ' H' s'/\Q σ' H') X.xe s
section
variable {X:Cx} {pos:Pos}
def gName (i:Nat):TG:=fun v σ H Q=>Q (σ.set i (some v)) H
theorem pg_name (hN:X.N.Nodup) (hi:X.N[i]? = some x) (hx:Loc X.env.scope x) (hf:X.fn x=true\/X.env.scope.names.lookup x=some .local:=by first | exact .inl rfl | exact .inr rfl | assumption):PG X (.Name x pos) (gName i):=by
 intro pins s σ H v u Q I r h
 exact wpAny_assign_Name (store_ok I hN hi hx r (fun s' I'=>⟨_,H,I',h⟩) hf)
def gNil:TGs:=fun vs σ H Q=>vs=[]/\Q σ H
def gCons (t:TG) (u:TGs):TGs:=fun vs σ H Q=>∃ v r,vs=v :: r/\t v σ H fun σ' H'=>u r σ' H' Q
theorem pgs_nil:PGs X [] gNil:=by
 intro pins s σ H vs us Q I r h
 obtain ⟨e,h⟩:=h
 subst e
 cases r
 exact assignInOrder_nil ⟨σ,H,I,h⟩
theorem pgs_cons (h1:PG X e t) (h2:PGs X es u)
  (hs:(assignEach (e :: es) X.env).map (·.2)=assign e X.env :: (assignEach es X.env).map (·.2):=by rfl):PGs X (e :: es) (gCons t u):=by
 intro pins s σ H vs us Q I r h
 obtain ⟨v,vr,e1,h⟩:=h
 subst e1
 cases r with
 | cons r rr =>
  rw [hs]
  refine assignInOrder_cons (thn (h1 pins s σ H _ _ _ I r h) fun _ s1 hx9=>?_)
  obtain ⟨σ1,H1,I1,q1⟩:=hx9
  exact h2 pins s1 σ1 H1 _ _ Q I1 rr q1
def gTup (K:PySem.W.Frag) (n:Nat) (t:TGs):TG:=fun v σ H Q=>∃ a xs,v=.ref a/\SqT K H a xs/\xs.length=n/\t xs σ H Q
theorem pg_tup (hc:X.calm=true) (h:PGs X es t)
  (hn:(assignEach es X.env).length=n:=by rfl) (hst:(assignEach es X.env).findIdx? (·.1)=none:=by rfl):PG X (.Tuple es k pos) (gTup X.K n t):=by
 intro pins s σ H v u Q I r hw
 obtain ⟨a,xs,e1,hq,hl,hw⟩:=hw
 subst e1
 cases r
 obtain ⟨its,rv,ht,hz⟩:=I.tuple hq
 refine assign_Tuple_tuple (I.ok.hd hc) ht (by simp [hn,<- hl,rv.length]) hst fun h' hx=>?_
 have I1:Inv X pins σ H { s with heap:=h' }:=I.kept (t':=s.toks) fun b o e=>hx b o (xav (xan e)) e
 exact h pins _ σ H xs _ Q I1 (by simpa using rv) hw
def tAsg (te:TE) (g:TG):TS:=fun D σ H=>te σ H fun x H1=>g x σ H1 D.nx
theorem ps_set (hN:X.N.Nodup) (hi:X.N[i]? = some x) (hx:Loc X.env.scope x) (he:PE X e te) (hs:swapsWith e (some (.Name x pos')) pos.line X.env=pure false:=by rfl) (hf:X.fn x=true\/X.env.scope.names.lookup x=some .local:=by first | exact .inl rfl | exact .inr rfl | assumption) :
  PS X (.Assign [.Name x pos'] e pos) (tAsg te (gName i)):=by
 intro pins s σ H D I h
 refine wpAny_Assign_Name (thn (he pins s σ H _ I h) fun v s1 hx5=>L2.ex2 hx5 fun y H1 I1 r1 q1=>?_) hs
 exact store_ok I1 hN hi hx r1 (fun s2 I2=>⟨_,H1,I2,q1⟩) hf
end
section
variable {X:Cx} {pos:Pos}
def tWhile (c:TT) (tb:TS):TS:=fun D σ H=>∃ W:Nat->St->Hp->Prop,(∃ m,W m σ H)/\∀ m σ H,W m σ H ->
 c σ H fun b H1=>if b=true then ∃ N:St->Hp->Prop,(∀ σ' H',N σ' H'->∃ m',m'<m/\W m' σ' H')/\tb { D with nx:=N,ct:=N,bk:=D.nx } σ H1 else D.nx σ H1
theorem ps_while (hp:PassesOwn (model X.prog X.w) X.A X.env X.xe) (hc:PT X c tc) (hb:PSs X body tb):PS X (.While c body [] pos) (tWhile tc tb):=by
 intro pins s σ H D I h
 obtain ⟨W,⟨m0,w0⟩,turn⟩:=h
 refine wpAny_While (codeAny_whileLoop (fun n s'=>∃ σ' H',Inv X pins σ' H' s'/\W n σ' H') ?_ m0 ⟨σ,H,I,w0⟩)
 rintro n s1 ⟨σ1,H1,I1,w1⟩
 refine wpAny_passesOwn hp (thn (hc pins s1 σ1 H1 _ I1 (turn n σ1 H1 w1)) fun b s2 hx9=>?_)
 obtain ⟨H2,I2,q2⟩:=hx9
 cases b with
 | true =>
  obtain ⟨N,hN,q2⟩:=q2
  rw [if_pos rfl]
  refine wpAny_passesOwn hp (thn (hb pins s2 σ1 H2 _ I2 q2) fun f s3 q3=>?_)
  cases f with
  | next =>
   obtain ⟨σ3,H3,I3,n3⟩:=q3
   obtain ⟨m',hm,w3⟩:=hN σ3 H3 n3
   exact ⟨m',hm,σ3,H3,I3,w3⟩
  | cont =>
   obtain ⟨σ3,H3,I3,n3⟩:=q3
   obtain ⟨m',hm,w3⟩:=hN σ3 H3 n3
   exact ⟨m',hm,σ3,H3,I3,w3⟩
  | brk=>exact q3
  | ret v=>exact q3
 | false =>
  rw [if_neg xaq]
  exact wpAny_execs_nil ⟨σ1,H2,I2,q2⟩
end
structure It where
 go:Nat->Hp->Prop
 yld:Nat->Hp->V->Hp->Prop
 stop:Nat->Hp->Prop
def FpOk (X:Cx) (pins:List (Addr × Obj)) (H:Hp) (b:Addr):Prop :=
 H b=none/\b≠X.env.locals/\b∉X.fs/\(b∈X.ex\/X.s₀.heap.objs.size<=b)/\(∀ x c,X.env.cells.lookup x=some c->c≠b)/\∀ p∈X.pn++pins,p.1≠b
theorem Inv.fpOk {X:Cx} (I:Inv X pins σ H s) (hb:s.heap.objs.size<=b) (hn:H' b=none):FpOk X pins H' b:=by
 refine ⟨hn,Nat.ne_of_gt (xap I.lt hb),I.nofs hb,.inr (xaA I.sz hb),fun x c e z=>?_,fun p hp z=>?_⟩
 ·obtain ⟨v,q⟩:=I.cell x c e
  exact absurd (xap q.lt (by rw [z]; exact hb)) (xaT _)
 ·exact absurd (xap (xan (I.pin p hp).1) (by rw [z]; exact hb)) (xaT _)
structure Turn (P:Program) (w:World) (K:PySem.W.Frag) (tg:Expr) (J:It) (fp:List Addr) (it:Addr) (tn:Nat->Heap->Prop):Prop where
 mem:it∈fp
 obj:∀ i h,tn i h->∀ b∈fp,∃ o,h.get? b=some o/\∀ v,o.data≠.cell v
 keep:∀ i h h',tn i h->(∀ b∈fp,∀ o,h.get? b=some o->h'.get? b=some o)->tn i h'
 item:∀ (X:Cx),X.prog=P->X.w=w->X.K=K->X.calm=true->∀ (i:Nat) (pins:List (Addr × Obj)) (s:Shared) (σ:St) (H:Hp) (E:Value->Shared->Prop),Inv X pins σ H s->(∀ b∈fp,FpOk X pins H b)->tn i s.heap->J.go i H ->
  wpAny (model P w) X.A (pyNext (.ref it)) (fun r s1=>∃ u,r=some u /\
   wpAny (model P w) X.A (letOwnedTupleGo tg (.ref it) u) (fun _ s2=>∃ x H',Inv X pins σ H' s2/\RelV x u/\J.yld i H x H'/\tn (i+1) s2.heap/\∀ b∈fp,H' b=none) E s1) E s
 done:∀ (X:Cx),X.prog=P->X.w=w->X.K=K->X.calm=true->∀ (i:Nat) (pins:List (Addr × Obj)) (s:Shared) (σ:St) (H:Hp) (E:Value->Shared->Prop),Inv X pins σ H s->(∀ b∈fp,FpOk X pins H b)->tn i s.heap->J.stop i H ->
  wpAny (model P w) X.A (pyNext (.ref it)) (fun r s1=>r=none/\Inv X pins σ H s1) E s
 self:∀ (A:Around) (i:Nat) (s:Shared) (Q:Value->Shared->Prop) (E:Value->Shared->Prop),tn i s.heap->Q (.ref it) s->wpAny (model P w) A (pyIter (.ref it)) Q E s
abbrev TI:=St->Hp->(It->Hp->Prop)->Prop
def PIE (X:Cx) (pins:List (Addr × Obj)) (σ:St) (tg:Expr) (R:It->Hp->Prop) (itv:Value) (s2:Shared):Prop :=
 ∃ (it:Addr) (fp:List Addr) (tn:Nat->Heap->Prop) (J:It) (H':Hp),itv=.ref it/\Inv X pins σ H' s2/\Turn X.prog X.w X.K tg J fp it tn/\tn 0 s2.heap/\(∀ b∈fp,FpOk X pins H' b)/\R J H'
def PI (X:Cx) (tg iter:Expr) (wi:TI):Prop :=
 ∀ (pins:List (Addr × Obj)) (s:Shared) (σ:St) (H:Hp) (R:It->Hp->Prop),Inv X pins σ H s->wi σ H R ->
  wpAny (model X.prog X.w) X.A (eval iter X.env) (fun v s1=>wpAny (model X.prog X.w) X.A (pyIter v) (PIE X pins σ tg R) X.xe s1) X.xe s
theorem go_of (ho:s.heap.get? it=some o) (hc:o.cls=.type n) (hd:o.data=.fields vs)
  (hn:["enumerate", "zip", "dict_itemiterator", "dict_reverseitemiterator", "odict_iterator", "itertools.zip_longest", "itertools.pairwise"].contains n=false) (hQ:Q () s):wpAny M A (letOwnedTupleGo tg (.ref it) u) Q E s:=by
 unfold letOwnedTupleGo
 cases tg <;> first
  | exact xah hQ
  | (cases u <;> first
     | exact xah hQ
     | (refine xaa (wpAny_load ho ?_)
        rw [hc,hd]
        show wpAny M A (if (["enumerate", "zip", "dict_itemiterator", "dict_reverseitemiterator", "odict_iterator", "itertools.zip_longest", "itertools.pairwise"].contains n && vs[0]? == some (rawInt _))=true then _ else _) Q E s
        rw [if_neg (by intro h; rw [hn,Bool.false_and] at h; cases h)]
        exact xah hQ))
def Itl (K:PySem.W.Frag) (a:Addr):It :=
 ⟨fun i H=>∃ xs x,SqL K H a xs/\xs[i]? = some x,fun i H x H'=>H'=H/\∀ xs,SqL K H a xs->xs[i]? = some x,fun i H=>∃ xs,SqL K H a xs/\xs.length<=i⟩
def Itt (K:PySem.W.Frag) (a:Addr):It :=
 ⟨fun i H=>∃ xs x,SqT K H a xs/\xs[i]? = some x,fun i H x H'=>H'=H/\∀ xs,SqT K H a xs->xs[i]? = some x,fun i H=>∃ xs,SqT K H a xs/\xs.length<=i⟩
def Itr (lo:Int) (n:Nat):It:=⟨fun i _=>i<n,fun i H x H'=>H'=H/\x=.int (lo+i),fun i _=>n<=i⟩
theorem turn_list {P:Program} {K:PySem.W.Frag} (a it:Addr):Turn P w K tg (Itl K a) [it] it (fun i h=>h.IsListIter it a i) where
 mem:=by simp
 obj:=fun i h st b hb=>by
  have e:b=it:=by simpa using hb
  subst e
  obtain ⟨o,e,c,d⟩:=st
  exact ⟨o,e,fun v z=>by rw [d] at z; cases z⟩
 keep:=fun i h h' st k=>st.at fun o e=>k it (by simp) o e
 item:=by
  intro X hP hw hK hc i pins s σ H E I hf st hg
  subst hP hw hK
  obtain ⟨xs,x,hq,hx⟩:=hg
  obtain ⟨its,rv,p,hz⟩:=I.list hq
  obtain ⟨u,hu,ru⟩:=rv.get hx
  obtain ⟨f0,f1,f2,f3,f4,f5⟩:=hf it (by simp)
  refine wpAny_pyNext_list_item st p.isList (x:=u) (by simpa using hu) fun h' st' sb=>?_
  have I1:Inv X pins σ H { s with heap:=h' }:=I.turned (t':=s.toks) (fun b o hb e=>(sb.2 b hb).trans e) f0 f1 f3 f4 f5
  obtain ⟨o,e,c,d⟩:=id st'
  exact ⟨u,rfl,go_of (s:={ s with heap:=h' }) e c d (by decide) ⟨x,H,I1,ru,⟨rfl,fun ys hy=>by rw [I.list_inj hy hq]; exact hx⟩,st',fun b hb=>(hf b hb).1⟩⟩
 done:=by
  intro X hP hw hK hc i pins s σ H E I hf st hg
  subst hP hw hK
  obtain ⟨xs,hq,hx⟩:=hg
  obtain ⟨its,rv,p,hz⟩:=I.list hq
  obtain ⟨f0,f1,f2,f3,f4,f5⟩:=hf it (by simp)
  have hl:=rv.length
  exact wpAny_pyNext_list_end (I.ok.hd hc) st p.isList (by simp; lia) fun h' eb=>⟨rfl,I.turned (t':=s.toks) (fun b o hb e=>eb b o hb e) f0 f1 f3 f4 f5⟩
 self:=fun _ _ _ _ _ st h=>wpAny_pyIter_listiter st h
theorem turn_tuple {P:Program} {K:PySem.W.Frag} (a it:Addr):Turn P w K tg (Itt K a) [it] it (fun i h=>h.IsTupleIter it a i) where
 mem:=by simp
 obj:=fun i h st b hb=>by
  have e:b=it:=by simpa using hb
  subst e
  obtain ⟨o,e,c,d⟩:=st
  exact ⟨o,e,fun v z=>by rw [d] at z; cases z⟩
 keep:=fun i h h' st k=>st.at fun o e=>k it (by simp) o e
 item:=by
  intro X hP hw hK hc i pins s σ H E I hf st hg
  subst hP hw hK
  obtain ⟨xs,x,hq,hx⟩:=hg
  obtain ⟨its,rv,p,hz⟩:=I.tuple hq
  obtain ⟨u,hu,ru⟩:=rv.get hx
  obtain ⟨f0,f1,f2,f3,f4,f5⟩:=hf it (by simp)
  refine wpAny_pyNext_tuple_item st (show s.heap.IsTuple a its.toArray from p) (x:=u) (by simpa using hu) fun h' st' sb=>?_
  have I1:Inv X pins σ H { s with heap:=h' }:=I.turned (t':=s.toks) (fun b o hb e=>(sb.2 b hb).trans e) f0 f1 f3 f4 f5
  obtain ⟨o,e,c,d⟩:=id st'
  exact ⟨u,rfl,go_of (s:={ s with heap:=h' }) e c d (by decide) ⟨x,H,I1,ru,⟨rfl,fun ys hy=>by rw [I.tuple_inj hy hq]; exact hx⟩,st',fun b hb=>(hf b hb).1⟩⟩
 done:=by
  intro X hP hw hK hc i pins s σ H E I hf st hg
  subst hP hw hK
  obtain ⟨xs,hq,hx⟩:=hg
  obtain ⟨its,rv,p,hz⟩:=I.tuple hq
  obtain ⟨f0,f1,f2,f3,f4,f5⟩:=hf it (by simp)
  have hl:=rv.length
  exact wpAny_pyNext_tuple_end (I.ok.hd hc) st (show s.heap.IsTuple a its.toArray from p) (by simp; lia) fun h' eb=>⟨rfl,I.turned (t':=s.toks) (fun b o hb e=>eb b o hb e) f0 f1 f3 f4 f5⟩
 self:=fun _ _ _ _ _ st h=>wpAny_pyIter_tupleiter st h
theorem turn_range {P:Program} {K:PySem.W.Frag} (it:Addr) (lo:Int) (n:Nat):Turn P w K tg (Itr lo n) [it] it (fun i h=>IsRangeIter h it (lo+(i:Nat) * 1) ((n:Int) - (i:Nat)) 1) where
 mem:=by simp
 obj:=fun i h st b hb=>by
  have e:b=it:=by simpa using hb
  subst e
  exact ⟨_,st,fun v z=>by
   have z':Data.fields _=Data.cell v:=z
   cases z'⟩
 keep:=fun i h h' st k=>k it (by simp) _ st
 item:=by
  intro X hP hw hK hc i pins s σ H E I hf st hg
  subst hP hw hK
  obtain ⟨f0,f1,f2,f3,f4,f5⟩:=hf it (by simp)
  have W:=Walks.range (prog:=X.prog) (w:=X.w) (I.ok.hd hc) it lo 1 n
  refine W.item i s _ _ hg st fun v h' tk hv st' kk=>?_
  obtain ⟨t,rfl⟩:=hv
  have I1:Inv X pins σ H { s with heap:=h',toks:=tk }:=I.turned (fun b o hb e=>kk b o (by simpa using hb) e) f0 f1 f3 f4 f5
  refine ⟨_,rfl,go_of (s:={ s with heap:=h',toks:=tk }) (n := "range_iterator") st' rfl rfl (by decide) ⟨.int (lo+i),H,I1,⟨t,?_⟩,⟨rfl,rfl⟩,st',fun b hb=>(hf b hb).1⟩⟩
  rw [Int.mul_one]
 done:=by
  intro X hP hw hK hc i pins s σ H E I hf st hg
  subst hP hw hK
  obtain ⟨f0,f1,f2,f3,f4,f5⟩:=hf it (by simp)
  exact wpAny_pyNext_range_end (I.ok.hd hc) st (by have:n<=i:=hg; lia) fun h' eb=>⟨rfl,I.turned (t':=s.toks) (fun b o hb e=>eb b o hb e) f0 f1 f3 f4 f5⟩
 self:=fun _ _ _ _ _ st h=>wpAny_pyIter_rangeiter st h
section
variable {X:Cx} {tg:Expr}
def iList (K:PySem.W.Frag) (tl:TE):TI:=fun σ H R=>tl σ H fun x H1=>∃ a,x=.ref a/\(∃ xs,SqL K H1 a xs)/\R (Itl K a) H1
def iTup (K:PySem.W.Frag) (tl:TE):TI:=fun σ H R=>tl σ H fun x H1=>∃ a,x=.ref a/\(∃ xs,SqT K H1 a xs)/\R (Itt K a) H1
theorem pi_list (hl:PE X l tl):PI X tg l (iList X.K tl):=by
 intro pins s σ H R I h
 refine thn (hl pins s σ H _ I h) fun v s1 hx5=>L2.ex2 hx5 fun x H1 I1 r1 q1=>?_
 obtain ⟨a,e,⟨xs,hq⟩,q⟩:=q1
 subst e
 cases r1
 obtain ⟨its,rv,p,hz⟩:=I1.list hq
 refine wpAny_pyIter_list p.isList ?_
 refine ⟨s1.heap.objs.size,[s1.heap.objs.size],_,_,H1,rfl,I1.kept (t':=s1.toks) fun b o e=>xaj _ e,turn_list a _,⟨_,xaw _ rfl,rfl,rfl⟩,fun b hb=>?_,q⟩
 have e:b=s1.heap.objs.size:=by simpa using hb
 subst e
 exact I1.fpOk (xae _) (I1.hok.fresh (xae _))
theorem pi_tup (hl:PE X l tl):PI X tg l (iTup X.K tl):=by
 intro pins s σ H R I h
 refine thn (hl pins s σ H _ I h) fun v s1 hx5=>L2.ex2 hx5 fun x H1 I1 r1 q1=>?_
 obtain ⟨a,e,⟨xs,hq⟩,q⟩:=q1
 subst e
 cases r1
 obtain ⟨its,rv,p,hz⟩:=I1.tuple hq
 refine wpAny_pyIter_tuple (show s1.heap.IsTuple a its.toArray from p) ?_
 refine ⟨s1.heap.objs.size,[s1.heap.objs.size],_,_,H1,rfl,I1.kept (t':=s1.toks) fun b o e=>xaj _ e,turn_tuple a _,⟨_,xaw _ rfl,rfl,rfl⟩,fun b hb=>?_,q⟩
 have e:b=s1.heap.objs.size:=by simpa using hb
 subst e
 exact I1.fpOk (xae _) (I1.hok.fresh (xae _))
theorem range_it {R:It->Hp->Prop} {lo hi:Int} (I:Inv X pins σ H s) (h1:-(2 ^ 62)<=lo) (h2:lo<2 ^ 62) (h3:-(2 ^ 62)<=hi) (h4:hi<2 ^ 62)
  (q:R (Itr lo (hi - lo).toNat) H):wpAny (model X.prog X.w) X.A (pyIter (.ref s.heap.objs.size)) (PIE X pins σ tg R) E { s with heap:=s.heap.push { cls:=.type "range",data:=.fields #[.int lo t,.int hi u,.int 1 v] },toks:=tk }:=by
 refine wpAny_pyIter_range (IsRange.new ..) (small_one h1 h2 h3 h4) ?_
 have I1:Inv X pins σ H { s with heap:=s.heap.push { cls:=.type "range",data:=.fields #[.int lo t,.int hi u,.int 1 v] },toks:=tk }:=I.kept fun b o e=>xaj _ e
 refine ⟨(s.heap.push { cls:=.type "range",data:=.fields #[.int lo t,.int hi u,.int 1 v] }).objs.size,[(s.heap.push { cls:=.type "range",data:=.fields #[.int lo t,.int hi u,.int 1 v] }).objs.size],_,_,H,rfl,
  I1.kept (t':=tk) fun b o e=>xaj _ e,turn_range _ lo (hi - lo).toNat,?_,fun b hb=>?_,q⟩
 ·have e1:lo+((0:Nat):Int) * 1=lo:=by simp
  have e2:(((hi - lo).toNat:Nat):Int) - ((0:Nat):Int)=Builtin.Range.rangeSize lo hi 1:=by rw [rangeSize_one]; split <;> lia
  show IsRangeIter _ _ (lo+((0:Nat):Int) * 1) ((((hi - lo).toNat:Nat):Int) - ((0:Nat):Int)) 1
  rw [e1,e2]
  exact xaw _ rfl
 ·have e:b=(s.heap.push { cls:=.type "range",data:=.fields #[.int lo t,.int hi u,.int 1 v] }).objs.size:=by simpa using hb
  subst e
  exact I1.fpOk (xae _) (I1.hok.fresh (xae _))
def iRng1 (ta:TA):TI:=fun σ H R=>ta σ H fun vs H1=>∃ j:Int,vs=[.int j]/\-(2 ^ 62)<=j/\j<2 ^ 62/\R (Itr 0 j.toNat) H1
theorem pi_range1 (hg:Gl X "range") (hm:X.mg "range" = none) (ha:PA X [a] ta) (hs:starEach [a] X.env=[(false,eval a X.env)]:=by rfl):PI X tg (.Call (.Name "range" p) [a] [] pos) (iRng1 ta):=by
 intro pins s σ H R I h
 refine Call_ (ld_blt I hg hm boot_range (PyProof.Rows.callWith_type1 (thn (ha pos pins s σ H _ I h) fun us s1 hx5=>L2.ex2 hx5 fun vs H1 I1 r1 q1=>?_) hs rfl))
 obtain ⟨j,e,q1,q2,q⟩:=q1
 subst e
 cases r1 with
 | cons r rr =>
  cases rr
  obtain ⟨t,rfl⟩:=r
  exact call_range_1 (range_it I1 (by lia) (by lia) q1 q2 (by simpa using q))
def tFor (wi:TI) (g:TG) (tb:TS):TS:=fun D σ H=>wi σ H fun J H1=>∃ W:Nat->Nat->St->Hp->Prop,(∃ m,W 0 m σ H1)/\∀ i m σ H,W i m σ H ->
 (J.stop i H/\D.nx σ H)\/(J.go i H/\∃ N:St->Hp->Prop,(∀ σ' H',N σ' H'->∃ m',m'<m/\W (i+1) m' σ' H')/\∀ x H',J.yld i H x H'->g x σ H' fun σ2 H2=>tb { D with nx:=N,ct:=N,bk:=D.nx } σ2 H2)
def pinsAt (fp:List Addr) (h:Heap):List (Addr × Obj):=fp.filterMap fun b=>(h.get? b).map fun o=>(b,o)
theorem mem_pinsAt (hb:b∈fp) (e:h.get? b=some o):(b,o)∈pinsAt fp h:=List.mem_filterMap.mpr ⟨b,hb,by rw [e]; rfl⟩
theorem of_pinsAt (hp:p∈pinsAt fp h):p.1∈fp/\h.get? p.1=some p.2:=by
 obtain ⟨b,hb,e⟩:=List.mem_filterMap.mp hp
 cases q:h.get? b with
 | none=>rw [q] at e; cases e
 | some o =>
  rw [q] at e
  have e':(b,o)=p:=Option.some.inj e
  subst e'
  exact ⟨hb,q⟩
theorem Inv.pinned (I:Inv X pins σ H s) (hf:∀ b∈fp,FpOk X pins H b) (ho:∀ b∈fp,∃ o,s.heap.get? b=some o/\∀ v,o.data≠.cell v):Inv X (pins++pinsAt fp s.heap) σ H s :=
 I.pins_of fun p hp=>(xag.mp hp).elim (fun z=>I.pin p (xaf _ z)) fun z=>by
  obtain ⟨hb,e⟩:=of_pinsAt z
  obtain ⟨f0,f1,f2,_⟩:=hf p.1 hb
  obtain ⟨o,e',d⟩:=ho p.1 hb
  rw [e] at e'; cases e'
  exact ⟨e,f0,f1,f2,d⟩
theorem Inv.unpinned (I:Inv X (pins++pl) σ H s):Inv X pins σ H s:=I.pins_of fun p hp=>I.pin p (xaf _ (xai _ hp))
theorem ps_for (hp:PassesOwn (model X.prog X.w) X.A X.env X.xe) (hc:X.calm=true) (hi:PI X tg iter wi) (hg:PG X tg g) (hb:PSs X body tb)
  (hs:∀ x,foldedSetIterable iter X.env x=pure x:=by intro _; rfl):PS X (.For tg iter body [] pos) (tFor wi g tb):=by
 intro pins s σ H D I h
 refine wpAny_For (thn (hi pins s σ H _ I h) fun v s1 h1=>thn h1 fun itv s2 h2=>?_) hs
 obtain ⟨it,fp,tn,J,H2,e,I2,T,st2,f2,W,⟨m0,w0⟩,turn⟩:=h2
 subst e
 -- what stays true of the iterator's objects through the loop
 have stat:∀ {H':Hp},(∀ b∈fp,H' b=none)->∀ b∈fp,FpOk X pins H' b:=fun hn b hb=>⟨hn b hb,(f2 b hb).2⟩
 refine codeAny_forLoop_any (fun n s'=>∃ i σ' H',Inv X pins σ' H' s'/\tn i s'.heap/\(∀ b∈fp,H' b=none)/\W i n σ' H') ?_ m0 ⟨0,σ,H2,I2,st2,fun b hb=>(f2 b hb).1,w0⟩
 rintro n s3 ⟨i,σ3,H3,I3,st3,fr3,w3⟩
 rcases turn i n σ3 H3 w3 with ⟨stop,qn⟩ | ⟨go,N,hN,step⟩
 ·refine wpAny_passesOwn hp (thn (T.done X rfl rfl rfl hc i pins s3 σ3 H3 X.xe I3 (stat fr3) st3 stop) fun r s4 hx9=>?_)
  obtain ⟨hr,I4⟩:=hx9
  subst hr
  exact wpAny_execs_nil ⟨σ3,H3,I4,qn⟩
 ·refine wpAny_passesOwn hp (thn (T.item X rfl rfl rfl hc i pins s3 σ3 H3 X.xe I3 (stat fr3) st3 go) fun r s4 hx9=>?_)
  obtain ⟨u,hr,h4⟩:=hx9
  subst hr
  refine wpAny_passesOwn hp (thn h4 fun _ s5 hx9=>?_)
  obtain ⟨x,H5,I5,r5,y5,st5,fr5⟩:=hx9
  have I5':=I5.pinned (stat fr5) (T.obj _ _ st5)
  refine wpAny_passesOwn hp (thn (hg _ s5 σ3 H5 x u _ I5' r5 (step x H5 y5)) fun _ s6 hx9=>?_)
  obtain ⟨σ6,H6,I6,q6⟩:=hx9
  refine wpAny_passesOwn hp (thn (hb _ s6 σ6 H6 _ I6 q6) fun f s7 q7=>?_)
  have again:∀ {σ7:St} {H7:Hp},Inv X (pins++pinsAt fp s5.heap) σ7 H7 s7->N σ7 H7->∃ m,m<n/\∃ i σ' H',Inv X pins σ' H' s7/\tn i s7.heap/\(∀ b∈fp,H' b=none)/\W i m σ' H':=fun {σ7 H7} I7 n7=>by
   obtain ⟨m',hm,w7⟩:=hN σ7 H7 n7
   refine ⟨m',hm,i+1,σ7,H7,I7.unpinned,T.keep _ _ _ st5 fun b hb o e=>(I7.pin (b,o) (xaf _ (xaf _ (mem_pinsAt hb e)))).1,fun b hb=>?_,w7⟩
   obtain ⟨o,e,d⟩:=T.obj _ _ st5 b hb
   exact (I7.pin (b,o) (xaf _ (xaf _ (mem_pinsAt hb e)))).2.1
  cases f with
  | next=>obtain ⟨σ7,H7,I7,n7⟩:=q7; exact again I7 n7
  | cont=>obtain ⟨σ7,H7,I7,n7⟩:=q7; exact again I7 n7
  | brk=>obtain ⟨σ7,H7,I7,q7⟩:=q7; exact ⟨σ7,H7,I7.unpinned,q7⟩
  | ret v=>obtain ⟨x7,σ7,H7,I7,r7,q7⟩:=q7; exact ⟨x7,σ7,H7,I7.unpinned,r7,q7⟩
end
abbrev R2:=V->V->Hp->VK->Prop
def OpR (X:Cx) (f:Value->Value->Sem Value) (r:R2):Prop :=
 ∀ (pins:List (Addr × Obj)) (s:Shared) (σ:St) (H:Hp) (x y:V) (v u:Value) (Q:VK),Inv X pins σ H s->RelV x v->RelV y u->r x y H Q ->
  wpAny (model X.prog X.w) X.A (f v u) (EP X pins σ Q) X.xe s
def UnR (X:Cx) (f:Value->Sem Value) (r:V->Hp->VK->Prop):Prop :=
 ∀ (pins:List (Addr × Obj)) (s:Shared) (σ:St) (H:Hp) (x:V) (v:Value) (Q:VK),Inv X pins σ H s->RelV x v->r x H Q ->
  wpAny (model X.prog X.w) X.A (f v) (EP X pins σ Q) X.xe s
def CallR (X:Cx) (f:Value) (r:List V->Hp->VK->Prop):Prop :=
 ∀ (pins:List (Addr × Obj)) (s:Shared) (σ:St) (H:Hp) (xs:List V) (us:List Value) (Q:VK),Inv X pins σ H s->Vals xs us->r xs H Q ->
  wpAny (model X.prog X.w) X.A (call f us) (EP X pins σ Q) X.xe s
def TruR (X:Cx) (r:V->Hp->(Bool->Hp->Prop)->Prop):Prop :=
 ∀ (pins:List (Addr × Obj)) (s:Shared) (σ:St) (H:Hp) (x:V) (v:Value) (Q:Bool->Hp->Prop),Inv X pins σ H s->RelV x v->r x H Q ->
  wpAny (model X.prog X.w) X.A (truthy v) (TP X pins σ Q) X.xe s
def tOp (r:R2) (ta tb:TE):TE:=fun σ H Q=>ta σ H fun x H1=>tb σ H1 fun y H2=>r x y H2 Q
def tUn (r:V->Hp->VK->Prop) (ta:TE):TE:=fun σ H Q=>ta σ H fun x H1=>r x H1 Q
def rI (C:Int->Int->Prop) (g:Int->Int->V):R2:=fun x y H Q=>∃ i j,x=.int i/\y=.int j/\C i j/\Q (g i j) H
def rI0 (g:Int->Int->V):R2:=fun x y H Q=>∃ i j,x=.int i/\y=.int j/\Q (g i j) H
def rU (g:Int->V):V->Hp->VK->Prop:=fun x H Q=>∃ i,x=.int i/\Q (g i) H
section
variable {X:Cx} {a b:Expr} {ta tb:TE} {pos:Pos}
theorem binT (ha:PE X a ta) (hb:PE X b tb) {pins:List (Addr × Obj)} {s:Shared} {σ:St} {H:Hp} {R:V->V->Hp->Prop} (I:Inv X pins σ H s)
  (h:ta σ H fun x H1=>tb σ H1 fun y H2=>R x y H2) {Q:Value->Shared->Prop} {f:Value->Value->Sem Value}
  (hf:∀ v u s2 x y H2,Inv X pins σ H2 s2->RelV x v->RelV y u->R x y H2->wpAny (model X.prog X.w) X.A (f v u) Q X.xe s2) :
  wpAny (model X.prog X.w) X.A (eval a X.env) (fun v s₁=>wpAny (model X.prog X.w) X.A (eval b X.env) (fun u s₂=>wpAny (model X.prog X.w) X.A (f v u) Q X.xe s₂) X.xe s₁) X.xe s:=by
 refine thn (ha pins s σ H _ I h) fun v s1 hx5=>L2.ex2 hx5 fun x H1 I1 r1 q1=>?_
 refine thn (hb pins s1 σ H1 _ I1 q1) fun u s2 hx5=>L2.ex2 hx5 fun y H2 I2 r2 q2=>?_
 exact hf v u s2 x y H2 I2 r1 r2 q2
theorem pe_op {op:Operator} {r:R2} (ho:OpR X (binaryOp op) r) (ha:PE X a ta) (hb:PE X b tb):PE X (.BinOp a op b pos) (tOp r ta tb):=by
 intro pins s σ H Q I h
 exact wpAny_BinOp (binT ha hb I h fun v u s2 x y H2 I2 rx ry q=>ho pins s2 σ H2 x y v u Q I2 rx ry q)
theorem pe_un (ho:UnR X (unaryOp op) r) (ha:PE X a ta):PE X (.UnaryOp op a pos) (tUn r ta):=by
 intro pins s σ H Q I h
 exact UnaryOp_ (thn (ha pins s σ H _ I h) fun v s1 hx5=>L2.ex2 hx5 fun x H1 I1 r1 q1=>ho pins s1 σ H1 x v Q I1 r1 q1)
theorem opI {f:Value->Value->Sem Value} {C:Int->Int->Prop} {g:Int->Int->Int}
  (rule:∀ (i j:Int) (t u:Tok) (s:Shared) (Q:Value->Shared->Prop) (E:Value->Shared->Prop),C i j->Q (.int (g i j) s.toks) { s with toks:=s.toks+1 }->wpAny (model X.prog X.w) X.A (f (.int i t) (.int j u)) Q E s) :
  OpR X f (rI C fun i j=>.int (g i j)):=by
 intro pins s σ H x y v u Q I rx ry h
 obtain ⟨i,j,rfl,rfl,hc,q⟩:=h
 obtain ⟨t,rfl⟩:=rx
 obtain ⟨t',rfl⟩:=ry
 exact rule i j t t' s _ _ hc ⟨.int (g i j),H,I.tok _,⟨_,rfl⟩,q⟩
theorem opI0 {f:Value->Value->Sem Value} {g:Int->Int->Int}
  (rule:∀ (i j:Int) (t u:Tok) (s:Shared) (Q:Value->Shared->Prop) (E:Value->Shared->Prop),Q (.int (g i j) s.toks) { s with toks:=s.toks+1 }->wpAny (model X.prog X.w) X.A (f (.int i t) (.int j u)) Q E s) :
  OpR X f (rI0 fun i j=>.int (g i j)):=by
 intro pins s σ H x y v u Q I rx ry h
 obtain ⟨i,j,rfl,rfl,q⟩:=h
 obtain ⟨t,rfl⟩:=rx
 obtain ⟨t',rfl⟩:=ry
 exact rule i j t t' s _ _ ⟨.int (g i j),H,I.tok _,⟨_,rfl⟩,q⟩
theorem opB0 {f:Value->Value->Sem Value} {g:Int->Int->Bool}
  (rule:∀ (i j:Int) (t u:Tok) (s:Shared) (Q:Value->Shared->Prop) (E:Value->Shared->Prop),Q (.bool (g i j)) s->wpAny (model X.prog X.w) X.A (f (.int i t) (.int j u)) Q E s) :
  OpR X f (rI0 fun i j=>.bl (g i j)):=by
 intro pins s σ H x y v u Q I rx ry h
 obtain ⟨i,j,rfl,rfl,q⟩:=h
 obtain ⟨t,rfl⟩:=rx
 obtain ⟨t',rfl⟩:=ry
 exact rule i j t t' s _ _ ⟨.bl (g i j),H,I,rfl,q⟩
def CDiv (i j:Int):Prop:=0<j/\j<1073741824
def CPow (i j:Int):Prop:=0<=j/\j<=1000000/\i.natAbs<2 ^ 64
def CMul (i j:Int):Prop:=(-(2 ^ 64)<i/\i<2 ^ 64)\/(-(2 ^ 64)<j/\j<2 ^ 64)
theorem CMul.ok (h:CMul i j):IntMulOk i j:=by
 rcases h with ⟨h1,h2⟩ | ⟨h1,h2⟩
 ·exact .of_left (intBits_le_64 h1 h2)
 ·exact .of_right (intBits_le_64 h1 h2)
theorem op_add:OpR X (binaryOp .Add) (rI0 fun i j=>.int (i+j)):=opI0 fun _ _ _ _ _ _ _ q=>add_int q
theorem op_sub:OpR X (binaryOp .Sub) (rI0 fun i j=>.int (i - j)):=opI0 fun _ _ _ _ _ _ _ q=>sub_int q
theorem op_mul:OpR X (binaryOp .Mult) (rI CMul fun i j=>.int (i * j)):=opI fun _ _ _ _ _ _ _ hc q=>mul_int q hc.ok
theorem op_fdiv:OpR X (binaryOp .FloorDiv) (rI CDiv fun i j=>.int (i / j)):=opI fun i j _ _ _ _ _ hc q=>by
 have h1:(0:Int)<j:=hc.1
 have h2:j<1073741824:=hc.2
 exact floordiv_int (by lia) (by rw [Int.fdiv_eq_ediv_of_nonneg i (by exact xa9 ‹_›)]; exact q) (.inl (PyProof.noPylong_small (by lia)))
theorem op_mod:OpR X (binaryOp .Mod) (rI (fun _ j=>0<j) fun i j=>.int (i % j)):=opI fun i j _ _ _ _ _ hc q=>by
 have h1:(0:Int)<j:=hc
 exact mod_int' (by lia) (by rw [Int.fmod_eq_emod_of_nonneg i (by exact xa9 ‹_›)]; exact q)
theorem op_pow:OpR X (binaryOp .Pow) (rI CPow fun i j=>.int (i ^ j.toNat)):=opI fun _ _ _ _ _ _ _ hc q=>pow_int_small hc.1 hc.2.1 hc.2.2 q
theorem unI {f:Value->Sem Value} {g:Int->Int}
  (rule:∀ (i:Int) (t:Tok) (s:Shared) (Q:Value->Shared->Prop) (E:Value->Shared->Prop),Q (.int (g i) s.toks) { s with toks:=s.toks+1 }->wpAny (model X.prog X.w) X.A (f (.int i t)) Q E s) :
  UnR X f (rU fun i=>.int (g i)):=by
 intro pins s σ H x v Q I rx h
 obtain ⟨i,rfl,q⟩:=h
 obtain ⟨t,rfl⟩:=rx
 exact rule i t s _ _ ⟨.int (g i),H,I.tok _,⟨_,rfl⟩,q⟩
theorem un_neg:UnR X (unaryOp .USub) (rU fun i=>.int (-i)):=unI fun _ _ _ _ _ q=>neg_int q
end
def scal:V->V->Bool
 | .non,.non=>true | .non,.int _=>true | .int _,.non=>true | .non,.bl _=>true | .bl _,.non=>true | .non,.str _=>true | .str _,.non=>true
 | .int _,.int _=>true | .bl _,.bl _=>true | .str _,.str _=>true | .byt _,.byt _=>true
 | .int _,.str _=>true | .str _,.int _=>true | .bl _,.str _=>true | .str _,.bl _=>true
 | _,_=>false
def rEq:R2:=fun x y H Q=>scal x y=true/\Q (.bl (decide (x=y))) H
def rNe:R2:=fun x y H Q=>scal x y=true/\Q (.bl (!decide (x=y))) H
theorem dec_int:decide (V.int i=V.int j)=(i == j):=by
 rw [xaW]
 simp
theorem dec_bl:decide (V.bl i=V.bl j)=(i == j):=by
 rw [xaW]
 simp
theorem dec_str:decide (V.str i=V.str j)=(i == j):=by
 rw [xaW]
 simp
theorem dec_byt:decide (V.byt i=V.byt j)=(i.toList == j.toList):=by
 rw [xaW]
 cases i
 cases j
 simp
section
variable {X:Cx} {a b c:Expr} {ta tb tc:TE} {pos:Pos}
theorem fin_bl (I:Inv X pins σ H s) (q:Q (.bl k) H) (e:k=k'):EP X pins σ Q (.bool k') s:=by
 subst e
 exact ⟨.bl k,H,I,rfl,q⟩
theorem op_eq:OpR X (compareOp .Eq) rEq:=by
 intro pins s σ H x y v u Q I rx ry h
 obtain ⟨hs,q⟩:=h
 cases x with
 | non =>
  cases rx
  cases y with
  | non=>cases ry; exact PySem.EqNone.eq_none_none (fin_bl I q (by simp))
  | bl j=>cases ry; exact PySem.EqNone.eq_none_bool (fin_bl I q (by simp))
  | int j=>obtain ⟨t',rfl⟩:=ry; exact PySem.EqNone.eq_none_int (fin_bl I q (by simp))
  | str j=>obtain ⟨t',rfl⟩:=ry; exact PySem.EqNone.eq_none_str (fin_bl I q (by simp))
  | _=>exact absurd (show false=true from hs) xaq
 | bl i =>
  cases rx
  cases y with
  | non=>cases ry; exact PySem.EqNone.eq_bool_none (fin_bl I q (by simp))
  | bl j=>cases ry; exact eq_bool (fin_bl I q dec_bl)
  | str j=>obtain ⟨t',rfl⟩:=ry; exact PySem.EqMixed.eq_bool_str (fin_bl I q (by simp))
  | _=>exact absurd (show false=true from hs) xaq
 | int i =>
  obtain ⟨t,rfl⟩:=rx
  cases y with
  | non=>cases ry; exact PySem.EqNone.eq_int_none (fin_bl I q (by simp))
  | int j=>obtain ⟨t',rfl⟩:=ry; exact eq_int (fin_bl I q dec_int)
  | str j=>obtain ⟨t',rfl⟩:=ry; exact PySem.EqMixed.eq_int_str (fin_bl I q (by simp))
  | _=>exact absurd (show false=true from hs) xaq
 | str i =>
  obtain ⟨t,rfl⟩:=rx
  cases y with
  | non=>cases ry; exact PySem.EqNone.eq_str_none (fin_bl I q (by simp))
  | bl j=>cases ry; exact PySem.EqMixed.eq_str_bool (fin_bl I q (by simp))
  | int j=>obtain ⟨t',rfl⟩:=ry; exact PySem.EqMixed.eq_str_int (fin_bl I q (by simp))
  | str j=>obtain ⟨t',rfl⟩:=ry; exact eq_str (fin_bl I q dec_str)
  | _=>exact absurd (show false=true from hs) xaq
 | byt i =>
  obtain ⟨t,rfl⟩:=rx
  cases y with
  | byt j=>obtain ⟨t',rfl⟩:=ry; exact PySem.W.eq_bytes (fin_bl I q dec_byt)
  | _=>exact absurd (show false=true from hs) xaq
 | _=>cases y <;> exact absurd (show false=true from hs) xaq
theorem op_ne:OpR X (compareOp .NotEq) rNe:=by
 intro pins s σ H x y v u Q I rx ry h
 obtain ⟨hs,q⟩:=h
 cases x with
 | non =>
  cases rx
  cases y with
  | non=>cases ry; exact PySem.EqNone.ne_none_none (fin_bl I q (by simp))
  | bl j=>cases ry; exact PySem.EqNone.ne_none_bool (fin_bl I q (by simp))
  | int j=>obtain ⟨t',rfl⟩:=ry; exact PySem.EqNone.ne_none_int (fin_bl I q (by simp))
  | str j=>obtain ⟨t',rfl⟩:=ry; exact PySem.EqNone.ne_none_str (fin_bl I q (by simp))
  | _=>exact absurd (show false=true from hs) xaq
 | bl i =>
  cases rx
  cases y with
  | non=>cases ry; exact PySem.EqNone.ne_bool_none (fin_bl I q (by simp))
  | bl j=>cases ry; exact ne_bool (fin_bl I q (congrArg not dec_bl))
  | str j=>obtain ⟨t',rfl⟩:=ry; exact PySem.EqMixed.ne_bool_str (fin_bl I q (by simp))
  | _=>exact absurd (show false=true from hs) xaq
 | int i =>
  obtain ⟨t,rfl⟩:=rx
  cases y with
  | non=>cases ry; exact PySem.EqNone.ne_int_none (fin_bl I q (by simp))
  | int j=>obtain ⟨t',rfl⟩:=ry; exact ne_int (fin_bl I q (congrArg not dec_int))
  | str j=>obtain ⟨t',rfl⟩:=ry; exact PySem.EqMixed.ne_int_str (fin_bl I q (by simp))
  | _=>exact absurd (show false=true from hs) xaq
 | str i =>
  obtain ⟨t,rfl⟩:=rx
  cases y with
  | non=>cases ry; exact PySem.EqNone.ne_str_none (fin_bl I q (by simp))
  | bl j=>cases ry; exact PySem.EqMixed.ne_str_bool (fin_bl I q (by simp))
  | int j=>obtain ⟨t',rfl⟩:=ry; exact PySem.EqMixed.ne_str_int (fin_bl I q (by simp))
  | str j=>obtain ⟨t',rfl⟩:=ry; exact ne_str (fin_bl I q (congrArg not dec_str))
  | _=>exact absurd (show false=true from hs) xaq
 | byt i =>
  obtain ⟨t,rfl⟩:=rx
  cases y with
  | byt j=>obtain ⟨t',rfl⟩:=ry; exact PySem.W.ne_bytes (fin_bl I q (congrArg not dec_byt))
  | _=>exact absurd (show false=true from hs) xaq
 | _=>cases y <;> exact absurd (show false=true from hs) xaq
theorem op_lt:OpR X (compareOp .Lt) (rI0 fun i j=>.bl (decide (i<j))):=opB0 fun _ _ _ _ _ _ _ q=>lt_int q
theorem op_le:OpR X (compareOp .LtE) (rI0 fun i j=>.bl (decide (i<=j))):=opB0 fun _ _ _ _ _ _ _ q=>le_int q
theorem op_gt:OpR X (compareOp .Gt) (rI0 fun i j=>.bl (decide (j<i))):=opB0 fun _ _ _ _ _ _ _ q=>gt_int q
theorem op_lt_str:OpR X (compareOp .Lt) (fun x y H Q=>∃ i j,x=.str i/\y=.str j/\Q (.bl (decide (i.cps.toList<j.cps.toList))) H):=by
 intro pins s σ H x y v u Q I rx ry h
 obtain ⟨i,j,rfl,rfl,q⟩:=h
 obtain ⟨t,rfl⟩:=rx
 obtain ⟨t',rfl⟩:=ry
 exact lt_str (fin_bl I q rfl)
theorem op_in_str:OpR X (compareOp .In) (fun x y H Q=>∃ i j,x=.str i/\y=.str j/\Q (.bl (!(Builtin.Str.occurrences j i 0 j.length 1).isEmpty)) H):=by
 intro pins s σ H x y v u Q I rx ry h
 obtain ⟨i,j,rfl,rfl,q⟩:=h
 obtain ⟨t,rfl⟩:=rx
 obtain ⟨t',rfl⟩:=ry
 exact in_str (fin_bl I q rfl)
theorem op_isN:OpR X (compareOp .Is) (fun x y H Q=>y=.non/\Q (.bl (decide (x=.non))) H):=by
 intro pins s σ H x y v u Q I rx ry h
 obtain ⟨rfl,q⟩:=h
 cases ry
 refine is_none_gen (fin_bl I q ?_)
 cases x <;> first
  | (cases rx; rfl)
  | (obtain ⟨t,rfl⟩:=rx; rfl)
theorem op_notN:OpR X (compareOp .IsNot) (fun x y H Q=>y=.non/\Q (.bl (!decide (x=.non))) H):=by
 intro pins s σ H x y v u Q I rx ry h
 obtain ⟨rfl,q⟩:=h
 cases ry
 refine isnot_none_gen (fin_bl I q ?_)
 cases x <;> first
  | (cases rx; rfl)
  | (obtain ⟨t,rfl⟩:=rx; rfl)
theorem op_notin_str:OpR X (compareOp .NotIn) (fun x y H Q=>∃ i j,x=.str i/\y=.str j/\Q (.bl (!(!(Builtin.Str.occurrences j i 0 j.length 1).isEmpty))) H):=by
 intro pins s σ H x y v u Q I rx ry h
 obtain ⟨i,j,rfl,rfl,q⟩:=h
 obtain ⟨t,rfl⟩:=rx
 obtain ⟨t',rfl⟩:=ry
 exact notIn_str (fin_bl I q rfl)
theorem OpR.or (h:OpR X f r) (h':OpR X f r'):OpR X f (fun x y H Q=>r x y H Q\/r' x y H Q):=by
 intro pins s σ H x y v u Q I rx ry q
 rcases q with q | q
 ·exact h pins s σ H x y v u Q I rx ry q
 ·exact h' pins s σ H x y v u Q I rx ry q
theorem nomark (b:Expr) (h:op≠.In:=by decide) (h2:op≠.NotIn:=by decide):behindInMarks op b=false:=by
 have e1:(op == CmpOp.In)=false:=by cases op <;> first | rfl | exact absurd rfl h
 have e2:(op == CmpOp.NotIn)=false:=by cases op <;> first | rfl | exact absurd rfl h2
 cases b <;> simp [behindInMarks,e1,e2]
theorem pe_cmpR {op:CmpOp} {r:R2} (ho:OpR X (compareOp op) r) (ha:PE X a ta) (hb:PE X b tb) (hm:behindInMarks op b=false):PE X (.Compare a [op] [b] pos) (tOp r ta tb):=by
 intro pins s σ H Q I h
 exact wpAny_Compare1 (binT ha hb I h fun v u s2 x y H2 I2 rx ry q=>ho pins s2 σ H2 x y v u Q I2 rx ry q) hm
def tTest (t:TE):TT:=fun σ H Q=>t σ H fun x H'=>∃ k,x=.bl k/\Q k H'
theorem pt_cmpR (ho:OpR X (compareOp op) r) (ha:PE X a ta) (hb:PE X b tb) (hm:behindInMarks op b=false):PT X (.Compare a [op] [b] pos) (tTest (tOp r ta tb)):=by
 intro pins s σ H Q I h
 refine wpAny_isTrue_Compare1 (thn (ha pins s σ H _ I h) fun v s1 hx5=>L2.ex2 hx5 fun x H1 I1 r1 q1=>thn (hb pins s1 σ H1 _ I1 q1) fun u s2 hx5=>L2.ex2 hx5 fun y H2 I2 r2 q2 =>
  thn (ho pins s2 σ H2 x y v u _ I2 r1 r2 q2) fun c s3 ⟨z,H3,I3,r3,k,e,q3⟩=>?_) hm
 subst e
 cases r3
 exact wpAny_truthy_bool ⟨H3,I3,q3⟩
def tChain (r r':R2) (ta tb tc:TE):TE:=fun σ H Q=>ta σ H fun x H1=>tb σ H1 fun y H2=>r x y H2 fun z H3=>∃ k,z=.bl k /\
 (if k=true then tc σ H3 fun w' H4=>r' y w' H4 Q else Q (.bl false) H3)
theorem pt_chain (ho:OpR X (compareOp op) r) (ho':OpR X (compareOp op') r') (ha:PE X a ta) (hb:PE X b tb) (hc:PE X c tc)
  (hm:lastMarks [op,op'] [b,c]=false:=by with_unfolding_all rfl):PT X (.Compare a [op,op'] [b,c] pos) (tTest (tChain r r' ta tb tc)):=by
 intro pins s σ H Q I h
 refine isTrue_chain (thn (ha pins s σ H _ I h) fun v s1 hx5=>L2.ex2 hx5 fun x H1 I1 r1 q1=>test_link (thn (hb pins s1 σ H1 _ I1 q1) fun u s2 hx5=>L2.ex2 hx5 fun y H2 I2 r2 q2 =>
  thn (ho pins s2 σ H2 x y v u _ I2 r1 r2 q2) fun d s3 ⟨z,H3,I3,r3,k,e,q3⟩=>?_)) hm
 subst e
 cases r3
 refine wpAny_truthy_bool ?_
 cases k with
 | false =>
  obtain ⟨k',e',q'⟩:=q3
  cases e'
  exact ite_ff ⟨H3,I3,q'⟩
 | true =>
  refine ite_tt (test_last (thn (hc pins s3 σ H3 _ I3 q3) fun w' s4 ⟨z',H4,I4,r4,q4⟩=>thn (ho' pins s4 σ H4 y z' u w' _ I4 r2 r4 q4) fun d' s5 hx9=>?_))
  obtain ⟨z2,H5,I5,r5,k2,e2,q5⟩:=hx9
  subst e2
  cases r5
  exact wpAny_truthy_bool ⟨H5,I5,q5⟩
def TruV (K:PySem.W.Frag) (x:V) (H:Hp) (k:Bool):Prop :=
 match x with
 | .non=>k=false
 | .bl b=>k=b
 | .int i=>k=(i != 0)
 | .str y=>y.length<=sizeLine/\k=((y.length:Int) != 0)
 | .byt y=>y.size<=sizeLine/\k=((y.size:Int) != 0)
 | .ref p=>(∃ xs,SqL K H p xs/\k = !xs.isEmpty)\/(∃ xs,SqT K H p xs/\k = !xs.isEmpty)\/∃ kvs,H p=some (.dK kvs)/\k = !kvs.isEmpty
 | _=>False
theorem isEmpty_kv {κ:Type} {kvs:List (κ × V)} {vs:List (κ × Value)} (r:KV kvs vs):(!vs.isEmpty) = !kvs.isEmpty:=by
 cases r <;> rfl
theorem isEmpty_of (r:Vals xs its):(!its.toArray.isEmpty) = !xs.isEmpty:=by
 cases r <;> simp
theorem line63:(sizeLine:Nat)<2 ^ 63:=by rw [sizeLine_eq]; decide
theorem tru_ok:TruR X (fun x H Q=>∃ k,TruV X.K x H k/\Q k H):=by
 intro pins s σ H x v Q I rx h
 obtain ⟨k,e,q⟩:=h
 have hl:=line63
 have hs:sizeLine=16777216:=sizeLine_eq
 cases x with
 | non =>
  cases rx
  have e':k=false:=e
  subst e'
  exact truthy_none ⟨H,I,q⟩
 | bl b =>
  cases rx
  have e':k=b:=e
  subst e'
  exact wpAny_truthy_bool ⟨H,I,q⟩
 | int i =>
  obtain ⟨t,rfl⟩:=rx
  have e':k=(i != 0):=e
  subst e'
  exact PySem.P.truthy_int ⟨H,I,q⟩
 | str y =>
  obtain ⟨t,rfl⟩:=rx
  obtain ⟨hy,e'⟩:y.length<=sizeLine/\k=((y.length:Int) != 0):=e
  subst e'
  exact PySem.P.truthy_str (by lia) ⟨H,I.tok _,q⟩
 | byt y =>
  obtain ⟨t,rfl⟩:=rx
  obtain ⟨hy,e'⟩:y.size<=sizeLine/\k=((y.size:Int) != 0):=e
  subst e'
  exact PySem.W.truthy_bytes (by lia) ⟨H,I.tok _,q⟩
 | ref p =>
  cases rx
  have e':(∃ xs,SqL X.K H p xs/\k = !xs.isEmpty)\/(∃ xs,SqT X.K H p xs/\k = !xs.isEmpty)\/∃ kvs,H p=some (.dK kvs)/\k = !kvs.isEmpty:=e
  rcases e' with ⟨xs,hx,e'⟩ | ⟨xs,hx,e'⟩ | ⟨kvs,hx,e'⟩
  ·subst e'
   obtain ⟨its,r,pl,hz⟩:=I.list hx
   have hlen:=r.length
   exact wpAny_truthy_list pl.isList (by simp only [xal]; lia) ⟨H,I.tok _,by rw [isEmpty_of r]; exact q⟩
  ·subst e'
   obtain ⟨its,r,pl,hz⟩:=I.tuple hx
   have hlen:=r.length
   exact truthy_tuple pl (by simp only [xal]; lia) ⟨H,I.tok _,by rw [isEmpty_of r]; exact q⟩
  ·subst e'
   obtain ⟨hz,hS,vs,r,m⟩:kvs.length<=sizeLine/\(p == sysModules)=false/\∃ vs,KV kvs vs/\s.heap.DictOf (mixKind X.prog X.w) p vs:=I.hok p _ hx
   have hlen:kvs.length=vs.length:=Paired.length r
   exact wpAny_truthy_dict hS m (by lia) ⟨H,I.tok _,by rw [isEmpty_kv r]; exact q⟩
 | _=>exact (show False from e).elim
theorem pt_truth (ha:PE X a ta) (he:∀ whole,isTrue a X.env whole=(do let v <- whole; standAt a.pos; holding [v] (truthy v))) :
  PT X a (fun σ H Q=>ta σ H fun x H'=>∃ k,TruV X.K x H' k/\Q k H'):=by
 intro pins s σ H Q I h
 exact isTrue_plain (thn (ha pins s σ H _ I h) fun v s1 hx5=>L2.ex2 hx5 fun x H1 I1 r1 q1=>tru_ok pins s1 σ H1 x v Q I1 r1 q1) (he _)
theorem op_add_str:OpR X (binaryOp .Add) (fun x y H Q=>∃ i j,x=.str i/\y=.str j/\i.length+j.length<=sizeLine/\Q (.str (i++j)) H):=by
 intro pins s σ H x y v u Q I rx ry h
 obtain ⟨i,j,rfl,rfl,hz,q⟩:=h
 obtain ⟨t,rfl⟩:=rx
 obtain ⟨t',rfl⟩:=ry
 exact add_str (fun t' tk=>⟨.str (i++j),H,I.tok _,⟨_,rfl⟩,q⟩) hz
theorem vals1 (r:Vals [x] us):∃ u,us=[u]/\RelV x u:=by
 cases r with
 | cons r1 r2=>cases r2; exact ⟨_,rfl,r1⟩
theorem vals2 (r:Vals [x,y] us):∃ u w',us=[u,w']/\RelV x u/\RelV y w':=by
 cases r with
 | cons r1 r2 =>
  cases r2 with
  | cons r3 r4=>cases r4; exact ⟨_,_,rfl,r1,r3⟩
theorem call_min2 (hc:X.calm=true):CallR X (.builtin "min") (fun xs H Q=>∃ i j,xs=[.int i,.int j]/\Q (.int (if j<i then j else i)) H):=by
 intro pins s σ H xs us Q I r h
 obtain ⟨i,j,rfl,q⟩:=h
 obtain ⟨u,w',rfl,⟨t,rfl⟩,⟨t',rfl⟩⟩:=vals2 r
 refine min_two_ints (I.ok.hd hc) fun h' tk k=>⟨_,H,I.kept k,?_,q⟩
 by_cases hj:j<i
 ·rw [if_pos hj,if_pos hj]; exact ⟨_,rfl⟩
 ·rw [if_neg hj,if_neg hj]; exact ⟨_,rfl⟩
def LenV (K:PySem.W.Frag) (x:V) (H:Hp) (n:Nat):Prop :=
 match x with
 | .str y=>y.length<=sizeLine/\n=y.length
 | .byt y=>y.size<=sizeLine/\n=y.size
 | .ref p=>(∃ xs,SqL K H p xs/\n=xs.length)\/∃ xs,SqT K H p xs/\n=xs.length
 | _=>False
theorem call_len:CallR X (.builtin "len") (fun xs H Q=>∃ x n,xs=[x]/\LenV X.K x H n/\Q (.int n) H):=by
 intro pins s σ H xs us Q I r h
 obtain ⟨x,n,rfl,e,q⟩:=h
 obtain ⟨u,rfl,rx⟩:=vals1 r
 have hl:=line63
 have hs:sizeLine=16777216:=sizeLine_eq
 cases x with
 | str y =>
  obtain ⟨t,rfl⟩:=rx
  obtain ⟨hy,e'⟩:y.length<=sizeLine/\n=y.length:=e
  subst e'
  exact len_str (by lia) ⟨.int _,H,I.tok _,⟨_,rfl⟩,q⟩
 | byt y =>
  obtain ⟨t,rfl⟩:=rx
  obtain ⟨hy,e'⟩:y.size<=sizeLine/\n=y.size:=e
  subst e'
  exact PySem.W.len_bytes (by walk_at "s4") ⟨.int _,H,I.tok _,⟨_,rfl⟩,q⟩
 | ref p =>
  cases rx
  have e':(∃ xs,SqL X.K H p xs/\n=xs.length)\/∃ xs,SqT X.K H p xs/\n=xs.length:=e
  rcases e' with ⟨xs,hx,e'⟩ | ⟨xs,hx,e'⟩
  ·subst e'
   obtain ⟨its,r',pl,hz⟩:=I.list hx
   have hlen:=r'.length
   exact Calls.call_len_list pl.isList (by simp only [xal]; lia) ⟨.int xs.length,H,I.tok _,⟨_,by simp only [xal]; rw [hlen]⟩,q⟩
  ·subst e'
   obtain ⟨its,r',pl,hz⟩:=I.tuple hx
   have hlen:=r'.length
   exact len_tuple pl (by simp only [xal]; lia) ⟨.int xs.length,H,I.tok _,⟨_,by simp only [xal]; rw [hlen]⟩,q⟩
 | _=>exact (show False from e).elim
end
structure ObjM (h:Heap) (x dx C:Addr) (mA:Str->Option Value):Prop where
 obj:h.get? x=some (PySem.W.instObj C dx)
 ns:h.Ns1 dx mA
 ne:dx≠x
theorem lookIn_ns {h:Heap} {dx:Addr} {mA:Str->Option Value} (n:h.Ns1 dx mA):∃ od,h.get? dx=some od/\∀ name,PySem.W.lookIn name od=some (mA name):=by
 obtain ⟨o,es,ep,ho,hd,hk,_,hm⟩:=n
 refine ⟨o,ho,fun name=>?_⟩
 have e:=hm name
 unfold nsFind findBy at e
 rw [<- Array.find?_toList] at e
 unfold PySem.W.lookIn
 rw [hd]
 dsimp only
 split
 ·rename_i y q
  rw [q] at e
  exact congrArg some e
 ·rename_i q
  rw [q] at e
  have a:es.toList.any (·.refKey)=false:=by
   rw [List.any_eq_false]
   intro y hy
   obtain ⟨z,t,hkey⟩:=hk y (Array.mem_toList_iff.mp hy)
   simp [DictEntry.refKey,hkey]
  have a':¬ es.toList.any (·.refKey)=true:=by rw [a]; exact xaq
  rw [if_neg a']
  exact congrArg some e
theorem ObjM.look (I:ObjM h x dx C mA):∃ od,PySem.W.InstAt h x (PySem.W.instObj C dx) C (some od)/\∀ name,PySem.W.lookIn name od=some (mA name) :=
 let ⟨od,ho,hl⟩:=lookIn_ns I.ns
 ⟨od,⟨I.obj,rfl,rfl,ho⟩,hl⟩
theorem RelO.some_of (r:RelO (some v) o):∃ u,o=some u/\RelV v u:=by
 cases o with
 | none=>exact (show False from r).elim
 | some u=>exact ⟨u,rfl,r⟩
section
variable {P:Program} {w:World} {H:Hp} {h:Heap} {a C dx:Addr} {fs:List (Str × V)}
theorem ins_get (hok:HOk P w H h) (e:H a=some (.ins C dx fs)):∃ mA,ObjM h a dx C mA/\(∀ f,RelO (fs.lookup f) (mA f))/\PySem.Within mA (fs.map (·.1))/\fs.length<=1000/\H dx=some (.own a):=by
 obtain ⟨d,z,ne,ob,mA,n,r,q⟩:=(show ObjOk P w H h a (.ins C dx fs) from hok a _ e)
 exact ⟨mA,⟨ob,n,ne⟩,r,q,z,d⟩
end
structure Cls (K:PySem.W.Frag) (C:Addr):Prop where
 pg:PySem.W.plainGet K C Str.empty=true
 hd:PySem.W.hasDictIn K C=true
 po:PySem.W.plainOver K C=true
 sa:PySem.W.findIn K (.ref C) "__setattr__" = some (some (.builtin "object.__setattr__"))
theorem Cls.get {K:PySem.W.Frag} (c:Cls K C) (f:Str):PySem.W.plainGet K C f=true:=c.pg
section
variable {X:Cx} {pins:List (Addr × Obj)} {σ:St} {H:Hp} {s:Shared} {A:Around} {E:Value->Shared->Prop} {Q:Value->Shared->Prop} {c:Value} {b:Bool}
inductive TyOf (K:PySem.W.Frag) (H:Hp):V->Value->Prop where
 | non:TyOf K H .non (.type "NoneType")
 | bl (x:Bool):TyOf K H (.bl x) (.type "bool")
 | int (i:Int):TyOf K H (.int i) (.type "int")
 | str (x:Str):TyOf K H (.str x) (.type "str")
 | flt (x:UInt64):TyOf K H (.flt x) (.type "float")
 | lst {a:Addr} {xs:List V} (e:H a=some (.lst xs)):TyOf K H (.ref a) (.type "list")
 | frz {a:Addr} {o:Obj} {xs:List V} (e:H a=some (.frz o (.lst xs))):TyOf K H (.ref a) (.type "list")
 | tup {a:Addr} {xs:List V} (e:H a=some (.tup xs)):TyOf K H (.ref a) (.type "tuple")
 | dK {a:Addr} {kvs:List (Key × V)} (e:H a=some (.dK kvs)):TyOf K H (.ref a) (.type "dict")
 | dT {a:Addr} {kvs:List (List Key × V)} (e:H a=some (.dT kvs)):TyOf K H (.ref a) (.type "dict")
 | ins {a C dx:Addr} {fs:List (Str × V)} (e:H a=some (.ins C dx fs)) (cl:Cls K C) (ha:PySem.W.findIn K (.ref C) "__class__" = some (some (.builtin "object.__class__")))
   (hn:PySem.W.specialIn K (.builtin "object.__class__") "__get__" = some (some (.builtin "getset_descriptor.__get__"))) (htk:PySem.W.takesIn K (.builtin "object.__class__")=some true)
   (hm:PySem.W.mroIn K C (.type "object")=some true):TyOf K H (.ref a) (.ref C)
theorem isinst_ok (I:Inv X pins σ H s) (rx:RelV x u) (ty:TyOf X.K H x t) (e:PySem.W.kitOne X.K t c=some b) (h:∀ tk,Q (.bool b) { s with toks:=tk }) :
  wpAny (model X.prog X.w) A (call (.builtin "isinstance") [u,c]) Q E s:=by
 cases ty with
 | non=>cases (show u=Value.none from rx); exact PySem.W.kia_one PySem.W.kitx_none I.kIn True.intro e (fun z=>nomatch z) h
 | bl y=>cases (show u=Value.bool y from rx); exact PySem.W.kia_one PySem.W.kitx_bool I.kIn True.intro e (fun z=>nomatch z) h
 | int i=>obtain ⟨t,q⟩:=(show ∃ t,u=Value.int i t from rx); cases q; exact PySem.W.kia_one PySem.W.kitx_int I.kIn True.intro e (fun z=>nomatch z) h
 | str y=>obtain ⟨t,q⟩:=(show ∃ t,u=Value.str y t from rx); cases q; exact PySem.W.kia_one PySem.W.kitx_str I.kIn True.intro e (fun z=>nomatch z) h
 | flt y=>obtain ⟨t,q⟩:=(show ∃ t,u=Value.float y t from rx); cases q; exact PySem.W.kia_one PySem.W.kitx_float I.kIn True.intro e (fun z=>nomatch z) h
 | @lst a xs ea =>
  cases (show u=Value.ref a from rx)
  obtain ⟨_,_,n,_,h1⟩:=(show ObjOk X.prog X.w H s.heap a (.lst xs) from I.hok a _ ea)
  exact PySem.W.kia_one PySem.W.kitx_list I.kIn ⟨_,h1,rfl⟩ e (fun z=>nomatch z) h
 | @frz a ob xs ea =>
  cases (show u=Value.ref a from rx)
  obtain ⟨_,_,_,n,_,h1⟩:=(show ObjOk X.prog X.w H s.heap a (.frz ob (.lst xs)) from I.hok a _ ea)
  exact PySem.W.kia_one PySem.W.kitx_list I.kIn ⟨_,h1,rfl⟩ e (fun z=>nomatch z) h
 | @tup a xs ea =>
  cases (show u=Value.ref a from rx)
  obtain ⟨_,_,_,p⟩:=(show ObjOk X.prog X.w H s.heap a (.tup xs) from I.hok a _ ea)
  obtain ⟨o,h1,h2,_⟩:=p
  exact PySem.W.kia_one PySem.W.kitx_tuple I.kIn ⟨o,h1,h2⟩ e (fun z=>nomatch z) h
 | @dK a kvs ea =>
  cases (show u=Value.ref a from rx)
  obtain ⟨_,_,vs,_,p⟩:=(show ObjOk X.prog X.w H s.heap a (.dK kvs) from I.hok a _ ea)
  obtain ⟨o,es,ep,h1,h2,_⟩:=p
  exact PySem.W.kia_one PySem.W.kitx_dict I.kIn ⟨o,h1,h2.1⟩ e (fun z=>nomatch z) h
 | @dT a kvs ea =>
  cases (show u=Value.ref a from rx)
  obtain ⟨_,_,xs,_,o,es,ep,h1,h2,_⟩:=(show ObjOk X.prog X.w H s.heap a (.dT kvs) from I.hok a _ ea)
  exact PySem.W.kia_one PySem.W.kitx_dict I.kIn ⟨o,h1,h2.1⟩ e (fun z=>nomatch z) h
 | @ins a C dx fs ea cl ha hn htk hm =>
  cases (show u=Value.ref a from rx)
  obtain ⟨mA,O,_⟩:=ins_get I.hok ea
  obtain ⟨od,J,_⟩:=O.look
  exact PySem.W.kia_one (PySem.W.kitx_own (cl.get _) cl.hd ha hn htk hm) I.kIn J e (fun z=>nomatch z) h
end
structure Room (k:Nat) (A:Around):Prop where
 hd:A.handled=none
 dp:A.depth+3 * k+5<recursionLimit
 un:A.units+16 * k+200<cLine
theorem Room.mono (r:Room k A) (h:j<=k):Room j A:=⟨r.hd,by have:=r.dp; lia,by have:=r.un; lia⟩
theorem Room.deeper (r:Room (k+1) A) (env:Env):Room k (A.deeper env) :=
 ⟨r.hd,by have:=r.dp; show A.depth+1+3 * k+5<_; lia,by have:=r.un; show A.units+3+16 * k+200<_; lia⟩
theorem Room.depth (r:Room k A):A.depth<recursionLimit:=by have:=r.dp; lia
theorem Room.units (r:Room k A):A.units+64<cLine:=by have:=r.un; lia
def tNil:TA:=fun _ H Q=>Q [] H
def tCons (ta:TE) (tr:TA):TA:=fun σ H Q=>ta σ H fun x H1=>tr σ H1 fun xs H2=>Q (x :: xs) H2
section
variable {X:Cx} {e:Expr} {es:List Expr} {te:TE} {t:TA} {pos:Pos}
theorem pa_nil:PA X [] tNil:=fun _ _ _ _ H Q I h=>Calls.spliced_nil ⟨[],H,I,.nil,h⟩
theorem pa_cons (ha:PE X e te) (hr:PA X es t) (hs:starEach (e :: es) X.env=(false,eval e X.env) :: starEach es X.env:=by rfl):PA X (e :: es) (tCons te t):=by
 intro pos pins s σ H Q I h
 rw [hs]
 show wpAny _ _ (spliced ((false,eval e X.env) :: backTo pos (starEach es X.env))) _ _ s
 refine Calls.spliced_cons (thn (ha pins s σ H _ I h) fun u s1 hx5=>L2.ex2 hx5 fun x H1 I1 r1 q1=>?_)
 exact thn (hr pos pins s1 σ H1 _ I1 q1) fun us s2 hx5=>L2.ex2 hx5 fun xs H2 I2 r2 q2=>⟨x :: xs,H2,I2,.cons r1 r2,q2⟩
def tTup (t:TA):TE:=fun σ H Q=>t σ H fun xs H1=>xs.length<=sizeLine/\∀ p,H1 p=none->Q (.ref p) (upd H1 p (.tup xs))
def tLst (t:TA):TE:=fun σ H Q=>t σ H fun xs H1=>xs.length<=sizeLine/\∀ p,H1 p=none->Q (.ref p) (upd H1 p (.lst xs))
theorem pe_tup {x1} (h:PA X es t):PE X (.Tuple es x1 pos) (tTup t):=by
 intro pins s σ H Q I hq
 refine wpAny_Tuple_spliced (thn (h pos pins s σ H _ I hq) fun us s1 ⟨xs,H1,I1,r,z,q⟩=>⟨by rw [<- r.length]; exact z,?_⟩)
 have hf:H1 s1.heap.objs.size=none:=I1.hok.fresh (xae _)
 refine ⟨.ref s1.heap.objs.size,upd H1 s1.heap.objs.size (.tup xs),I1.laid (t':=s1.toks) (fun b u e=>xaj _ e) (xae _) ?_,rfl,q _ hf⟩
 exact ⟨z,us,r,⟨_,xaw _ rfl,rfl,_,rfl⟩⟩
theorem pe_lst (h:PA X es t):PE X (.List es pos) (tLst t):=by
 intro pins s σ H Q I hq
 refine wpAny_List_spliced (thn (h pos pins s σ H _ I hq) fun us s1 ⟨xs,H1,I1,r,z,q⟩=>⟨by rw [<- r.length]; exact z,?_⟩)
 have hf:H1 s1.heap.objs.size=none:=I1.hok.fresh (xae _)
 refine ⟨.ref s1.heap.objs.size,upd H1 s1.heap.objs.size (.lst xs),I1.laid (t':=s1.toks) (fun b u e=>xaj _ e) (xae _) ?_,rfl,q _ hf⟩
 exact ⟨z,us,0,r,xaw _ rfl⟩
end
abbrev Sp:=List V->Hp->VK->XK->Prop
abbrev CXT:=List Env->Hp->Shared->XK->Value->Shared->Prop
structure Env0 (P:Program) (w:World) (K:PySem.W.Frag) (mg:Str->Option Value) (base:Heap) (A:Around) (outer:List Env) (s:Shared) (H:Hp):Prop where
 frames:A.frames=some outer
 mod:Mod K mg base
 bs:∀ b o,base.get? b=some o->s.heap.get? b=some o/\H b=none
 bsz:base.objs.size<=s.heap.objs.size
 funs:s.heap.FunFrames base outer
 frf:∀ b∈frs outer,H b=none
 hok:HOk P w H s.heap
 bare:AllBare s.gens
def CE (outer:List Env) (P:Program) (w:World) (H:Hp) (s:Shared) (Q:VK) (u:Value) (s':Shared):Prop :=
 ∃ v H',s'.os=s.os/\AllBare s'.gens/\Un (frs outer) [] H H' s.heap s'.heap/\HOk P w H' s'.heap/\RelV v u/\Q v H'
def CR (CX:CXT) (outer:List Env) (P:Program) (w:World) (H:Hp) (s:Shared) (Q:VK) (E:XK) (r:Result) (s':Shared):Prop :=
 match r with
 | .ok (.ret u)=>CE outer P w H s Q u s'
 | .ok _=>False
 | .error e=>CX outer H s E e s'
structure FnOk (P:Program) (w:World) (K:PySem.W.Frag) (mg:Str->Option Value) (base:Heap) (CX:CXT) (k:Nat) (f:Addr) (fd:FuncData) (ps:List Str) (sp:Sp):Prop where
 len:∀ vs H Q E,sp vs H Q E->vs.length=ps.length
 run:∀ (A:Around) (outer:List Env) (s:Shared) (H:Hp) (args:Args) (us:List Value) (vs:List V) (Q:VK) (E:XK),Room k A->Env0 P w K mg base A outer s H->BindsTo s fd args (ps.zip us)->Vals vs us->sp vs H Q E ->
  codeAny (model P w) A (.call (.ref f) args) (CR CX outer P w H s Q E) s
theorem FnOk.mono {P:Program} {K:PySem.W.Frag} {ps:List Str} (F:FnOk P w K mg base CX j f fd ps sp) (h:j<=k) :
  FnOk P w K mg base CX k f fd ps sp:=⟨F.len,fun A outer s H args us vs Q E hr=>F.run A outer s H args us vs Q E (hr.mono h)⟩
section
variable {X:Cx} {pins:List (Addr × Obj)} {σ:St} {H:Hp} {s s':Shared}
theorem Inv.env0 (I:Inv X pins σ H s):Env0 X.prog X.w X.K X.mg X.base X.A X.stack s H :=
 ⟨I.ok.frames,I.ok.mod,I.bs,xaA I.ok.bsz I.sz,I.stack,I.stkFree,I.hok,I.bare⟩
theorem Inv.after (I:Inv X pins σ H s) (h:CE X.stack X.prog X.w H s Q u s'):EP X pins σ Q u s':=by
 obtain ⟨v,H',os,bare,un,hok,r,q⟩:=h
 obtain ⟨hh,g,d,t,os'⟩:=s'
 obtain rfl:os'=s.os:=os
 exact ⟨v,H',I.call (h':=hh) (g':=g) (d':=d) (t':=t) (ch:=[]) un hok bare (fun b z=>absurd z (by simp)),r,q⟩
end
def tCall (sp:Sp) (dvs:List V) (E:XK) (t:TA):TE:=fun σ H Q=>t σ H fun vs H1=>sp (vs++dvs) H1 Q E
def Binds (K:PySem.W.Frag) (fd:FuncData) (ps:List Str) (ds:List Value):Prop :=
 ∀ (s:Shared) (us:List Value),K.In s.heap->(us++ds).length=ps.length->BindsTo s fd ⟨us,[]⟩ (ps.zip (us++ds))
theorem Binds.all {K:PySem.W.Frag} {ps:List Str} (h:∀ us:List Value,us.length=ps.length->bindArgs fd ⟨us,[]⟩=pure (ps.zip us)):Binds K fd ps []:=fun s us _ hl=>by
 rw [xaD] at hl ⊢
 exact .of_eq (h us hl)
def Passes (CX:CXT) (X:Cx) (E:XK):Prop:=∀ (pins:List (Addr × Obj)) (σ:St) (H:Hp) (s:Shared) (e:Value) (s':Shared),Inv X pins σ H s->CX X.stack H s E e s'->X.xe e s'
section
variable {X:Cx} {CX:CXT} {k:Nat} {f:Addr} {fd:FuncData} {ps:List Str} {sp:Sp} {dvs:List V} {ds:List Value} {E:XK} {x:Str} {p pos:Pos} {e:Expr} {es:List Expr} {t:TA}
theorem run_fn (F:FnOk X.prog X.w X.K X.mg X.base CX k f fd ps sp) (hr:Room k X.A) (hb:Binds X.K fd ps ds) (hd:Vals dvs ds) (hx:Passes CX X E)
  (I:Inv X pins σ H s) (r:Vals vs us) (h:sp (vs++dvs) H Q E):wpAny (model X.prog X.w) X.A (call (.ref f) us) (EP X pins σ Q) X.xe s:=by
 have r2:Vals (vs++dvs) (us++ds):=r.append hd
 have hl:(us++ds).length=ps.length:=by rw [<- r2.length]; exact F.len _ _ _ _ h
 refine wpAny_call (codeAny_mono (F.run X.A X.stack s H ⟨us,[]⟩ (us++ds) (vs++dvs) Q E hr I.env0 (hb s us I.kIn hl) r2 h) fun r s' hq=>?_)
 cases r with
 | error e=>exact hx pins σ H s e s' I hq
 | ok fl =>
  cases fl with
  | ret u=>exact I.after hq
  | next=>exact False.elim hq
  | brk=>exact False.elim hq
  | cont=>exact False.elim hq
theorem pe_call (F:FnOk X.prog X.w X.K X.mg X.base CX k f fd ps sp) (hr:Room k X.A) (hg:Gl X x) (hm:X.mg x=some (.ref f)) (hk:PySem.W.keepIn X.K (.ref f)=true) (hb:Binds X.K fd ps ds) (hd:Vals dvs ds) (hx:Passes CX X E)
  (ha:PA X (e :: es) t) (hdb:(x == ("__debug__" : Str))=false:=by decide) (he:starEach (e :: es) X.env=(false,eval e X.env) :: starEach es X.env:=by rfl) (hpl:(backTo pos (starEach es X.env)).any (·.1)=false:=by rfl) :
  PE X (.Call (.Name x p) (e :: es) [] pos) (tCall sp dvs E t):=by
 intro pins s σ H Q I h
 refine wpAny_Call_Name_kw (ld_glob I hg hm ?_ hdb)
 refine PySem.W.callWith_K (h₀:=X.base) I.ok.mod.kin hk (thn (ha pos pins s σ H _ I h) fun us s1 hx5=>L2.ex2 hx5 fun vs H1 I1 r q=>⟨I1.kIn,?_⟩) he hpl
 exact run_fn F hr hb hd hx I1 r q
end
structure FnScope (N P:List Str) (sc:Scope):Prop where
 kind:sc.kind=.function
 co:sc.isCoroutine=false
 gen:sc.isGenerator=false
 nd:N.Nodup
 pre:N.take P.length=P
 par:∀ x∈P,sc.names.lookup x=some .local\/sc.names.lookup x=some .cell
 nofree:∀ y∈sc.names,y.2≠.free
theorem bindL_out {kindOf:Str->Option NameKind}:∀ {binds:List (Str × Value)} {m:Str->Option Value},(∀ v,(x,v)∉binds)->bindL kindOf binds m x=m x
 | [],_,_=>rfl
 | (n,v) :: r,m,h=>by
  unfold bindL
  rw [bindL_out fun w hw=>h w (xac _ hw)]
  split
  ·have:x≠n:=by rintro rfl; exact h v xad
   simp [this]
  ·rfl
theorem bindC_out {kindOf:Str->Option NameKind}:∀ {binds:List (Str × Value)} {m:Str->Option Value},(∀ v,(x,v)∉binds)->bindC kindOf binds m x=m x
 | [],_,_=>rfl
 | (n,v) :: r,m,h=>by
  unfold bindC
  rw [bindC_out fun w hw=>h w (xac _ hw)]
  split
  ·rfl
  ·have:x≠n:=by rintro rfl; exact h v xad
   simp [this]
theorem bindL_get {kindOf:Str->Option NameKind}:∀ {P:List Str} {vs:List Value} {i:Nat} {m:Str->Option Value},P.Nodup->P[i]? = some x->vs[i]? = some v->kindOf x=some .local ->
  bindL kindOf (P.zip vs) m x=some v
 | [],_,_,_,_,h,_,_=>by simp at h
 | _ :: _,[],_,_,_,_,h,_=>by simp at h
 | p :: P,w :: vs,0,m,nd,h1,h2,hk=>by
  simp at h1 h2; subst h1; subst h2
  show bindL kindOf ((p,w) :: P.zip vs) m p=_
  unfold bindL
  rw [bindL_out fun v hv=>(xax.mp nd).1 (List.of_mem_zip hv).1,if_pos hk]
  simp
 | p :: P,w :: vs,i+1,m,nd,h1,h2,hk=>by
  show bindL kindOf ((p,w) :: P.zip vs) m x=_
  unfold bindL
  exact bindL_get (i:=i) (xax.mp nd).2 (by simpa using h1) (by simpa using h2) hk
theorem bindC_get {kindOf:Str->Option NameKind}:∀ {P:List Str} {vs:List Value} {i:Nat} {m:Str->Option Value},P.Nodup->P[i]? = some x->vs[i]? = some v->kindOf x≠some .local ->
  bindC kindOf (P.zip vs) m x=some v
 | [],_,_,_,_,h,_,_=>by simp at h
 | _ :: _,[],_,_,_,_,h,_=>by simp at h
 | p :: P,w :: vs,0,m,nd,h1,h2,hk=>by
  simp at h1 h2; subst h1; subst h2
  show bindC kindOf ((p,w) :: P.zip vs) m p=_
  unfold bindC
  rw [bindC_out fun v hv=>(xax.mp nd).1 (List.of_mem_zip hv).1,if_neg hk]
  simp
 | p :: P,w :: vs,i+1,m,nd,h1,h2,hk=>by
  show bindC kindOf ((p,w) :: P.zip vs) m x=_
  unfold bindC
  exact bindC_get (i:=i) (xax.mp nd).2 (by simpa using h1) (by simpa using h2) hk
def start (N:List Str) (vs:List V):St:=vs.map some++List.replicate (N.length - vs.length) none
def cxOf (CX:CXT) (P:Program) (w:World) (K:PySem.W.Frag) (mg:Str->Option Value) (base:Heap) (N:List Str) (qual:Str) (scope:Scope) (f:Addr) (cd:Value) (A:Around) (outer:List Env) (s:Shared) (H:Hp) (E:XK):Cx where
 prog:=P
 w:=w
 K:=K
 mg:=mg
 base:=base
 A:=A.deeper (envOfC qual scope s.heap.objs.size f cd)
 N:=N
 s₀:=s
 H₀:=H
 env:=envOfC qual scope s.heap.objs.size f cd
 outer:=outer
 stack:=envOfC qual scope s.heap.objs.size f cd :: outer
 ex:=[]
 calm:=true
 fn:=fun _=>true
 pn:=[]
 xe:=fun e s'=>wpAny (model P w) (A.deeper (envOfC qual scope s.heap.objs.size f cd)) (leaving (envOfC qual scope s.heap.objs.size f cd) e) (fun _ s''=>CX outer H s E e s'') (fun e' s''=>CX outer H s E e' s'') s'
theorem cell_has {sc:Scope} {n:Nat} {x:Str} (h:sc.names.lookup x=some .cell):∃ c,(cellsFrom n sc.names []).lookup x=some c:=by
 have q:=PySem.W.cellsFrom_some sc.names n [] (.inl h)
 exact xbJ.mp q
theorem inv_start {CX:CXT} {P:Program} {w:World} {K:PySem.W.Frag} {mg:Str->Option Value} {base:Heap} {N ps:List Str} {qual:Str} {scope:Scope} {f:Addr} {cd:Value} {A:Around} {outer:List Env} {s s1:Shared} {H:Hp} {E:XK} {us:List Value} {vs:List V}
  (S:FnScope N ps scope) (hd:A.handled=none) (e0:Env0 P w K mg base A outer s H) (hl:vs.length=ps.length) (r:Vals vs us)
  (x:InCallC s s.heap.objs.size (bindL (envOfC qual scope s.heap.objs.size f cd).kindOf (ps.zip us) fun _=>none) (cellsFrom (s.heap.objs.size+1) scope.names []) (bindC (envOfC qual scope s.heap.objs.size f cd).kindOf (ps.zip us) fun _=>none) s1) :
  Inv (cxOf CX P w K mg base N qual scope f cd A outer s H E) [] (start N vs) H s1:=by
 have hpl:ps.length<=N.length:=by have:=congrArg List.length S.pre; rw [xaG] at this; lia
 obtain ⟨h1,tk,rfl,hk⟩:=x.done
 have noA:∀ b:Addr,b∉(cxOf CX P w K mg base N qual scope f cd A outer s H E).ex:=fun b z=>absurd (show b∈([]:List Addr) from z) (by simp)
 refine ⟨⟨e0.mod,S.kind,rfl,rfl,xae _,fun y z c h1 h2=>?_,fun y hy=>?_,fun y c _ h=>?_,fun _=>hd,Around.frames_deeper e0.frames,.inr ⟨rfl,rfl⟩,fun b z=>absurd z (noA b),e0.bs,e0.bsz,fun b _ _=>noA b,fun b z=>absurd z (noA b),e0.funs,e0.frf⟩,
  rfl,e0.bare,Un.kept hk,⟨_,x.toInCall.ns,fun i y v h1 h2 h3=>?_⟩,fun y c h=>⟨_,x.cell y c h⟩,e0.hok.fresh (xae _),fun y c h=>?_,fun p hp=>absurd (show p∈([]:List (Addr × Obj)) from hp) (by simp),e0.hok.kept hk,?_⟩
 ·exact name_of_addr x.apart (PySem.mem_of_lookup h1) (PySem.mem_of_lookup h2)
 ·have hy:scope.names.lookup y=some .cell\/scope.names.lookup y=some .free:=hy
  rcases hy with hy | hy
  ·exact cell_has hy
  ·exact absurd rfl (S.nofree _ (PySem.mem_of_lookup hy))
 ·exact xaP (x.above y c (PySem.mem_of_lookup h))
 ·have hi:i<vs.length:=by
   unfold start at h2
   by_cases hi:i<vs.length
   ·exact hi
   ·rw [xaR (by simpa using hi)] at h2
    rw [xbK] at h2
    split at h2 <;> cases h2
  have ha:vs[i]? = some v:=by
   unfold start at h2
   rw [xbk (by simpa using hi),xaK] at h2
   cases e:vs[i]? with
   | none=>rw [e] at h2; cases h2
   | some a=>rw [e] at h2; cases h2; rfl
  obtain ⟨u,hu,rv⟩:=r.get ha
  have hp:ps[i]? = some y:=by
   rw [<- S.pre,List.getElem?_take_of_lt (by lia)]; exact h1
  have ndP:ps.Nodup:=by rw [<- S.pre]; exact S.nd.sublist (List.take_sublist _ _)
  refine ⟨u,rv,?_⟩
  rcases S.par y (xa6 hp) with k | k
  ·exact .inl ⟨k,bindL_get ndP hp hu k⟩
  ·obtain ⟨c,e⟩:=cell_has (n:=s.heap.objs.size+1) k
   refine .inr ⟨.inl k,c,e,?_⟩
   have q:=x.cell y c e
   rw [bindC_get ndP hp hu (by show scope.names.lookup y≠_; rw [k]; decide)] at q
   exact q
 ·exact e0.hok.fresh (xaP (x.above y c (PySem.mem_of_lookup h)))
 ·unfold start
  show _=N.length
  rw [xaB,xab,xbS]
  lia
theorem fn_of {P:Program} {K:PySem.W.Frag} {dV kV doc pm cdv ct oc:Value}
  {N ps:List Str} (lk:K.lookup f=some ⟨oc,od,.func (PySem.W.fnOf name qual params body scope dV kV doc pm an cdv ct),osl⟩) (hcd:PySem.W.codeIn K cdv qual=true) (S:FnScope N ps scope)
  (len:∀ vs H Q E,sp vs H Q E->vs.length=ps.length)
  (hbody:∀ (A:Around) (outer:List Env) (s:Shared) (H:Hp) (vs:List V) (Q:VK) (E:XK),Room k (A.deeper (envOfC qual scope s.heap.objs.size f cdv))->sp vs H Q E ->
   ∃ t,PSs (cxOf CX P w K mg base N qual scope f cdv A outer s H E) body t/\t { nx:=fun _ H'=>Q .non H',rt:=Q } (start N vs) H) :
  FnOk P w K mg base CX (k+1) f (PySem.W.fnOf name qual params body scope dV kV doc pm an cdv ct) ps sp:=by
 refine ⟨len,fun A outer s H args us vs Q E hr e0 hb r hsp=>?_⟩
 have hl:=len _ _ _ _ hsp
 have KX:K.In s.heap:=e0.mod.kin.keeps fun b o e=>(e0.bs b o e).1
 have lim:s.heap.NoLimit:=e0.mod.nolimit.keeps fun b o e=>(e0.bs b o e).1
 have hkind:∀ y∈ps.zip us,scope.names.lookup y.1=some .local\/(scope.names.lookup y.1=some .cell/\((cellsFrom (s.heap.objs.size+1) scope.names []).lookup y.1).isSome=true):=fun ⟨n,v⟩ hy=>by
  rcases S.par n (List.of_mem_zip hy).1 with q | q
  ·exact .inl q
  ·exact .inr ⟨q,PySem.W.cellsFrom_some _ _ _ (.inl q)⟩
 refine codeAny_call_function hr.depth (KX _ _ lk) rfl S.co S.gen rfl (PySem.W.codeRec_of KX hcd) (hb _ _ _ _ ?_)
 refine wpAny_newFunctionEnv_cells S.kind hkind fun env he s1 x=>?_
 subst he
 refine ⟨lim.keeps x.toInCall.keep,codeAny_func ?_⟩
 obtain ⟨t,ht,hq⟩:=hbody A outer s H vs Q E (hr.deeper _) hsp
 have I:Inv (cxOf CX P w K mg base N qual scope f cdv A outer s H E) [] (start N vs) H s1:=inv_start S hr.hd e0 hl r x
 refine xaZ (ht [] s1 (start N vs) H _ I hq) (fun fl s' hs=>?_) fun e s' hs=>hs
 have fin:∀ {σ':St} {H':Hp} {v:V} {u:Value},Inv (cxOf CX P w K mg base N qual scope f cdv A outer s H E) [] σ' H' s'->RelV v u->Q v H'->CE outer P w H s Q u s' :=
  fun {σ' H' v u} J rv q=>⟨v,H',J.os,J.bare,J.base,J.hok,rv,q⟩
 cases fl with
 | ret u =>
  obtain ⟨v,σ',H',J,rv,q⟩:=hs
  exact fin J rv q
 | next =>
  obtain ⟨σ',H',J,q⟩:=hs
  exact fin (v:=V.non) (u:=Value.none) J rfl q
 | brk =>
  obtain ⟨_,_,_,q⟩:=hs
  exact False.elim q
 | cont =>
  obtain ⟨_,_,_,q⟩:=hs
  exact False.elim q
section
variable {X:Cx} {x:Str} {p pos:Pos} {e:Expr} {es:List Expr} {t:TA} {id T:String} {r:List V->Hp->VK->Prop}
def tCB (r:List V->Hp->VK->Prop) (t:TA):TE:=fun σ H Q=>t σ H fun vs H1=>r vs H1 Q
theorem pe_callB (hc:CallR X (.builtin id) r) (hg:Gl X x) (hm:X.mg x=none) (hv:bootBuiltins x=some (.builtin id)) (ha:PA X (e :: es) t) (hn:x ≠ "__name__" := by decide) (hdb:(x == ("__debug__" : Str))=false:=by decide)
  (he:starEach (e :: es) X.env=(false,eval e X.env) :: starEach es X.env:=by rfl) (hpl:(backTo pos (starEach es X.env)).any (·.1)=false:=by rfl):PE X (.Call (.Name x p) (e :: es) [] pos) (tCB r t):=by
 intro pins s σ H Q I h
 refine wpAny_Call_Name_kw (ld_blt I hg hm hv ?_ hn hdb)
 exact PyProof.Rows.callWith_builtin1 (thn (ha pos pins s σ H _ I h) fun us s1 hx5=>L2.ex2 hx5 fun vs H1 I1 r1 q1=>hc pins s1 σ H1 vs us Q I1 r1 q1) he hpl
theorem pe_callTy (hc:CallR X (.type T) r) (hg:Gl X x) (hm:X.mg x=none) (hv:bootBuiltins x=some (.type T)) (ha:PA X (e :: es) t) (hn:x ≠ "__name__" := by decide) (hdb:(x == ("__debug__" : Str))=false:=by decide)
  (he:starEach (e :: es) X.env=(false,eval e X.env) :: starEach es X.env:=by rfl) (hpl:(backTo pos (starEach es X.env)).any (·.1)=false:=by rfl):PE X (.Call (.Name x p) (e :: es) [] pos) (tCB r t):=by
 intro pins s σ H Q I h
 refine wpAny_Call_Name_kw (ld_blt I hg hm hv ?_ hn hdb)
 exact PyProof.Rows.callWith_type1 (thn (ha pos pins s σ H _ I h) fun us s1 hx5=>L2.ex2 hx5 fun vs H1 I1 r1 q1=>hc pins s1 σ H1 vs us Q I1 r1 q1) he hpl
end
end L2
namespace HT
open PySem PyProof.Rows
section
open PySem.SeqAt
open PySem.AutoSeq1 (wpAny_loadPart')
open PySem.MeetsSeq PySem.MeetsSeq2 PySem.MeetsSeq3
end
section
variable {prog:Program} {w:World} {A:Around} {E:Value->Shared->Prop} {s:Shared}
theorem cat_tup (ht:IsTup s.heap t vs.toArray) (hb:IsTup s.heap b ws.toArray) (hv:vs≠[])
  (h1:ws=[]->Q (.ref t) s) (h2:ws≠[]->Q (.ref s.heap.objs.size) { s with heap:=s.heap.push { cls:=.type "tuple",data:=.seq (vs++ws).toArray } })
  (hsz:vs.length+ws.length<=sizeLine):wpAny (model prog w) A (binaryOp .Add (.ref t) (.ref b)) Q E s:=by
 obtain ⟨⟨cls,dd,data,sl⟩,ho,hc,n,hd⟩:=id ht
 obtain ⟨⟨cls2,dd2,data2,sl2⟩,ho2,hc2,n2,hd2⟩:=id hb
 simp only at hc hd hc2 hd2
 subst hc hd hc2 hd2
 have e:vs.toArray++ws.toArray=(vs++ws).toArray:=by simp
 by_cases hw:ws=[]
 ·exact concat_meets ⟨_,ho,rfl⟩ ⟨_,ho2,rfl⟩ noFill_tuple_add seq_tuple_add PySem.F.slot_tuple_add PySem.F.entry_tuple_add (PySem.F.args_tuple_add_2 _ _)
   (tuple_addW1 t b vs.toArray ws.toArray n n2 dd dd2 sl sl2 (by simpa using hv) (by simp [hw])) ⟨ho,ho2,h1 hw⟩
 ·refine concat_meets ⟨_,ho,rfl⟩ ⟨_,ho2,rfl⟩ noFill_tuple_add seq_tuple_add PySem.F.slot_tuple_add PySem.F.entry_tuple_add (PySem.F.args_tuple_add_2 _ _)
   (tuple_addW2 t b vs.toArray ws.toArray n n2 dd dd2 sl sl2 (by simpa using hv) (by simpa using hw) (by rw [xal,xal]; exact hsz)) ⟨ho,ho2,?_⟩
  rw [e]
  exact h2 hw
def sIx (n d:Nat):Option Int->Nat
 | none=>d
 | some v=>if v<0 then (v+(n:Int)).toNat else min v.toNat n
theorem sIx_le (n d:Nat) (hd:d<=n) (o:Option Int):sIx n d o<=n:=by
 cases o with
 | none=>exact hd
 | some v =>
  show (if v<0 then (v+(n:Int)).toNat else min v.toNat n)<=n
  by_cases hv:v<0
  ·rw [if_pos hv]; lia
  ·rw [if_neg hv]; exact Nat.min_le_right _ _
theorem clip_eq (v:Int) (n d:Nat):(if v<0 then max (v+(n:Int)) 0 else min v (n:Int))=((sIx n d (some v):Nat):Int):=by
 show (if v<0 then max (v+(n:Int)) 0 else min v (n:Int))=(((if v<0 then (v+(n:Int)).toNat else min v.toNat n):Nat):Int)
 by_cases hv:v<0
 ·simp only [if_pos hv]; lia
 ·simp only [if_neg hv]; lia
theorem adjust_gen (lo hi:Option Int) (n:Nat):Builtin.Slice.sliceAdjust lo hi 1 (n:Int)=(((sIx n 0 lo:Nat):Int),((sIx n n hi:Nat):Int)):=by
 have h1:¬ ((1:Int)<0):=by decide
 unfold Builtin.Slice.sliceAdjust
 simp only [h1,if_false]
 refine Prod.ext ?_ ?_
 ·cases lo with
  | none=>rfl
  | some v=>exact clip_eq v n 0
 ·cases hi with
  | none=>rfl
  | some v=>exact clip_eq v n n
theorem places_gen (i j:Nat):Builtin.Slice.slicePlaces (i:Int) (j:Int) 1=j - i:=by
 unfold Builtin.Slice.slicePlaces
 have h1:(1:Int)>0:=by exact xa1 _
 simp only [h1,if_true,Int.ediv_one]
 split <;> lia
theorem slicePart_ (p:IsPart v o) (h:Q o s):wpAny (model prog w) A (Builtin.Slice.slicePartIndex v) Q E s:=by
 cases p with
 | none=>exact slicePart_none h
 | int i t=>exact slicePart_int h
theorem sliceApplied_gen {sl:Addr} {vl vu:Value} {lo hi:Option Int} {n:Nat} {Q:Int × Int × Nat->Shared->Prop} (hs:s.heap.IsSliceOf sl vl vu .none) (pl:IsPart vl lo) (pu:IsPart vu hi)
  (h:Q (((sIx n 0 lo:Nat):Int),1,sIx n n hi - sIx n 0 lo) s):wpAny (model prog w) A (Builtin.Slice.sliceApplied (.ref sl) (pure (n:Int))) Q E s:=by
 obtain ⟨os,hos,hcs,hds⟩:=id hs
 unfold Builtin.Slice.sliceApplied Builtin.Slice.sliceFields
 refine xaa (xaa (wpAny_field hos hds (x:=vl) rfl (xaa (wpAny_field hos hds (x:=vu) rfl (xaa (wpAny_field hos hds (x:=.none) rfl (xah ?_)))))))
 refine xaa (slicePart_none ?_)
 show wpAny _ _ (if ((1:Int) == 0)=true then _ else _) _ _ s
 rw [if_neg (by decide)]
 refine xaa (slicePart_ pl (xaa (slicePart_ pu (xaa (xah ?_)))))
 show wpAny _ _ (match Builtin.Slice.sliceAdjust lo hi 1 (n:Int) with | (lo,hi)=>pure (lo,(1:Int),Builtin.Slice.slicePlaces lo hi 1)) _ _ s
 rw [adjust_gen lo hi n]
 show wpAny _ _ (pure (((sIx n 0 lo:Nat):Int),(1:Int),Builtin.Slice.slicePlaces ((sIx n 0 lo:Nat):Int) ((sIx n n hi:Nat):Int) 1)) _ _ s
 rw [places_gen]
 exact xah h
theorem pick_gen (xs:Array Value) (i k:Nat):((List.range k).filterMap fun (m:Nat)=>xs[((i:Int)+(m:Int) * 1).toNat]?).toArray=((xs.toList.drop i).take k).toArray:=by
 have e:(fun (m:Nat)=>xs[((i:Int)+(m:Int) * 1).toNat]?)=fun m=>xs[i+m]? := by
  funext m
  have:((i:Int)+(m:Int) * 1).toNat=i+m:=by exact (xbE ..).symm
  rw [this]
 rw [e]
 have:=pick_run xs i k
 rw [List.filterMap_map] at this
 have e2:((fun x=>xs[x]?) ∘ fun x=>i+x)=fun m=>xs[i+m]? := rfl
 rw [e2] at this
 rw [this]
theorem getItem_tuple_cut {lo hi:Option Int} (ht:IsTup s.heap t items) (hs:s.heap.IsSliceOf sl vl vu .none) (pl:IsPart vl lo) (pu:IsPart vu hi)
  (hw:¬ (sIx items.size 0 lo=0/\sIx items.size items.size hi=items.size))
  (h:Q (.ref s.heap.objs.size) { s with heap:=s.heap.push { cls:=.type "tuple",data:=.seq ((items.toList.drop (sIx items.size 0 lo)).take (sIx items.size items.size hi - sIx items.size 0 lo)).toArray } })
  (hsz:items.size<=sizeLine):wpAny (model prog w) A (getItem (.ref t) (.ref sl)) Q E s:=by
 have htake:sizeOk (.seq ((items.toList.drop (sIx items.size 0 lo)).take (sIx items.size items.size hi - sIx items.size 0 lo)).toArray):=by
  show ((items.toList.drop (sIx items.size 0 lo)).take (sIx items.size items.size hi - sIx items.size 0 lo)).toArray.size<=sizeLine
  rw [xal,xaG,xbc,xaI]
  lia
 have hj:sIx items.size items.size hi<=items.size:=sIx_le _ _ (xae _) hi
 obtain ⟨os,hos,hcs,hds⟩:=id hs
 have hTs:s.TypeIs (.ref sl) "slice" := ⟨os,hos,hcs⟩
 unfold getItem
 try with_reducible refine wpAny_holding ?_
 first | refine xaa (xah ?_) | skip
 refine xaa (wpAny_sequenceKey ht.typeIs (by decide) ?_)
 refine xaa (wpAny_callSpecial?_slot (name:=Str.ofString "__getitem__") ht.typeIs PyProof.Rows.slot_tuple_getitem
  (wpAny_call_entry PyProof.Rows.slot_tuple_getitem ht.typeIs entry_tuple_getitem ?_ (args_tuple_getitem _ _)))
 show wpAny _ _ (Builtin.Tuple.tupleItemsOf (.ref t) >>= _) _ _ s
 refine xaa (tupleItemsOf_ ht ?_)
 refine xaa (wpAny_typeOf hTs ?_)
 rw [if_pos (by decide)]
 refine xaa (sliceApplied_gen hs pl pu ?_)
 have hno:¬ ((((sIx items.size 0 lo:Nat):Int) == 0 && (1:Int) == 1 && (sIx items.size items.size hi - sIx items.size 0 lo) == items.size)=true):=by
  intro q
  rw [xaz,xaz] at q
  have q1:((sIx items.size 0 lo:Nat):Int)=0:=eq_of_beq q.1.1
  have q2:sIx items.size items.size hi - sIx items.size 0 lo=items.size:=eq_of_beq q.2
  exact hw ⟨by lia,by lia⟩
 show wpAny _ _ (if (((sIx items.size 0 lo:Nat):Int) == 0 && (1:Int) == 1 && (sIx items.size items.size hi - sIx items.size 0 lo) == items.size)=true then _ else _) _ _ s
 rw [if_neg hno,pick_gen]
 first
  | exact xaa (m:=Builtin.Tuple.tupleExact _) (wpAny_newObj_type (xah ⟨_,rfl,xah h⟩) htake)
  | exact xaa (m:=Builtin.Tuple.tupleExact _) (wpAny_newObj_type (xaa (xah (xah ⟨_,rfl,xah h⟩))) htake)
  | exact xaa (xaa (m:=Builtin.Tuple.tupleExact _) (wpAny_newObj_type (xah (xah ⟨_,rfl,xah h⟩)) htake))
  | exact xaa (xaa (m:=Builtin.Tuple.tupleExact _) (wpAny_newObj_type (xah ⟨_,rfl,xah h⟩) htake))
end
end HT
namespace L2
open PySem PySem.Spec PyProof.Rows
abbrev TO:=St->Hp->(Option Int->Hp->Prop)->Prop
def PO (X:Cx) (e:Option Expr) (t:TO):Prop :=
 ∀ (pins:List (Addr × Obj)) (s:Shared) (σ:St) (H:Hp) (Q:Option Int->Hp->Prop),Inv X pins σ H s->t σ H Q ->
  wpAny (model X.prog X.w) X.A (evalPart e X.env) (fun u s'=>∃ o H',Inv X pins σ H' s'/\IsPart u o/\Q o H') X.xe s
def tNoPart:TO:=fun _ H Q=>Q none H
def tPart (t:TE):TO:=fun σ H Q=>t σ H fun x H1=>∃ i,x=.int i/\Q (some i) H1
section
variable {X:Cx} {e:Expr} {te:TE} {lo hi:Option Expr} {tl th:TO} {pos p2:Pos}
theorem po_none:PO X none tNoPart:=by
 intro pins s σ H Q I h
 rw [evalPart_none]
 exact xah ⟨none,H,I,.none,h⟩
theorem po_some (h:PE X e te):PO X (some e) (tPart te):=by
 intro pins s σ H Q I hw
 rw [evalPart_some]
 refine thn (h pins s σ H _ I hw) fun u s1 hx5=>L2.ex2 hx5 fun x H1 I1 r1 q1=>?_
 obtain ⟨i,rfl,q⟩:=q1
 obtain ⟨t,rfl⟩:=r1
 exact ⟨some i,H1,I1,.int i t,q⟩
def SlR (X:Cx) (r:V->Option Int->Option Int->Hp->VK->Prop):Prop :=
 ∀ (pins:List (Addr × Obj)) (s:Shared) (σ:St) (H:Hp) (x:V) (v vl vu:Value) (lo hi:Option Int) (sl:Addr) (Q:VK),Inv X pins σ H s->RelV x v->s.heap.IsSliceOf sl vl vu .none->IsPart vl lo->IsPart vu hi->r x lo hi H Q ->
  ∃ T id,typeLookup (.type T) "__getitem__" = pure (some (.builtin id))/\s.TypeIs v T/\wpAny (model X.prog X.w) X.A (getItem v (.ref sl)) (EP X pins σ Q) X.xe s
def tSl (r:V->Option Int->Option Int->Hp->VK->Prop) (te:TE) (tl th:TO):TE:=fun σ H Q=>te σ H fun x H1=>tl σ H1 fun l H2=>th σ H2 fun u H3=>r x l u H3 Q
theorem pe_slice (hr:SlR X r) (he:PE X e te) (hl:PO X lo tl) (hu:PO X hi th):PE X (.Subscript e (.Slice lo hi none p2) pos) (tSl r te tl th):=by
 intro pins s σ H Q I h
 refine Subscript_ (thn (he pins s σ H _ I h) fun v s1 hx5=>L2.ex2 hx5 fun x H1 I1 r1 q1=>?_)
 refine wpAny_Slice (thn (hl pins s1 σ H1 _ I1 q1) fun vl s2 hx5=>L2.ex2 hx5 fun l H2 I2 pl q2=>thn (hu pins s2 σ H2 _ I2 q2) fun vu s3 hx5=>L2.ex2 hx5 fun u H3 I3 pu q3=>?_)
 rw [evalPart_none]
 refine xah ?_
 have I4:Inv X pins σ H3 { s3 with heap:=s3.heap.push { cls:=.type "slice",data:=.fields #[vl,vu,.none] } }:=I3.kept (t':=s3.toks) fun b ob q=>xaj _ q
 obtain ⟨T,id,hT,ht,hg⟩:=hr pins { s3 with heap:=s3.heap.push { cls:=.type "slice",data:=.fields #[vl,vu,.none] } } σ H3 x v vl vu l u s3.heap.objs.size Q I4 r1 (Heap.IsSliceOf.new ..) pl pu q3
 show wpAny (model X.prog X.w) X.A (subscriptTail e (.Slice lo hi none p2) v (.ref s3.heap.objs.size)) (EP X pins σ Q) X.xe { s3 with heap:=s3.heap.push { cls:=.type "slice",data:=.fields #[vl,vu,.none] } }
 exact tail_any (ops:=[.ref s3.heap.objs.size,v]) ht hT hg (by with_unfolding_all rfl)
def cutV (xs:List V) (lo hi:Option Int):List V:=(xs.drop (HT.sIx xs.length 0 lo)).take (HT.sIx xs.length xs.length hi - HT.sIx xs.length 0 lo)
theorem cutV_length (xs:List V) (lo hi:Option Int):(cutV xs lo hi).length<=xs.length:=by
 unfold cutV
 rw [xaG,xbc]
 lia
def rSlT (K:PySem.W.Frag):V->Option Int->Option Int->Hp->VK->Prop:=fun x lo hi H Q=>∃ a xs,x=.ref a/\SqT K H a xs /\
 ¬ (HT.sIx xs.length 0 lo=0/\HT.sIx xs.length xs.length hi=xs.length)/\∀ p,H p=none->Q (.ref p) (upd H p (.tup (cutV xs lo hi)))
theorem sl_tup:SlR X (rSlT X.K):=by
 intro pins s σ H x v vl vu lo hi sl Q I rx hs pl pu h
 obtain ⟨a,xs,rfl,hx,hw,q⟩:=h
 cases rx
 obtain ⟨its,r,ht,hz⟩:=I.tuple hx
 have hlen:its.toArray.size=xs.length:=by rw [xal]; exact r.length.symm
 refine ⟨"tuple",_,PyProof.Rows.slot_tuple_getitem.lookup,ht.typeIs,?_⟩
 refine HT.getItem_tuple_cut ht hs pl pu (by rw [hlen]; exact hw) ?_ (by rw [hlen]; exact hz)
 rw [hlen]
 refine ⟨.ref s.heap.objs.size,_,I.laid (t':=s.toks) (o:=.tup (cutV xs lo hi)) (fun b ob q=>xaj _ q) (xae _) ?_,rfl,q _ (I.hok.fresh (xae _))⟩
 exact ⟨xaA (cutV_length xs lo hi) hz,_,(r.drop (HT.sIx xs.length 0 lo)).take (HT.sIx xs.length xs.length hi - HT.sIx xs.length 0 lo),IsTup.new _ _⟩
def rCatT (K:PySem.W.Frag):R2:=fun x y H Q=>∃ a b xs ys,x=.ref a/\y=.ref b/\SqT K H a xs/\SqT K H b ys/\xs≠[]/\xs.length+ys.length<=sizeLine /\
 (ys=[]->Q (.ref a) H)/\(ys≠[]->∀ p,H p=none->Q (.ref p) (upd H p (.tup (xs++ys))))
theorem Vals.nil_iff (r:Vals xs us):us=[]↔xs=[]:=by
 cases r with
 | nil=>simp
 | cons _ _=>simp
theorem op_catT:OpR X (binaryOp .Add) (rCatT X.K):=by
 intro pins s σ H x y v u Q I rx ry h
 obtain ⟨a,b,xs,ys,rfl,rfl,ha,hb,hx,hz,q1,q2⟩:=h
 cases rx
 cases ry
 obtain ⟨its,r1,p1,_⟩:=I.tuple ha
 obtain ⟨its2,r2,p2,_⟩:=I.tuple hb
 refine HT.cat_tup p1 p2 (fun z=>hx (r1.nil_iff.mp z)) (fun z=>⟨.ref a,H,I,rfl,q1 (r2.nil_iff.mp z)⟩) (fun z=>?_) (by rw [<- r1.length,<- r2.length]; exact hz)
 refine ⟨.ref s.heap.objs.size,_,I.laid (t':=s.toks) (o:=.tup (xs++ys)) (fun b ob q=>xaj _ q) (xae _) ?_,rfl,q2 (fun w=>z (r2.nil_iff.mpr w)) _ (I.hok.fresh (xae _))⟩
 exact ⟨by rw [xaB]; exact hz,_,r1.append r2,IsTup.new _ _⟩
end
def ixN (n:Nat) (i:Int):Option Nat:=if 0<=i then (if i<n then some i.toNat else none) else if -(n:Int)<=i then some (i+n).toNat else none
def atI {α:Type} (xs:List α) (i:Int):Option α:=(ixN xs.length i).bind fun j=>xs[j]?
theorem ixN_seq (h:ixN n i=some j):seqIndex? i n=some j/\j<n/\-(n:Int)<=i/\i<n:=by
 unfold ixN at h
 by_cases h0:0<=i
 ·rw [if_pos h0] at h
  by_cases h1:i<n
  ·rw [if_pos h1] at h
   have e:i.toNat=j:=Option.some.inj h
   exact ⟨by rw [seqIndex_of h0 h1,e],by lia,by lia,h1⟩
  ·rw [if_neg h1] at h; cases h
 ·rw [if_neg h0] at h
  by_cases h1:-(n:Int)<=i
  ·rw [if_pos h1] at h
   have e:(i+n).toNat=j:=Option.some.inj h
   exact ⟨by rw [seqIndex_neg (by lia) h1,e],by lia,h1,by lia⟩
  ·rw [if_neg h1] at h; cases h
theorem atI_get {α:Type} {xs:List α} {i:Int} {v:α} (h:atI xs i=some v):∃ j,seqIndex? i xs.length=some j/\xs[j]? = some v/\j<xs.length/\-(xs.length:Int)<=i/\i<xs.length:=by
 unfold atI at h
 cases e:ixN xs.length i with
 | none=>rw [e] at h; cases h
 | some j =>
  rw [e] at h
  obtain ⟨h1,h2,h3,h4⟩:=ixN_seq e
  exact ⟨j,h1,h,h2,h3,h4⟩
theorem atI_nat {α:Type} {xs:List α} {j:Nat} {v:α} (h:xs[j]? = some v):atI xs (j:Int)=some v:=by
 have hj:j<xs.length:=(xas.mp h).1
 have e:ixN xs.length (j:Int)=some j:=by
  unfold ixN
  rw [if_pos (by walk_at "s1"),if_pos (by lia)]; simp
 unfold atI; rw [e]; exact h
def PlainIx (b:Expr):Prop:=∀ o i,subscripted b false o i=operate [o,i] (getItem o i)
def IxR (X:Cx) (r:R2):Prop :=
 ∀ (value slice:Expr) (pins:List (Addr × Obj)) (s:Shared) (σ:St) (H:Hp) (x y:V) (v u:Value) (Q:VK),Inv X pins σ H s->RelV x v->RelV y u->r x y H Q ->
  subscripted slice false v u=operate [v,u] (getItem v u)->wpAny (model X.prog X.w) X.A (subscriptTail value slice v u) (EP X pins σ Q) X.xe s
def MtR (X:Cx) (id:String) (r:V->List V->Hp->VK->Prop):Prop :=
 ∀ (pins:List (Addr × Obj)) (s:Shared) (σ:St) (H:Hp) (x:V) (xs:List V) (v:Value) (us:List Value) (Q:VK),Inv X pins σ H s->RelV x v->Vals xs us->r x xs H Q ->
  wpAny (model X.prog X.w) X.A (call (.builtin id) (v :: us)) (EP X pins σ Q) X.xe s
section
variable {X:Cx} {a b:Expr} {ta tb:TE} {pos:Pos}
theorem IxR.or (h:IxR X r) (h':IxR X r'):IxR X (fun x y H Q=>r x y H Q\/r' x y H Q):=by
 intro value slice pins s σ H x y v u Q I rx ry q hs
 rcases q with q | q
 ·exact h value slice pins s σ H x y v u Q I rx ry q hs
 ·exact h' value slice pins s σ H x y v u Q I rx ry q hs
theorem pe_ix {r:R2} (hr:IxR X r) (ha:PE X a ta) (hb:PE X b tb) (hs:PlainIx b):PE X (.Subscript a b pos) (tOp r ta tb):=by
 intro pins s σ H Q I h
 exact Subscript_ (binT ha hb I h fun v u s2 x y H2 I2 rx ry q=>hr a b pins s2 σ H2 x y v u Q I2 rx ry q (hs _ _))
def rIxL (K:PySem.W.Frag):R2:=fun x y H Q=>∃ p xs i v,x=.ref p/\y=.int i/\SqL K H p xs/\atI xs i=some v/\Q v H
def rIxT (K:PySem.W.Frag):R2:=fun x y H Q=>∃ p xs i v,x=.ref p/\y=.int i/\SqT K H p xs/\atI xs i=some v/\Q v H
def rIxS:R2:=fun x y H Q=>∃ z i c,x=.str z/\y=.int i/\z.length<=sizeLine/\atI z.cps.toList i=some c/\Q (.str ⟨#[c]⟩) H
theorem ix_list:IxR X (rIxL X.K):=by
 intro value slice pins s σ H x y v u Q I rx ry h hs
 obtain ⟨p,xs,i,z,rfl,rfl,hq,he,q⟩:=h
 cases rx
 obtain ⟨t,rfl⟩:=ry
 obtain ⟨its,r,pl,hz⟩:=I.list hq
 obtain ⟨j,h1,h2,h3,h4,h5⟩:=atI_get he
 obtain ⟨w,ew,rw'⟩:=r.get h2
 have hl:=r.length
 have hn:=line63
 have fin:EP X pins σ Q w s:=⟨z,H,I,rw',q⟩
 by_cases h0:0<=i
 ·have hj:i.toNat=j:=by
   rw [seqIndex_of h0 h5] at h1
   exact Option.some.inj h1
  exact item_listR pl.isList h0 (by lia) (by rw [hj]; simpa using ew) fin hs
 ·have hj:(i+(its.toArray.size:Int)).toNat=j:=by
   rw [seqIndex_neg (by exact Int.not_le.mp ‹_›) h4] at h1
   rw [xal,<- hl]
   exact Option.some.inj h1
  exact subscriptTail_builtinR (x:=w) pl.isList.typeIs slot_list_getitem.lookup
   (wpAny_getItem_list_neg (Q:=fun r s'=>r=w/\EP X pins σ Q r s') pl.isList (by exact Int.not_le.mp ‹_›) (by rw [xal] <;> lia) (by lia) (by rw [hj]; simpa using ew) ⟨rfl,fin⟩) hs
theorem ix_tup:IxR X (rIxT X.K):=by
 intro value slice pins s σ H x y v u Q I rx ry h hs
 obtain ⟨p,xs,i,z,rfl,rfl,hq,he,q⟩:=h
 cases rx
 obtain ⟨t,rfl⟩:=ry
 obtain ⟨its,r,pl,hz⟩:=I.tuple hq
 obtain ⟨j,h1,h2,h3,h4,h5⟩:=atI_get he
 obtain ⟨w,ew,rw'⟩:=r.get h2
 have hl:=r.length
 have hn:=line63
 have fin:EP X pins σ Q w s:=⟨z,H,I,rw',q⟩
 exact subscriptTail_builtinR (x:=w) pl.typeIs slot_tuple_getitem.lookup
  (getItem_tuple (j:=j) (Q:=fun r s'=>r=w/\EP X pins σ Q r s') pl (by lia) (by lia) (by rw [xal,<- hl]; exact h1) (by simpa using ew) ⟨rfl,fin⟩) hs
theorem ix_str:IxR X rIxS:=by
 intro value slice pins s σ H x y v u Q I rx ry h hs
 obtain ⟨z,i,c,rfl,rfl,hz,he,q⟩:=h
 obtain ⟨t,rfl⟩:=rx
 obtain ⟨t',rfl⟩:=ry
 obtain ⟨j,h1,h2,h3,h4,h5⟩:=atI_get he
 have hl:z.cps.toList.length=z.length:=by simp [Str.length]
 rw [hl] at h1 h4 h5
 have hn:=line63
 exact tail_any (typeIs_str s z t) slot_str_getitem.lookup (getItem_str (c:=c) (by
  have e1:decide (i < -(2 ^ 63:Int))=false:=decide_eq_false (by lia)
  have e2:decide (i >= 2 ^ 63)=false:=decide_eq_false (by lia)
  rw [e1,e2,Bool.or_false]) (by rw [h1]; simpa using h2) ⟨.str ⟨#[c]⟩,H,I.tok _,⟨_,rfl⟩,q⟩) hs
def rIx (K:PySem.W.Frag):R2:=fun x y H Q=>rIxL K x y H Q\/rIxT K x y H Q\/rIxS x y H Q
theorem ix_seq:IxR X (rIx X.K):=ix_list.or (ix_tup.or ix_str)
theorem slice_bounds (lo hi:Option Int) (n:Nat):(sliceBounds lo hi none n).1=((HT.sIx n 0 lo:Nat):Int)/\(sliceBounds lo hi none n).2.1=((HT.sIx n n hi:Nat):Int)/\(sliceBounds lo hi none n).2.2=1:=by
 refine ⟨?_,?_,rfl⟩
 ·cases lo with
  | none=>simp [sliceBounds,HT.sIx]
  | some i =>
   simp only [sliceBounds,HT.sIx,Option.getD_none,show (1:Int)>0 by decide,if_true]
   by_cases h:i<0
   ·simp only [h,if_true] <;> lia
   ·simp only [h,if_false] <;> lia
 ·cases hi with
  | none=>simp [sliceBounds,HT.sIx]
  | some i =>
   simp only [sliceBounds,HT.sIx,Option.getD_none,show (1:Int)>0 by decide,if_true]
   by_cases h:i<0
   ·simp only [h,if_true] <;> lia
   ·simp only [h,if_false] <;> lia
theorem slicePick_cut (its:List Value) (lo hi:Option Int):slicePick its.toArray lo hi none=((its.drop (HT.sIx its.length 0 lo)).take (HT.sIx its.length its.length hi - HT.sIx its.length 0 lo)).toArray:=by
 obtain ⟨h1,h2,h3⟩:=slice_bounds lo hi its.toArray.size
 unfold slicePick
 rw [h1,h2,h3]
 simp only [sliceRange_one,pick_run,xal] <;> rfl
def rSlL (K:PySem.W.Frag):V->Option Int->Option Int->Hp->VK->Prop:=fun x lo hi H Q=>∃ a xs,x=.ref a/\SqL K H a xs/\∀ p,H p=none->Q (.ref p) (upd H p (.lst (cutV xs lo hi)))
theorem sl_list:SlR X (rSlL X.K):=by
 intro pins s σ H x v vl vu lo hi sl Q I rx hs pl pu h
 obtain ⟨a,xs,rfl,hx,q⟩:=h
 cases rx
 obtain ⟨its,r,ht,hz⟩:=I.list hx
 have hlen:=r.length
 refine ⟨"list",_,slot_list_getitem.lookup,ht.isList.typeIs,?_⟩
 refine wpAny_getItem_list_slice ht.isList hs pl pu .none (by simp) ?_ (by rw [xal] <;> lia)
 rw [slicePick_cut,<- hlen]
 refine ⟨.ref s.heap.objs.size,_,I.laid (t':=s.toks) (o:=.lst (cutV xs lo hi)) (fun b ob q=>xaj _ q) (xae _) ?_,rfl,q _ (I.hok.fresh (xae _))⟩
 exact ⟨xaA (cutV_length xs lo hi) hz,_,0,(r.drop (HT.sIx xs.length 0 lo)).take (HT.sIx xs.length xs.length hi - HT.sIx xs.length 0 lo),xaw _ rfl⟩
def flatV:V->Bool
 | .non=>true
 | .bl _=>true
 | .int _=>true
 | .str _=>true
 | _=>false
def eqV:V->V->Bool
 | .non,.non=>true
 | .bl a,.bl b=>a == b
 | .bl a,.int b=>(if a then 1 else 0) == b
 | .int a,.bl b=>a == (if b then 1 else 0)
 | .int a,.int b=>a == b
 | .str a,.str b=>a == b
 | _,_=>false
theorem eqAt_V (ry:RelV y u) (rx:RelV x v) (fy:flatV y=true) (fx:flatV x=true):SeqAt.EqAt A s u v (eqV y x):=by
 cases y with
 | non =>
  cases ry
  cases x with
  | non=>cases rx; exact SeqAt.EqAt.same _
  | bl b=>cases rx; exact SeqAt.EqAt.none_bool b
  | int b=>obtain ⟨t,rfl⟩:=rx; exact SeqAt.EqAt.none_int b t
  | str b=>obtain ⟨t,rfl⟩:=rx; exact SeqAt.EqAt.none_str b t
  | _=>exact absurd (show false=true from fx) xaq
 | bl a =>
  cases ry
  cases x with
  | non=>cases rx; exact SeqAt.EqAt.bool_none a
  | bl b=>cases rx; exact SeqAt.EqAt.bool_bool a b
  | int b=>obtain ⟨t,rfl⟩:=rx; exact SeqAt.EqAt.bool_int a b t
  | str b=>obtain ⟨t,rfl⟩:=rx; exact SeqAt.EqAt.bool_str a b t
  | _=>exact absurd (show false=true from fx) xaq
 | int a =>
  obtain ⟨t',rfl⟩:=ry
  cases x with
  | non=>cases rx; exact SeqAt.EqAt.int_none a t'
  | bl b=>cases rx; exact SeqAt.EqAt.int_bool a t' b
  | int b=>obtain ⟨t,rfl⟩:=rx; exact SeqAt.EqAt.int_int a t' b t
  | str b=>obtain ⟨t,rfl⟩:=rx; exact SeqAt.EqAt.int_str a t' b t
  | _=>exact absurd (show false=true from fx) xaq
 | str a =>
  obtain ⟨t',rfl⟩:=ry
  cases x with
  | non=>cases rx; exact SeqAt.EqAt.str_none a t'
  | bl b=>cases rx; exact SeqAt.EqAt.str_bool a t' b
  | int b=>obtain ⟨t,rfl⟩:=rx; exact SeqAt.EqAt.str_int a t' b t
  | str b=>obtain ⟨t,rfl⟩:=rx; exact SeqAt.EqAt.str_str a t' b t
  | _=>exact absurd (show false=true from fx) xaq
 | _=>exact absurd (show false=true from fy) xaq
def eqU (x:V) (u:Value):Bool:=match u with
 | .none=>eqV .non x
 | .bool b=>eqV (.bl b) x
 | .int i _=>eqV (.int i) x
 | .str z _=>eqV (.str z) x
 | _=>false
theorem eqU_of (r:RelV y u) (f:flatV y=true):eqU x u=eqV y x:=by
 cases y with
 | non=>cases r; rfl
 | bl b=>cases r; rfl
 | int i=>obtain ⟨t,rfl⟩:=r; rfl
 | str z=>obtain ⟨t,rfl⟩:=r; rfl
 | _=>exact absurd (show false=true from f) xaq
theorem any_eqU:∀ {xs:List V} {us:List Value},Vals xs us->xs.all flatV=true->us.any (eqU x)=xs.any fun y=>eqV y x
 | _,_,.nil,_=>rfl
 | y :: xs,u :: us,.cons r t,f=>by
  rw [xbl,xaz] at f
  rw [xba,xba,eqU_of r f.1,any_eqU t f.2]
theorem mem_eqAt (rx:RelV x v) (fx:flatV x=true):∀ {xs:List V} {us:List Value},Vals xs us->xs.all flatV=true->∀ u∈us,SeqAt.EqAt A s u v (eqU x u)
 | _,_,.nil,_=>fun u hu=>by cases hu
 | y :: xs,u :: us,.cons r t,f=>fun u' hu=>by
  rw [xbl,xaz] at f
  rcases xam.mp hu with rfl | hu
  ·rw [eqU_of r f.1]; exact eqAt_V r rx f.1 fx
  ·exact mem_eqAt rx fx t f.2 u' hu
def inV (x:V) (xs:List V):Bool:=xs.any fun y=>eqV y x
def rIn (K:PySem.W.Frag) (neg:Bool):R2:=fun x y H Q=>∃ p xs,y=.ref p/\(SqL K H p xs\/SqT K H p xs)/\flatV x=true/\xs.all flatV=true/\Q (.bl (if neg then !inV x xs else inV x xs)) H
theorem op_in_seq:OpR X (compareOp .In) (rIn X.K false):=by
 intro pins s σ H x y v u Q I rx ry h
 obtain ⟨p,xs,rfl,hq,fx,fs,q⟩:=h
 cases ry
 rcases hq with hq | hq
 ·obtain ⟨its,r,pl,hz⟩:=I.list hq
  refine SeqAt.in_listAt (eqU x) pl.isList (fun w hw=>mem_eqAt rx fx r fs w (by simpa using hw)) ⟨.bl _,H,I,rfl,?_⟩
  rw [show its.toArray.any (eqU x)=its.any (eqU x) by simp,any_eqU r fs]
  exact q
 ·obtain ⟨its,r,pl,hz⟩:=I.tuple hq
  refine SeqAt.in_tupleAt (eqU x) pl (fun w hw=>mem_eqAt rx fx r fs w (by simpa using hw)) ⟨.bl _,H,I,rfl,?_⟩
  rw [show its.toArray.any (eqU x)=its.any (eqU x) by simp,any_eqU r fs]
  exact q
theorem op_notIn_seq:OpR X (compareOp .NotIn) (rIn X.K true):=by
 intro pins s σ H x y v u Q I rx ry h
 obtain ⟨p,xs,rfl,hq,fx,fs,q⟩:=h
 cases ry
 rcases hq with hq | hq
 ·obtain ⟨its,r,pl,hz⟩:=I.list hq
  refine SeqAt.notIn_listAt (eqU x) pl.isList (fun w hw=>mem_eqAt rx fx r fs w (by simpa using hw)) ⟨.bl _,H,I,rfl,?_⟩
  rw [show its.toArray.any (eqU x)=its.any (eqU x) by simp,any_eqU r fs]
  exact q
 ·obtain ⟨its,r,pl,hz⟩:=I.tuple hq
  refine SeqAt.notIn_tupleAt (eqU x) pl (fun w hw=>mem_eqAt rx fx r fs w (by simpa using hw)) ⟨.bl _,H,I,rfl,?_⟩
  rw [show its.toArray.any (eqU x)=its.any (eqU x) by simp,any_eqU r fs]
  exact q
theorem CallR.or (h:CallR X f r) (h':CallR X f r'):CallR X f (fun xs H Q=>r xs H Q\/r' xs H Q):=by
 intro pins s σ H xs us Q I rs q
 rcases q with q | q
 ·exact h pins s σ H xs us Q I rs q
 ·exact h' pins s σ H xs us Q I rs q
theorem call_list_of:CallR X (.type "list") (fun xs H Q=>∃ p ys,xs=[.ref p]/\(SqL X.K H p ys\/SqT X.K H p ys)/\∀ l,H l=none->Q (.ref l) (upd H l (.lst ys))):=by
 intro pins s σ H xs us Q I r h
 obtain ⟨p,ys,rfl,hq,q⟩:=h
 obtain ⟨u,rfl,rx⟩:=vals1 r
 cases rx
 have fin:∀ (its:List Value),Vals ys its->ys.length<=sizeLine->∀ (h':Heap) (c':Nat),(∀ b o',s.heap.get? b=some o'->h'.get? b=some o') ->
   h'.get? s.heap.objs.size=some { cls:=.type "list",dict:=none,data:=.seq its.toArray c',slots:=#[] }->EP X pins σ Q (.ref s.heap.objs.size) { s with heap:=h' }:=fun its r' hz h' c' kp e =>
  ⟨.ref s.heap.objs.size,_,I.laid (t':=s.toks) kp (xae _) (show ObjOk X.prog X.w _ h' _ (.lst ys) from ⟨hz,its,c',r',e⟩),rfl,q _ (I.hok.fresh (xae _))⟩
 rcases hq with hq | hq
 ·obtain ⟨its,r',pl,hz⟩:=I.list hq
  have hlen:=r'.length
  obtain ⟨o,ho,hc,n,hd⟩:=pl.isList
  exact call_list_seq p (.inl rfl) ho hc hd (fun h' c' kp e=>fin its r' hz h' c' kp e) (by simp only [xal] <;> lia)
 ·obtain ⟨its,r',pl,hz⟩:=I.tuple hq
  have hlen:=r'.length
  obtain ⟨o,ho,hc,n,hd⟩:=pl
  exact call_list_seq p (.inr rfl) ho hc hd (fun h' c' kp e=>fin its r' hz h' c' kp e) (by simp only [xal] <;> lia)
def tyV (K:PySem.W.Frag) (T:String) (x:V) (H:Hp):Prop:=match x with
 | .str _=>T = "str"
 | .int _=>T = "int"
 | .ref p=>(T = "list"/\∃ xs,SqL K H p xs)\/(T = "tuple"/\∃ o,K.lookup p=some o/\o.cls=.type "tuple"/\o.dict=none) \/
   (T = "dict"/\((∃ kvs,H p=some (.dK kvs))\/∃ kvs,H p=some (.dT kvs)))\/(T = "set"/\∃ S n,H p=some (.set S n))
 | _=>False
theorem tyV_is {T:String} (I:Inv X pins σ H s) (r:RelV x v) (ty:tyV X.K T x H) :
  s.TypeIs v T/\∀ a,v=.ref a->∃ ob,s.heap.get? a=some ob/\ob.dict=none:=by
 cases x with
 | str z =>
  obtain ⟨t,rfl⟩:=r
  cases (show T = "str" from ty)
  exact ⟨typeIs_str s z t,fun _ e=>nomatch e⟩
 | int i =>
  obtain ⟨t,rfl⟩:=r
  cases (show T = "int" from ty)
  exact ⟨typeIs_int s i t,fun _ e=>nomatch e⟩
 | ref p =>
  cases r
  rcases ty with ⟨rfl,xs,hq⟩ | ⟨rfl,o,hk,hc,hd⟩ | ⟨rfl,hk⟩ | ⟨rfl,S,n,hk⟩
  ·obtain ⟨its,_,pl,_⟩:=I.list hq
   refine ⟨pl.isList.typeIs,fun a e=>?_⟩
   cases e
   obtain ⟨o,n,e,c,hd,_⟩:=pl
   exact ⟨o,e,hd⟩
  ·refine ⟨⟨o,I.kIn p o hk,hc⟩,fun a e=>?_⟩
   cases e
   exact ⟨o,I.kIn _ o hk,hd⟩
  ·have z:∃ o,s.heap.get? p=some o/\o.ExactDict:=by
    rcases hk with ⟨kvs,hk⟩ | ⟨kvs,hk⟩
    ·obtain ⟨_,_,_,_,o,_,_,e,ex,_⟩:=I.hok p _ hk
     exact ⟨o,e,ex⟩
    ·obtain ⟨_,_,_,_,o,_,_,e,ex,_⟩:=I.hok p _ hk
     exact ⟨o,e,ex⟩
   obtain ⟨o,e,ex⟩:=z
   refine ⟨⟨o,e,ex.1⟩,fun a e2=>?_⟩
   cases e2
   exact ⟨o,e,ex.2.1⟩
  ·obtain ⟨o,_,_,_,e,ex,_⟩:=I.hok p _ hk
   refine ⟨⟨o,e,ex.1⟩,fun a e2=>?_⟩
   cases e2
   exact ⟨o,e,ex.2.1⟩
 | _=>exact False.elim ty
def tBM0 (K:PySem.W.Frag) (T:String) (r:V->List V->Hp->VK->Prop) (to:TE):TE:=fun σ H Q=>to σ H fun x H1=>tyV K T x H1/\r x [] H1 Q
def tBM (K:PySem.W.Frag) (T:String) (r:V->List V->Hp->VK->Prop) (to:TE) (t:TA):TE:=fun σ H Q=>to σ H fun x H1=>tyV K T x H1/\t σ H1 fun xs H2=>r x xs H2 Q
variable {o e:Expr} {es:List Expr} {to:TE} {t:TA} {name:Str} {apos cpos:Pos} {T id:String} {r:V->List V->Hp->VK->Prop}
theorem pe_bm0 (pa:PlainAttrs T) (slot:Slot T name id) (hty:typeOf (.builtin id)=pure (.type "method_descriptor")) (hm:MtR X id r) (ho:PE X o to)
  (hbase:attributeBase o name X.env (eval o X.env)=eval o X.env:=by rfl) (hline:(apos.endLine == cpos.line)=true:=by rfl):PE X (.Call (.Attribute o name apos) [] [] cpos) (tBM0 X.K T r to):=by
 intro pins s σ H Q I h
 refine wpAny_Call_method0_late hbase hline (thn (ho pins s σ H _ I h) fun v s1 hx9=>?_)
 obtain ⟨x,H1,I1,r1,ty,q1⟩:=hx9
 obtain ⟨h1,h2⟩:=tyV_is I1 r1 ty
 exact ⟨T,id,pa,slot,hty,h1,h2,Calls.callWith_builtin rfl (PySem.evalArgs_none (hm pins s1 σ H1 x [] v [] Q I1 r1 .nil q1))⟩
theorem pe_bm (pa:PlainAttrs T) (slot:Slot T name id) (hty:typeOf (.builtin id)=pure (.type "method_descriptor")) (hm:MtR X id r) (ho:PE X o to) (ha:PA X (e :: es) t)
  (hbase:attributeBase o name X.env (eval o X.env)=eval o X.env:=by rfl)
  (hfew:((backTo cpos (starEach (e :: es) X.env)).all (fun x=>!x.1) && (backToKw cpos (keywordEach [] X.env)).all (fun x=>x.1.isSome)
   && decide ((e :: es).length+([]:List Keyword).length+(if ([]:List Keyword).isEmpty then 0 else 1)<30))=true:=by rfl)
  (hline:(apos.endLine == cpos.line)=true:=by rfl) (hs:starEach (e :: es) X.env=(false,eval e X.env) :: starEach es X.env:=by rfl) (hplain:(backTo cpos (starEach es X.env)).any (·.1)=false:=by rfl) :
  PE X (.Call (.Attribute o name apos) (e :: es) [] cpos) (tBM X.K T r to t):=by
 intro pins s σ H Q I h
 refine wpAny_Call_method_late hbase hfew hline rfl (thn (ho pins s σ H _ I h) fun v s1 hx9=>?_)
 obtain ⟨x,H1,I1,r1,ty,q1⟩:=hx9
 obtain ⟨h1,h2⟩:=tyV_is I1 r1 ty
 refine ⟨T,id,pa,slot,hty,h1,h2,?_⟩
 have hA:=ha cpos pins s1 σ H1 _ I1 q1
 rw [hs] at hA ⊢
 refine Calls.callWith_builtin (by show (false || (backTo cpos (starEach es X.env)).any (·.1))=false; rw [hplain] <;> rfl) (Calls.evalArgs_plain ?_)
 exact thn hA fun us s2 hx5=>L2.ex2 hx5 fun vs H2 I2 r2 q2=>hm pins s2 σ H2 x vs v us Q I2 r1 r2 q2
end
def MtM (X:Cx) (id:String) (r:V->List V->Hp->VK->Prop):Prop :=
 ∀ (pins:List (Addr × Obj)) (s:Shared) (σ:St) (H:Hp) (x:V) (xs:List V) (v:Value) (us:List Value) (Q:VK),Inv X pins σ H s->RelV x v->Vals xs us->r x xs H Q ->
  wpAny (model X.prog X.w) X.A (call (.builtin id) (v :: us)) (EP X pins σ Q) X.xe s
theorem Vals.one {x:V} {us:List Value} (h:Vals [x] us):∃ u,us=[u]/\RelV x u:=by
 cases h
 rename_i r h
 cases h
 exact ⟨_,rfl,‹_›⟩
theorem Vals.two {x y:V} {us:List Value} (h:Vals [x,y] us):∃ u v,us=[u,v]/\RelV x u/\RelV y v:=by
 cases h
 rename_i r h
 cases h
 rename_i q h
 cases h
 exact ⟨_,_,rfl,‹_›,‹_›⟩
theorem Vals.zero:∀ {us:List Value},Vals [] us->us=[]
 | _,.nil=>rfl
theorem Vals.dropLast (h:Vals xs us):Vals xs.dropLast us.dropLast:=by
 induction h with
 | nil=>exact .nil
 | cons r t ih =>
  cases t with
  | nil=>exact .nil
  | cons q t'=>exact .cons r ih
theorem Vals.eraseIdx:∀ {xs:List V} {us:List Value} (i:Nat),Vals xs us->Vals (xs.eraseIdx i) (us.eraseIdx i)
 | _,_,_,.nil=>.nil
 | _,_,0,.cons _ t=>t
 | _,_,i+1,.cons r t=>.cons r (Vals.eraseIdx i t)
theorem Vals.rep (h:Vals xs us):∀ k:Nat,Vals (List.replicate k xs).flatten (List.replicate k us).flatten
 | 0=>.nil
 | k+1=>by
  rw [xbn,xbn,xbN,xbN]
  exact Vals.append h (Vals.rep h k)
theorem erase_last {α:Type} (l:List α):l.eraseIdx (l.length - 1)=l.dropLast:=by
 induction l with
 | nil=>rfl
 | cons a r ih =>
  cases r with
  | nil=>rfl
  | cons b r =>
   have e:(a :: b :: r).length - 1=((b :: r).length - 1)+1:=by
    have h1:(a :: b :: r).length=r.length+2:=rfl
    have h2:(b :: r).length=r.length+1:=rfl
    lia
   rw [e,List.eraseIdx_cons_succ,ih]
   all_goals rfl
theorem len_erase {α:Type}:∀ (l:List α) (i:Nat),(l.eraseIdx i).length<=l.length
 | [],_=>xae _
 | _ :: _,0=>Nat.le_succ _
 | _ :: r,i+1=>Nat.succ_le_succ (len_erase r i)
section
variable {X:Cx} {pins:List (Addr × Obj)} {σ:St} {H:Hp} {s:Shared} {l:Addr} {xs ys:List V}
theorem Inv.lset {its its':List Value} {n:Nat} {f:Array Value->Array Value} {t':Nat} (I:Inv X pins σ H s) (hH:H l=some (.lst xs))
  (e:s.heap.get? l=some { cls:=.type "list",data:=.seq its.toArray n }) (hf:f its.toArray=its'.toArray) (hv:Vals ys its') (hz:ys.length<=sizeLine) :
  Inv X pins σ (upd H l (.lst ys)) { s with heap:=s.heap.update l (Obj.mapSeq f),toks:=t' }:=by
 have q:=PySem.IsL.update e f
 rw [hf] at q
 refine I.write (x:=l) (e:=l) (by rw [hH]; exact trivial) (.inl rfl) (fun b' u hb hu=>(Heap.get?_update_other s.heap (Obj.mapSeq f) (Ne.symm hb)).trans hu) ⟨_,q⟩ ?_
 exact ⟨hz,its',_,hv,q⟩
theorem Inv.lnew (I:Inv X pins σ H s) (hv:Vals ys its) (hz:ys.length<=sizeLine) :
  Inv X pins σ (upd H s.heap.objs.size (.lst ys)) { s with heap:=s.heap.push { cls:=.type "list",data:=.seq its.toArray },toks:=t' } :=
 I.laid (fun _ _ q=>xaj _ q) (xae _) ⟨hz,its,0,hv,xaw _ rfl⟩
theorem Inv.fresh (I:Inv X pins σ H s):H s.heap.objs.size=none:=I.hok.fresh (xae _)
theorem Inv.lstM (I:Inv X pins σ H s) (hH:H l=some (.lst xs)):xs.length<=sizeLine/\∃ (its:List Value) (n:Nat),Vals xs its/\xs.length=its.length/\s.heap.get? l=some { cls:=.type "list",data:=.seq its.toArray n }:=by
 obtain ⟨z,its,n,r,e⟩:=I.hok l _ hH
 exact ⟨z,its,n,r,r.length,e⟩
end
section
variable {X:Cx}
def rAppend:V->List V->Hp->VK->Prop:=fun x vs H Q=>∃ l xs y,x=.ref l/\vs=[y]/\H l=some (.lst xs)/\xs.length<sizeLine/\Q .non (upd H l (.lst (xs++[y])))
theorem mt_append:MtM X "list.append" rAppend:=by
 intro pins s σ H x vs v us Q I rx rv h
 obtain ⟨l,xs,y,rfl,rfl,hH,hz,q⟩:=h
 cases rx
 obtain ⟨u,rfl,ru⟩:=rv.one
 obtain ⟨z,its,n,r,hl,e⟩:=I.lstM hH
 refine call_meets F.slot_list_append ⟨_,e,rfl⟩ F.entry_list_append (F.args_list_append_2 _ _) (PySem.list_append l its.toArray n u (by rw [xal]; lia)) ⟨e,?_⟩
 refine ⟨.non,_,I.lset (its':=its++[u]) hH e (by simp) (r.append (.cons ru .nil)) ?_,rfl,q⟩
 rw [xaB,xbv]
 assumption
def rPop:V->List V->Hp->VK->Prop:=fun x vs H Q=>∃ l xs y,x=.ref l/\vs=[]/\H l=some (.lst xs)/\xs[xs.length - 1]? = some y/\Q y (upd H l (.lst xs.dropLast))
theorem mt_pop:MtM X "list.pop" rPop:=by
 intro pins s σ H x vs v us Q I rx rv h
 obtain ⟨l,xs,y,rfl,rfl,hH,hy,q⟩:=h
 cases rx
 have hus:=rv.zero
 subst hus
 obtain ⟨z,its,n,r,hl,e⟩:=I.lstM hH
 obtain ⟨u,hu,ru⟩:=r.get hy
 have hy':its.toArray[its.toArray.size - 1]? = some u:=by
  show its.toArray[its.length - 1]? = some u
  rw [<- xaF,<- hl]
  exact hu
 refine call_meets F.slot_list_pop ⟨_,e,rfl⟩ F.entry_list_pop (F.args_list_pop_1 _) (MeetsSeq.list_pop_last l its.toArray n u hy' (by rw [xal]; lia)) ⟨e,?_⟩
 refine ⟨y,_,I.lset (its':=its.dropLast) hH e ?_ r.dropLast ?_,ru,q⟩
 ·show its.toArray.eraseIdxIfInBounds (its.toArray.size - 1)=its.dropLast.toArray
  rw [xal,xbT,erase_last]
 ·rw [List.length_dropLast]
  lia
def rPopAt:V->List V->Hp->VK->Prop:=fun x vs H Q=>∃ l xs i k y,x=.ref l/\vs=[.int i]/\H l=some (.lst xs)/\-(2 ^ 63)<=i/\i<2 ^ 63/\seqIndex? i xs.length=some k/\xs[k]? = some y/\Q y (upd H l (.lst (xs.eraseIdx k)))
theorem mt_popAt:MtM X "list.pop" rPopAt:=by
 intro pins s σ H x vs v us Q I rx rv h
 obtain ⟨l,xs,i,k,y,rfl,rfl,hH,h1,h2,hk,hy,q⟩:=h
 cases rx
 obtain ⟨u,rfl,ru⟩:=rv.one
 obtain ⟨t,rfl⟩:=ru
 obtain ⟨z,its,n,r,hl,e⟩:=I.lstM hH
 obtain ⟨w,hw,rw'⟩:=r.get hy
 refine call_meets F.slot_list_pop ⟨_,e,rfl⟩ F.entry_list_pop (F.args_list_pop_2 _ _)
  (MeetsSeq.list_pop_at l its.toArray n i t k w (fitsIndex_both h1 h2) (by rw [xal,<- hl]; exact hk) (by rw [<- xaF]; exact hw) (by rw [xal]; lia)) ⟨e,?_⟩
 refine ⟨y,_,I.lset (its':=its.eraseIdx k) hH e ?_ (r.eraseIdx k) ?_,rw',q⟩
 ·show its.toArray.eraseIdxIfInBounds k=(its.eraseIdx k).toArray
  rw [xbT]
 ·have:=len_erase xs k
  lia
theorem len_rep {α:Type} (xs:List α) (k:Nat):(List.replicate k xs).flatten.length=k * xs.length:=by
 induction k with
 | zero=>simp
 | succ k ih=>rw [xbn,xbN,xaB,ih,Nat.succ_mul,xb8]
end
section
set_option maxRecDepth 100000 in
end
section
variable {κ:Type} [DecidableEq κ]
def valV (kvs:List (κ × V)) (k:κ):Option V:=(kvs.find? fun kv=>decide (kv.1=k)).map (·.2)
def putK (kvs:List (κ × V)) (k:κ) (v:V):List (κ × V) :=
 if (kvs.any fun kv=>decide (kv.1=k))=true then kvs.map (fun kv=>if kv.1=k then (kv.1,v) else kv) else kvs++[(k,v)]
def dropK (kvs:List (κ × V)) (k:κ):List (κ × V):=kvs.filter fun kv=>decide (kv.1≠k)
theorem valV_pos {p:κ × V} {r:List (κ × V)} {k:κ} (e:p.1=k):valV (p :: r) k=some p.2:=by simp [valV,xbq,e]
theorem valV_neg {p:κ × V} {r:List (κ × V)} {k:κ} (e:¬ p.1=k):valV (p :: r) k=valV r k:=by simp [valV,xbq,e]
theorem valV_any (k:κ):∀ kvs:List (κ × V),(kvs.any fun kv=>decide (kv.1=k))=(valV kvs k).isSome
 | []=>rfl
 | p :: r=>by
  rw [xba]
  by_cases e:p.1=k
  ·simp only [valV_pos e,decide_eq_true e,Bool.true_or,Option.isSome_some]
  ·rw [valV_neg e,decide_eq_false e,Bool.false_or]; exact valV_any k r
theorem valV_map (k j:κ) (y:V):∀ kvs:List (κ × V),valV (kvs.map fun kv=>if kv.1=k then (kv.1,y) else kv) j=(valV kvs j).map fun x=>if j=k then y else x
 | []=>rfl
 | p :: r=>by
  have ih:=valV_map k j y r
  rw [xat]
  by_cases h:p.1=k
  ·rw [if_pos h]
   by_cases e:p.1=j
   ·rw [valV_pos (p:=(p.1,y)) e,valV_pos e,xbI,if_pos (e.symm.trans h)]
   ·rw [valV_neg (p:=(p.1,y)) e,valV_neg e,ih]
  ·rw [if_neg h]
   by_cases e:p.1=j
   ·rw [valV_pos (p:=p) e,valV_pos e,xbI,if_neg (fun z=>h (e.trans z))]
   ·rw [valV_neg (p:=p) e,valV_neg e,ih]
theorem valV_snoc (k j:κ) (y:V):∀ kvs:List (κ × V),valV kvs k=none->valV (kvs++[(k,y)]) j=if j=k then some y else valV kvs j
 | [],_=>by
  by_cases e:k=j
  ·rw [if_pos e.symm]; exact valV_pos (p:=(k,y)) e
  ·rw [if_neg (fun z=>e z.symm)]; exact valV_neg (p:=(k,y)) e
 | p :: r,hn=>by
  rw [xbU]
  have hk:¬ p.1=k:=fun z=>by rw [valV_pos z] at hn; cases hn
  rw [valV_neg hk] at hn
  have ih:=valV_snoc k j y r hn
  by_cases e:p.1=j
  ·rw [valV_pos e,valV_pos e,if_neg (fun z=>hk (e.trans z))]
  ·rw [valV_neg e,valV_neg e,ih]
theorem valV_put (kvs:List (κ × V)) (k j:κ) (y:V):valV (putK kvs k y) j=if j=k then some y else valV kvs j:=by
 unfold putK
 by_cases a:(kvs.any fun kv=>decide (kv.1=k))=true
 ·rw [if_pos a,valV_map]
  rw [valV_any] at a
  by_cases e:j=k
  ·obtain ⟨x,hx⟩:=xbJ.mp a
   rw [if_pos e,e,hx,xbI,if_pos rfl]
  ·rw [if_neg e]
   cases valV kvs j with
   | none=>rfl
   | some x=>rw [xbI,if_neg e]
 ·rw [if_neg a]
  refine valV_snoc k j y kvs ?_
  rw [valV_any] at a
  cases q:valV kvs k with
  | none=>rfl
  | some x=>rw [q] at a; exact (a rfl).elim
theorem length_putK (kvs:List (κ × V)) (k:κ) (v:V):(putK kvs k v).length<=kvs.length+1:=by
 unfold putK
 split
 ·rw [xab]; exact xbb _ _
 ·rw [xaB,xaH,List.length_nil]; exact xae _
theorem RelO.isSome_eq (r:RelO o u):o.isSome=u.isSome:=by
 cases o with
 | none=>cases u with
  | none=>rfl
  | some _=>exact (show False from r).elim
 | some _=>cases u with
  | none=>exact (show False from r).elim
  | some _=>rfl
theorem RelO.getD (r:RelO o u) (rd:RelV d d'):RelV (o.getD d) (u.getD d'):=by
 cases o with
 | none=>cases u with
  | none=>exact rd
  | some _=>exact (show False from r).elim
 | some _=>cases u with
  | none=>exact (show False from r).elim
  | some _=>exact r
theorem KV.val {kvs:List (κ × V)} {vs:List (κ × Value)} (r:KV kvs vs) (k:κ):RelO (valV kvs k) (valueAt vs k):=by
 unfold KV at r
 induction r with
 | nil=>exact True.intro
 | @cons p q ps qs h t ih =>
  obtain ⟨h1,h2⟩:=h
  by_cases e:p.1=k
  ·have e':q.1=k:=h1.symm.trans e
   have b:valueAt (q :: qs) k=some q.2:=by simp [valueAt,xbq,e']
   rw [valV_pos e,b]; exact h2
  ·have e':¬ q.1=k:=fun z=>e (h1.trans z)
   have b:valueAt (q :: qs) k=valueAt qs k:=by simp [valueAt,xbq,e']
   rw [valV_neg e,b]; exact ih
theorem KV.any (r:KV kvs vs) (k:κ):(kvs.any fun kv=>decide (kv.1=k))=vs.any fun kv=>decide (kv.1=k):=by
 unfold KV at r
 induction r with
 | nil=>rfl
 | cons h t ih=>rw [xba,xba,ih,h.1]
theorem KV.repl (r:KV kvs vs) (k:κ) (ry:RelV y u) :
  KV (kvs.map fun kv=>if kv.1=k then (kv.1,y) else kv) (vs.map fun kv=>if kv.1=k then (kv.1,u) else kv):=by
 unfold KV at r ⊢
 induction r with
 | nil=>exact .nil
 | @cons p q ps qs h t ih =>
  rw [xat,xat]
  refine .cons ?_ ih
  obtain ⟨h1,h2⟩:=h
  by_cases e:p.1=k
  ·rw [if_pos e,if_pos (h1.symm.trans e)]; exact ⟨h1,ry⟩
  ·rw [if_neg e,if_neg (fun z=>e (h1.trans z))]; exact ⟨h1,h2⟩
theorem KV.put (r:KV kvs vs) (k:κ) (ry:RelV y u):KV (putK kvs k y) (stored vs k u):=by
 unfold putK stored
 rw [r.any k]
 by_cases e:(vs.any fun kv=>decide (kv.1=k))=true
 ·rw [if_pos e,if_pos e]; exact r.repl k ry
 ·rw [if_neg e,if_neg e]; exact Paired.snoc r ⟨rfl,ry⟩
theorem KV.drop (r:KV kvs vs) (k:κ):KV (dropK kvs k) (without vs k):=by
 unfold KV at r ⊢
 unfold dropK without
 induction r with
 | nil=>exact .nil
 | @cons p q ps qs h t ih =>
  obtain ⟨h1,h2⟩:=h
  rw [List.filter_cons,List.filter_cons]
  by_cases e:p.1=k
  ·have a:¬ decide (p.1≠k)=true:=by simp [e]
   have b:¬ decide (q.1≠k)=true:=by simp [h1.symm.trans e]
   rw [if_neg a,if_neg b]; exact ih
  ·have e':¬ q.1=k:=fun z=>e (h1.trans z)
   have a:decide (p.1≠k)=true:=by simp [e]
   have b:decide (q.1≠k)=true:=by simp [e']
   rw [if_pos a,if_pos b]; exact .cons ⟨h1,h2⟩ ih
theorem KV.length (r:KV kvs vs):kvs.length=vs.length:=Paired.length r
end
theorem kV_is {P:Program} (r:RelV (kV k) u):(mixKind P w).is k u=true:=by
 cases k with
 | inl i=>obtain ⟨t,e⟩:=(show ∃ t,u=Value.int i t from r); subst e; exact mixKind_int P w i t
 | inr x=>obtain ⟨t,e⟩:=(show ∃ t,u=Value.str x t from r); subst e; exact mixKind_str P w x t
theorem items_are {P:Program}:∀ {ks:List Key} {us:List Value},Vals (ks.map kV) us->ItemsAre (mixKind P w) ks us
 | [],_,r=>by rw [List.map_nil] at r; cases r; exact .nil
 | k :: ks,_,r=>by
  rw [xat] at r
  cases r with
  | cons h t=>exact .cons (kV_is h) (items_are t)
abbrev KT (H:Hp):List (List Key × V)->List (List Key × Addr × Value)->Prop:=Paired fun p q=>p.1=q.1/\H q.2.1=some (.tup (p.1.map kV))/\RelV p.2 q.2.2
theorem KT.val {H:Hp} {kvs:List (List Key × V)} {xs:List (List Key × Addr × Value)} (r:KT H kvs xs) (k:List Key):RelO (valV kvs k) ((atKey xs k).map (·.2)):=by
 induction r with
 | nil=>exact True.intro
 | @cons p q ps qs h t ih =>
  obtain ⟨h1,_,h2⟩:=h
  by_cases e:p.1=k
  ·have e':q.1=k:=h1.symm.trans e
   have b:atKey (q :: qs) k=some q.2:=by simp [atKey,xbq,e']
   rw [valV_pos e,b]; exact h2
  ·have e':¬ q.1=k:=fun z=>e (h1.trans z)
   have b:atKey (q :: qs) k=atKey qs k:=by simp [atKey,xbq,e']
   rw [valV_neg e,b]; exact ih
theorem KT.repl (r:KT H kvs xs) (k:List Key) (ry:RelV y u) :
  KT H (kvs.map fun kv=>if kv.1=k then (kv.1,y) else kv) (xs.map (putAt k u)):=by
 induction r with
 | nil=>exact .nil
 | @cons p q ps qs h t ih =>
  rw [xat,xat]
  refine .cons ?_ ih
  obtain ⟨h1,h2,h3⟩:=h
  unfold putAt
  by_cases e:p.1=k
  ·rw [if_pos e,if_pos (h1.symm.trans e)]; exact ⟨h1,h2,ry⟩
  ·rw [if_neg e,if_neg (fun z=>e (h1.trans z))]; exact ⟨h1,h2,h3⟩
theorem KT.put (r:KT H kvs xs) (k:List Key) (hb:H b=some (.tup (k.map kV))) (ry:RelV y u) :
  KT H (putK kvs k y) (storedH xs k b u):=by
 have e:(kvs.any fun kv=>decide (kv.1=k))=(atKey xs k).isSome:=by
  rw [valV_any,(r.val k).isSome_eq,xcf]
 unfold putK storedH
 rw [e]
 by_cases q:(atKey xs k).isSome=true
 ·rw [if_pos q,if_pos q]; exact r.repl k ry
 ·rw [if_neg q,if_neg q]; exact Paired.snoc r ⟨rfl,hb,ry⟩
theorem KT.keeps (r:KT H kvs xs) (ht:∀ b ys,H b=some (.tup ys)->H' b=some (.tup ys)):KT H' kvs xs :=
 Paired.mapP r fun _ _ z=>⟨z.1,ht _ _ z.2.1,z.2.2⟩
section
variable {P:Program} {w:World} {H:Hp} {h:Heap} {a:Addr}
theorem rd_of (ok:HOk P w H h) (e:Rd H a u):ObjOk P w H h a u:=e.ok ok
theorem dk_rd (ok:HOk P w H h) (e:Rd H a (.dK kvs)):kvs.length<=sizeLine/\(a == sysModules)=false/\∃ vs,KV kvs vs/\h.DictOf (mixKind P w) a vs :=
 show ObjOk P w H h a (.dK kvs) from rd_of ok e
theorem dk_of (ok:HOk P w H h) (e:H a=some (.dK kvs)):kvs.length<=sizeLine/\(a == sysModules)=false/\∃ vs,KV kvs vs/\h.DictOf (mixKind P w) a vs:=dk_rd ok (.inl e)
theorem key_of (ok:HOk P w H h) (e:H a=some (.tup (ks.map kV))):(tupleKind (mixKind P w)).is h ks a:=by
 obtain ⟨_,its,r,o,h1,h2,n,h3⟩:=(show ObjOk P w H h a (.tup (ks.map kV)) from ok a _ e)
 exact ⟨o,its.toArray,n,h1,h2,h3,by simpa using items_are r⟩
theorem dt_rd (ok:HOk P w H h) (e:Rd H a (.dT kvs)):kvs.length<=sizeLine/\(a == sysModules)=false /\
  ∃ xs,KT H kvs xs/\h.DictOfH (tupleKind (mixKind P w)) a xs:=by
 obtain ⟨z,y,xs,r,o,es,ep,h1,h2,h3,h4,h5⟩:=(show ObjOk P w H h a (.dT kvs) from rd_of ok e)
 refine ⟨z,y,xs,r,o,es,ep,h1,h2,h3,h4,fun x hx=>?_,h5⟩
 have all:∀ {l:List (List Key × V)} {m:List (List Key × Addr × Value)},KT H l m->∀ x∈m,(tupleKind (mixKind P w)).is h x.1 x.2.1:=by
  intro l m q
  induction q with
  | nil=>intro x hx; exact nomatch hx
  | @cons p q ps qs hq t ih =>
   intro x hx
   rcases xam.mp hx with e | hx
   ·subst e
    exact key_of ok (by rw [<- hq.1]; exact hq.2.1)
   ·exact ih x hx
 exact all r x hx
theorem dt_of (ok:HOk P w H h) (e:H a=some (.dT kvs)):kvs.length<=sizeLine/\(a == sysModules)=false /\
  ∃ xs,KT H kvs xs/\h.DictOfH (tupleKind (mixKind P w)) a xs:=dt_rd ok (.inl e)
end
def DGet (H:Hp) (a:Addr) (y:V) (r:Option V):Prop :=
 (∃ kvs k,Rd H a (.dK kvs)/\y=kV k/\r=valV kvs k)\/∃ kvs k b,Rd H a (.dT kvs)/\y=.ref b/\H b=some (.tup (k.map kV))/\r=valV kvs k
def DPut (H:Hp) (a:Addr) (y v:V) (H':Hp):Prop :=
 (∃ kvs k,H a=some (.dK kvs)/\y=kV k/\kvs.length<sizeLine/\H'=upd H a (.dK (putK kvs k v))) \/
 ∃ kvs k b,H a=some (.dT kvs)/\y=.ref b/\H b=some (.tup (k.map kV))/\kvs.length<sizeLine/\H'=upd H a (.dT (putK kvs k v))
theorem DGet.k {H:Hp} {a:Addr} {kvs:List (Key × V)} {k:Key} (e:H a=some (.dK kvs)):DGet H a (kV k) (valV kvs k):=.inl ⟨kvs,k,.inl e,rfl,rfl⟩
theorem DGet.t {H:Hp} {a b:Addr} {kvs:List (List Key × V)} {k:List Key} (e:H a=some (.dT kvs)) (eb:H b=some (.tup (k.map kV))):DGet H a (.ref b) (valV kvs k):=.inr ⟨kvs,k,b,.inl e,rfl,eb,rfl⟩
theorem DPut.k {H:Hp} {a:Addr} {kvs:List (Key × V)} {k:Key} {v:V} (e:H a=some (.dK kvs)) (hl:kvs.length<sizeLine):DPut H a (kV k) v (upd H a (.dK (putK kvs k v))):=.inl ⟨kvs,k,e,rfl,hl,rfl⟩
theorem DPut.t {H:Hp} {a b:Addr} {kvs:List (List Key × V)} {k:List Key} {v:V} (e:H a=some (.dT kvs)) (eb:H b=some (.tup (k.map kV))) (hl:kvs.length<sizeLine) :
  DPut H a (.ref b) v (upd H a (.dT (putK kvs k v))):=.inr ⟨kvs,k,b,e,rfl,eb,hl,rfl⟩
section
variable {X:Cx} {pins:List (Addr × Obj)} {σ:St} {H:Hp} {s:Shared} {a:Addr} {y v:V} {u r:Value} {o:Option V} {A:Around} {E:Value->Shared->Prop}
theorem Inv.big (I:Inv X pins σ H s):sysModules<s.heap.objs.size:=by
 have h:mainGlobals<s.heap.objs.size:=(I.mod.glob.keeps I.bk).lt
 exact Nat.lt_trans (by decide) h
theorem d_getItem (hu:A.units+1<cLine) (I:Inv X pins σ H s) (g:DGet H a y (some v)) (ry:RelV y u) (h:∀ w' s',Inv X pins σ H s'->RelV v w'->Q w' s') :
  wpAny (model X.prog X.w) A (getItem (.ref a) u) Q E s:=by
 rcases g with ⟨kvs,k,e,ey,l⟩ | ⟨kvs,k,b,e,ey,eb,l⟩
 ·subst ey
  obtain ⟨z,hd,vs,rel,dd⟩:=dk_rd I.hok e
  obtain ⟨w',hw,rw'⟩:=RelO.some_of (v:=v) (o:=valueAt vs k) (by rw [l]; exact rel.val k)
  exact wpAny_getItem_of (kV_is ry) dd.mapOf hw (h w' _ (I.tok _) rw')
 ·subst ey
  cases (show u=Value.ref b from ry)
  obtain ⟨z,hd,xs,rel,dd⟩:=dt_rd I.hok e
  obtain ⟨w',hw,rw'⟩:=RelO.some_of (v:=v) (o:=(atKey xs k).map (·.2)) (by rw [l]; exact rel.val k)
  obtain ⟨p,hp,hp2⟩:=xbr.mp hw
  refine wpAny_getItem_heap (tupleKind_room_in1 hu) (key_of I.hok eb) dd hp ?_
  rw [hp2]
  exact h w' _ (I.tok _) rw'
theorem d_in (hu:A.units+1<cLine) (I:Inv X pins σ H s) (g:DGet H a y o) (ry:RelV y u) (h:∀ s',Inv X pins σ H s'->Q (.bool o.isSome) s') :
  wpAny (model X.prog X.w) A (compareOp .In u (.ref a)) Q E s:=by
 rcases g with ⟨kvs,k,e,ey,l⟩ | ⟨kvs,k,b,e,ey,eb,l⟩
 ·subst ey
  obtain ⟨z,hd,vs,rel,dd⟩:=dk_rd I.hok e
  refine wpAny_in_of (kV_is ry) hd dd.mapOf ?_
  rw [<- (rel.val k).isSome_eq,<- l]
  exact h _ (I.tok _)
 ·subst ey
  cases (show u=Value.ref b from ry)
  obtain ⟨z,hd,xs,rel,dd⟩:=dt_rd I.hok e
  refine wpAny_in_heap (tupleKind_room_in1 hu) (key_of I.hok eb) hd dd ?_
  have q:=(rel.val k).isSome_eq
  rw [xcf] at q
  rw [<- q,<- l]
  exact h _ (I.tok _)
theorem d_notIn (hu:A.units+1<cLine) (I:Inv X pins σ H s) (g:DGet H a y o) (ry:RelV y u) (h:∀ s',Inv X pins σ H s'->Q (.bool (!o.isSome)) s') :
  wpAny (model X.prog X.w) A (compareOp .NotIn u (.ref a)) Q E s:=by
 rcases g with ⟨kvs,k,e,ey,l⟩ | ⟨kvs,k,b,e,ey,eb,l⟩
 ·subst ey
  obtain ⟨z,hd,vs,rel,dd⟩:=dk_rd I.hok e
  refine wpAny_notIn_of (kV_is ry) hd dd.mapOf ?_
  rw [<- (rel.val k).isSome_eq,<- l]
  exact h _ (I.tok _)
 ·subst ey
  cases (show u=Value.ref b from ry)
  obtain ⟨z,hd,xs,rel,dd⟩:=dt_rd I.hok e
  refine wpAny_notIn_heap (tupleKind_room_in1 hu) (key_of I.hok eb) hd dd ?_
  have q:=(rel.val k).isSome_eq
  rw [xcf] at q
  rw [<- q,<- l]
  exact h _ (I.tok _)
theorem d_write (I:Inv X pins σ H s) (mu:Mut (H a)) (hs:Heap.SameBut a s.heap h') (he:∃ q,h'.get? a=some q) (new:ObjOk X.prog X.w (upd H a ob) h' a ob) :
  Inv X pins σ (upd H a ob) { s with heap:=h',toks:=t' } :=
 I.write (x:=a) (e:=a) mu (.inl rfl) (fun b q hb z=>(hs.2 b hb).trans z) he new
theorem dk_new {P:Program} (z:kvs.length<=sizeLine) (hd:(a == sysModules)=false) (rel:KV kvs vs) (dd:h'.DictOf (mixKind P w) a vs) :
  ObjOk P w H' h' a (.dK kvs):=⟨z,hd,vs,rel,dd⟩
theorem d_setItem (hu:A.units+1<cLine) (I:Inv X pins σ H s) (g:DPut H a y v H') (ry:RelV y u) (rv:RelV v r) (h:∀ s',Inv X pins σ H' s'->Q () s') :
  wpAny (model X.prog X.w) A (setItem (.ref a) u r) Q E s:=by
 rcases g with ⟨kvs,k,e,ey,l,eH⟩ | ⟨kvs,k,b,e,ey,eb,l,eH⟩
 ·subst ey eH
  obtain ⟨z,hd,vs,rel,dd⟩:=dk_of I.hok e
  have hz:vs.length<=sizeLine:=by rw [<- rel.length]; exact z
  have hl:(putK kvs k v).length<=sizeLine:=by have:=length_putK kvs k v; lia
  refine wpAny_setItem_pairs (hsz:=hz) (kV_is ry) dd fun h' dd' hs=>h _ ?_
  have he:∃ q,h'.get? a=some q:=let ⟨q,_,_,hq,_⟩:=dd'; ⟨q,hq⟩
  exact d_write I (by rw [e]; exact True.intro) hs he (dk_new hl hd (rel.put k rv) dd')
 ·subst ey eH
  cases (show u=Value.ref b from ry)
  obtain ⟨z,hd,xs,rel,dd⟩:=dt_of I.hok e
  have hz:xs.length<=sizeLine:=by rw [<- Paired.length rel]; exact z
  have hl:(putK kvs k v).length<=sizeLine:=by have:=length_putK kvs k v; lia
  refine wpAny_setItem_heap (hsz:=hz) (tupleKind_room_in1 hu) (key_of I.hok eb) dd fun h' dd' hs=>h _ ?_
  obtain ⟨q,es,ep,hq,h2,h3,h4,_,h5⟩:=dd'
  refine d_write I (by rw [e]; exact True.intro) hs ⟨q,hq⟩ ⟨hl,hd,_,(rel.put k eb rv).keeps fun c ys ec=>?_,q,es,ep,hq,h2,h3,h4,h5⟩
  rw [upd_ne (ne_of ec e (fun z=>nomatch z))]
  exact ec
end
section
variable {X:Cx} {pins:List (Addr × Obj)} {σ:St} {H:Hp} {s:Shared} {a:Addr} {kvs:List (Key × V)} {A:Around} {E:Value->Shared->Prop}
theorem d_len (I:Inv X pins σ H s) (e:Rd H a (.dK kvs)) (h:∀ t s',Inv X pins σ H s'->Q (.int kvs.length t) s'):wpAny (model X.prog X.w) A (call (.builtin "len") [.ref a]) Q E s:=by
 obtain ⟨z,hd,vs,rel,dd⟩:=dk_rd I.hok e
 refine call_len_dict hd dd (by rw [<- rel.length]; rw [sizeLine_eq] at z; lia) ?_
 rw [<- rel.length]
 exact h _ _ (I.tok _)
end
theorem dict_typeIs {X:Cx} (I:Inv X pins σ H s) (g:DGet H a y o):s.TypeIs (.ref a) "dict" := by
 rcases g with ⟨kvs,k,e,_,_⟩ | ⟨kvs,k,b,e,_,_,_⟩
 ·obtain ⟨_,_,vs,_,dd⟩:=dk_rd I.hok e
  exact dd.typeIs
 ·obtain ⟨_,_,xs,_,dd⟩:=dt_rd I.hok e
  exact dd.typeIs
def sDPut (td ty tv:TE):TS:=fun D σ H=>tv σ H fun v H1=>td σ H1 fun x H2=>ty σ H2 fun y H3=>∃ a H4,x=.ref a/\DPut H3 a y v H4/\D.nx σ H4
section
variable {X:Cx} {o i value:Expr} {pos pos':Pos} {td ty tv:TE}
theorem ps_dput (hu:X.A.units+1<cLine) (ho:PE X o td) (hi:PE X i ty) (hv:PE X value tv) (hs:swapsWith value (some (.Subscript o i pos')) pos.line X.env=pure false) :
  PS X (.Assign [.Subscript o i pos'] value pos) (sDPut td ty tv):=by
 intro pins s σ H D I h
 refine wpAny_Assign_Subscript (thn (hv pins s σ H _ I h) fun r s1 hx5=>L2.ex2 hx5 fun v H1 I1 rv q1=>thn (ho pins s1 σ H1 _ I1 q1) fun u s2 hx5=>L2.ex2 hx5 fun x H2 I2 rx q2=>thn (hi pins s2 σ H2 _ I2 q2) fun iv s3 hx9=>?_) hs
 obtain ⟨y,H3,I3,ry,a,H4,ex,g,q3⟩:=hx9
 subst ex
 obtain rfl:u=Value.ref a:=rx
 exact d_setItem hu I3 g ry rv fun s4 I4=>⟨σ,H4,I4,q3⟩
end
theorem dk_empty {P:Program} (h:Heap) (hb:sysModules<h.objs.size):ObjOk P w H (h.push { cls:=.type "dict",data:=.dict #[] }) h.objs.size (.dK []) :=
 ⟨xao _,beq_eq_false_iff_ne.mpr (Ne.symm (xav hb)),[],.nil,Heap.DictOf.new h⟩
theorem dt_empty {P:Program} (h:Heap) (hb:sysModules<h.objs.size):ObjOk P w H (h.push { cls:=.type "dict",data:=.dict #[] }) h.objs.size (.dT []) :=
 ⟨xao _,beq_eq_false_iff_ne.mpr (Ne.symm (xav hb)),[],.nil,_,#[],0,xaw _ rfl,⟨rfl,rfl,rfl⟩,rfl,rfl,xay⟩
def tDNewK:TE:=fun _ H Q=>∀ p,H p=none->Q (.ref p) (upd H p (.dK []))
def tDNewT:TE:=fun _ H Q=>∀ p,H p=none->Q (.ref p) (upd H p (.dT []))
section
variable {X:Cx} {pos:Pos}
theorem pe_dnewK:PE X (.Dict [] [] pos) tDNewK:=fun pins s σ H Q I h =>
 wpAny_Dict_empty ⟨.ref s.heap.objs.size,_,I.laid (a:=s.heap.objs.size) (o:=.dK []) (t':=s.toks) (fun _ _ q=>xaj _ q) (xae _) (dk_empty s.heap I.big),rfl,h _ (I.hok.fresh (xae _))⟩
theorem pe_dnewT:PE X (.Dict [] [] pos) tDNewT:=fun pins s σ H Q I h =>
 wpAny_Dict_empty ⟨.ref s.heap.objs.size,_,I.laid (a:=s.heap.objs.size) (o:=.dT []) (t':=s.toks) (fun _ _ q=>xaj _ q) (xae _) (dt_empty s.heap I.big),rfl,h _ (I.hok.fresh (xae _))⟩
end
def tPairs:List (TE × TE)->St->Hp->(List (V × V)->Hp->Prop)->Prop
 | [],_,H,Q=>Q [] H
 | (tk,tv) :: r,σ,H,Q=>tk σ H fun x H1=>tv σ H1 fun y H2=>tPairs r σ H2 fun ps H3=>Q ((x,y) :: ps) H3
abbrev VV:List (V × V)->List (Value × Value)->Prop:=Paired fun p q=>RelV p.1 q.1/\RelV p.2 q.2
def PPs (X:Cx) (pos:Pos) (keys:List (Option Expr)) (values:List Expr) (trs:List (TE × TE)):Prop :=
 ∀ (pins:List (Addr × Obj)) (s:Shared) (σ:St) (H:Hp) (Q:List (V × V)->Hp->Prop),Inv X pins σ H s->tPairs trs σ H Q ->
  wpAny (model X.prog X.w) X.A (evalPairs (pairTrees keys values X.env pos)) (fun vs s'=>∃ ps H',Inv X pins σ H' s'/\VV ps vs/\Q ps H') X.xe s
theorem pps_nil {X:Cx}:PPs X pos [] [] []:=fun pins s σ H Q I h=>pairTrees_nil_walk ⟨[],H,I,.nil,h⟩
theorem pps_cons {X:Cx} (hk:PE X k tk) (hv:PE X v tv) (hr:PPs X pos ks vs trs) :
  PPs X pos (some k :: ks) (v :: vs) ((tk,tv) :: trs):=fun pins s σ H Q I h =>
 pairTrees_cons_walk (thn (hk pins s σ H _ I h) fun u s1 hx5=>L2.ex2 hx5 fun x H1 I1 rx q1=>thn (hv pins s1 σ H1 _ I1 q1) fun w2 s2 hx5=>L2.ex2 hx5 fun y H2 I2 ry q2 =>
  thn (hr pins s2 σ H2 _ I2 q2) fun ws s3 hx5=>L2.ex2 hx5 fun ps H3 I3 rel q3=>⟨(x,y) :: ps,H3,I3,.cons ⟨rx,ry⟩ rel,q3⟩)
def mergeK (kvs more:List (Key × V)):List (Key × V):=more.foldl (fun acc kv=>putK acc kv.1 kv.2) kvs
theorem KV.merge:∀ {more:List (Key × V)} {rs:List (Key × Value)} {kvs:List (Key × V)} {vs:List (Key × Value)},KV more rs->KV kvs vs->KV (mergeK kvs more) (merged vs rs):=by
 intro more rs kvs vs r
 unfold KV at r
 induction r generalizing kvs vs with
 | nil=>intro q; exact q
 | @cons p q ps qs h t ih =>
  intro r0
  have e:KV (putK kvs p.1 p.2) (stored vs q.1 q.2):=by
   have:=r0.put p.1 h.2
   rw [<- h.1]; exact this
  exact ih e
theorem length_mergeK:∀ (more kvs:List (Key × V)),(mergeK kvs more).length<=kvs.length+more.length
 | [],kvs=>by show kvs.length<=kvs.length+0; lia
 | p :: r,kvs=>by
  have h1:=length_mergeK r (putK kvs p.1 p.2)
  have h2:=length_putK kvs p.1 p.2
  show (mergeK (putK kvs p.1 p.2) r).length<=_
  rw [xaH]; lia
theorem carries_of {P:Program}:∀ {kvs:List (Key × V)} {ws:List (Value × Value)},VV (kvs.map fun kv=>(kV kv.1,kv.2)) ws->∃ rs,Carries (mixKind P w) ws rs/\KV kvs rs
 | [],_,r=>by rw [List.map_nil] at r; cases r; exact ⟨[],True.intro,.nil⟩
 | p :: kvs,_,r=>by
  rw [xat] at r
  cases r with
  | @cons a b as bs h t =>
   obtain ⟨rs,c,q⟩:=carries_of (P:=P) (w:=w) t
   obtain ⟨b1,b2⟩:=b
   exact ⟨(p.1,b2) :: rs,⟨kV_is h.1,rfl,c⟩,.cons ⟨rfl,h.2⟩ q⟩
def tDisp (trs:List (TE × TE)):TE:=fun σ H Q=>∀ p,H p=none->tPairs trs σ (upd H p (.dK [])) fun ps H2=>H2 p=some (.dK [])/\∃ kvs:List (Key × V),ps=kvs.map (fun kv=>(kV kv.1,kv.2))/\kvs.length<=15/\Q (.ref p) (upd H2 p (.dK (mergeK [] kvs)))
theorem pe_disp {X:Cx} (h:PPs X pos keys values trs) (hall:keys.all (·.isSome)=true) (hl:keys.length=values.length) (h0:keys≠[])
  (h15:keys.length<=15):PE X (.Dict keys values pos) (tDisp trs):=by
 intro pins s σ H Q I q
 have hn:=I.hok.fresh (xae s.heap.objs.size)
 have I1:=I.laid (a:=s.heap.objs.size) (o:=.dK []) (h':=s.heap.push { cls:=.type "dict",data:=.dict #[] }) (t':=s.toks) (fun _ _ q=>xaj _ q) (xae _) (dk_empty s.heap I.big)
 refine wpAny_Dict_walk (knd:=mixKind X.prog X.w) hall hl h0 h15 (thn (h pins _ σ _ _ I1 (q _ hn)) fun ws s2 hx9=>?_)
 obtain ⟨ps,H2,I2,rel,e,kvs,ep,lk,q2⟩:=hx9
 subst ep
 obtain ⟨rs,c,rk⟩:=carries_of (P:=X.prog) (w:=X.w) rel
 obtain ⟨z,hd,vs0,r0,dd⟩:=dk_of I2.hok e
 cases r0
 refine ⟨rs,c,dd,fun h' dd' hs=>⟨.ref s.heap.objs.size,_,?_,rfl,q2⟩⟩
 have hz:(mergeK [] kvs).length<=sizeLine:=by
  have h1:=length_mergeK kvs []
  rw [List.length_nil] at h1
  rw [sizeLine_eq]; lia
 have he:∃ q,h'.get? s.heap.objs.size=some q:=let ⟨q,_,_,hq,_⟩:=dd'; ⟨q,hq⟩
 exact d_write I2 (by rw [e]; exact True.intro) hs he (dk_new hz hd (rk.merge .nil) dd')
structure M1 (X:Cx) (o:Expr) (m:Str) (apos:Pos) (e:Expr) (cpos:Pos):Prop where
 base:attributeBase o m X.env (eval o X.env)=eval o X.env
 few:((backTo cpos (starEach [e] X.env)).all (fun x=>!x.1) && (backToKw cpos (keywordEach [] X.env)).all (fun x=>x.1.isSome)
  && decide (([e]:List Expr).length+([]:List Keyword).length+(if ([]:List Keyword).isEmpty then 0 else 1)<30))=true
 line:(apos.endLine == cpos.line)=true
 trees:backTo cpos (starEach [e] X.env)=[(false,eval e X.env)]
structure M2 (X:Cx) (o:Expr) (m:Str) (apos:Pos) (e f:Expr) (cpos:Pos):Prop where
 base:attributeBase o m X.env (eval o X.env)=eval o X.env
 few:((backTo cpos (starEach [e,f] X.env)).all (fun x=>!x.1) && (backToKw cpos (keywordEach [] X.env)).all (fun x=>x.1.isSome)
  && decide (([e,f]:List Expr).length+([]:List Keyword).length+(if ([]:List Keyword).isEmpty then 0 else 1)<30))=true
 line:(apos.endLine == cpos.line)=true
 trees:backTo cpos (starEach [e,f] X.env)=[(false,eval e X.env),(false,eval f X.env)]
def IsD (H:Hp) (a:Addr):Prop:=(∃ kvs,Rd H a (.dK kvs))\/∃ kvs,Rd H a (.dT kvs)
theorem isD_at {X:Cx} (I:Inv X pins σ H s) (d:IsD H a) :
  s.TypeIs (.ref a) "dict"/\(∀ b,Value.ref a=.ref b->∃ ob,s.heap.get? b=some ob/\ob.dict=none)/\(a == sysModules)=false:=by
 rcases d with ⟨kvs,e⟩ | ⟨kvs,e⟩
 ·obtain ⟨_,hd,vs,_,dd⟩:=dk_rd I.hok e
  refine ⟨dd.typeIs,fun b q=>?_,hd⟩
  cases q
  obtain ⟨ob,_,_,h1,h2,_⟩:=dd
  exact ⟨ob,h1,h2.2.1⟩
 ·obtain ⟨_,hd,xs,_,dd⟩:=dt_rd I.hok e
  refine ⟨dd.typeIs,fun b q=>?_,hd⟩
  cases q
  obtain ⟨ob,_,_,h1,h2,_⟩:=dd
  exact ⟨ob,h1,h2.2.1⟩
section
variable {X:Cx} {pins:List (Addr × Obj)} {σ:St} {H:Hp} {s:Shared} {a:Addr} {y d:V} {u r:Value} {o:Option V} {A:Around} {E:Value->Shared->Prop}
theorem d_get1 (hu:A.units+1<cLine) (I:Inv X pins σ H s) (g:DGet H a y o) (ry:RelV y u) (h:∀ w' s',Inv X pins σ H s'->RelV (o.getD .non) w'->Q w' s') :
  wpAny (model X.prog X.w) A (call (.builtin "dict.get") [.ref a,u]) Q E s:=by
 rcases g with ⟨kvs,k,e,ey,l⟩ | ⟨kvs,k,b,e,ey,eb,l⟩
 ·subst ey
  obtain ⟨z,hd,vs,rel,dd⟩:=dk_rd I.hok e
  refine call_meetsIn PySem.F.slot_dict_get dd.typeIs PySem.F.entry_dict_get (PySem.F.args_dict_get_2 _ _) (meets_dict_get (mixKind X.prog X.w) a (kV_is ry) hd) ⟨_,dd.mapOf,h _ _ (I.tok _) ?_⟩
  rw [l]
  exact (rel.val k).getD rfl
 ·subst ey
  cases (show u=Value.ref b from ry)
  obtain ⟨z,hd,xs,rel,dd⟩:=dt_rd I.hok e
  refine call_meetsIn PySem.F.slot_dict_get dd.typeIs PySem.F.entry_dict_get (PySem.F.args_dict_get_2 _ _) (meetsH_dict_get (tupleKind (mixKind X.prog X.w)) a b hd) ⟨tupleKind_room_in1 hu,k,xs,key_of I.hok eb,dd,h _ _ (I.tok _) ?_⟩
  rw [l]
  exact (rel.val k).getD rfl
theorem d_get2 (hu:A.units+1<cLine) (I:Inv X pins σ H s) (g:DGet H a y o) (ry:RelV y u) (rd:RelV d r) (h:∀ w' s',Inv X pins σ H s'->RelV (o.getD d) w'->Q w' s') :
  wpAny (model X.prog X.w) A (call (.builtin "dict.get") [.ref a,u,r]) Q E s:=by
 rcases g with ⟨kvs,k,e,ey,l⟩ | ⟨kvs,k,b,e,ey,eb,l⟩
 ·subst ey
  obtain ⟨z,hd,vs,rel,dd⟩:=dk_rd I.hok e
  refine call_meetsIn PySem.F.slot_dict_get dd.typeIs PySem.F.entry_dict_get (PySem.F.args_dict_get_3 _ _ _) (meets_dict_get_default (mixKind X.prog X.w) a (kV_is ry) hd r) ⟨_,dd.mapOf,h _ _ (I.tok _) ?_⟩
  rw [l]
  exact (rel.val k).getD rd
 ·subst ey
  cases (show u=Value.ref b from ry)
  obtain ⟨z,hd,xs,rel,dd⟩:=dt_rd I.hok e
  refine call_meetsIn PySem.F.slot_dict_get dd.typeIs PySem.F.entry_dict_get (PySem.F.args_dict_get_3 _ _ _) (meetsH_dict_get_default (tupleKind (mixKind X.prog X.w)) a b hd r) ⟨tupleKind_room_in1 hu,k,xs,key_of I.hok eb,dd,h _ _ (I.tok _) ?_⟩
  rw [l]
  exact (rel.val k).getD rd
end
def tDGet1 (td ty:TE):TE:=fun σ H Q=>td σ H fun x H1=>∃ a,x=.ref a/\IsD H1 a/\ty σ H1 fun y H2=>∃ o,DGet H2 a y o/\Q (o.getD .non) H2
def tDGet2 (td ty tx:TE):TE:=fun σ H Q=>td σ H fun x H1=>∃ a,x=.ref a/\IsD H1 a/\ty σ H1 fun y H2=>tx σ H2 fun z H3=>∃ o,DGet H3 a y o/\Q (o.getD z) H3
section
variable {X:Cx} {o e f:Expr} {apos cpos:Pos} {td ty tx:TE}
theorem pe_dget1 (hu:X.A.units+1<cLine) (ho:PE X o td) (he:PE X e ty) (m:M1 X o "get" apos e cpos):PE X (.Call (.Attribute o "get" apos) [e] [] cpos) (tDGet1 td ty):=by
 intro pins s σ H Q I h
 refine wpAny_Call_method m.base m.few m.line PySem.F.plainAttrs_dict PySem.F.slot_dict_get PySem.F.type_dict_get (thn (ho pins s σ H _ I h) fun u s1 hx9=>?_)
 obtain ⟨x,H1,I1,rx,a,ex,d,q1⟩:=hx9
 subst ex
 obtain rfl:u=Value.ref a:=rx
 obtain ⟨t1,t2,_⟩:=isD_at I1 d
 refine ⟨t1,t2,?_⟩
 rw [m.trees]
 refine Calls.callWith_builtin rfl (Calls.evalArgs_plain (Calls.spliced_cons (thn (he pins s1 σ H1 _ I1 q1) fun iv s2 ⟨y,H2,I2,ry,ov,g,q2⟩=>Calls.spliced_nil ?_)))
 exact d_get1 hu I2 g ry fun w' s3 I3 rw'=>⟨_,H2,I3,rw',q2⟩
theorem pe_dget2 (hu:X.A.units+1<cLine) (ho:PE X o td) (he:PE X e ty) (hf:PE X f tx) (m:M2 X o "get" apos e f cpos):PE X (.Call (.Attribute o "get" apos) [e,f] [] cpos) (tDGet2 td ty tx):=by
 intro pins s σ H Q I h
 refine wpAny_Call_method m.base m.few m.line PySem.F.plainAttrs_dict PySem.F.slot_dict_get PySem.F.type_dict_get (thn (ho pins s σ H _ I h) fun u s1 hx9=>?_)
 obtain ⟨x,H1,I1,rx,a,ex,d,q1⟩:=hx9
 subst ex
 obtain rfl:u=Value.ref a:=rx
 obtain ⟨t1,t2,_⟩:=isD_at I1 d
 refine ⟨t1,t2,?_⟩
 rw [m.trees]
 refine Calls.callWith_builtin rfl (Calls.evalArgs_plain (Calls.spliced_cons (thn (he pins s1 σ H1 _ I1 q1) fun iv s2 hx5=>L2.ex2 hx5 fun y H2 I2 ry q2 =>
  Calls.spliced_cons (thn (hf pins s2 σ H2 _ I2 q2) fun fv s3 ⟨z,H3,I3,rz,ov,g,q3⟩=>Calls.spliced_nil ?_))))
 exact d_get2 hu I3 g ry rz fun w' s4 I4 rw'=>⟨_,H3,I4,rw',q3⟩
end
end L2
namespace Att
open PySem PySem.W PySem.Calls PyProof.Rows
theorem ints_of_wellAll {P:Params}:∀ (ns:List Int) (vs:List Value),WellAll P h vs (ns.map WData.int)->IntsAre vs ns:=by
 intro ns
 induction ns with
 | nil =>
  intro vs w
  rw [List.map_nil] at w
  cases w
  exact .nil
 | cons n ns ih =>
  intro vs w
  rw [xat] at w
  cases w with
  | cons a b =>
   cases a
   exact .cons _ _ (ih _ b)
theorem script_of {l:OpenLaw} {n:Nat} (hn:l.most=some n) {P:Params} {h:Heap} {args:List WData} {vals:List Value}
  (hpre:l.row.toRowW.claim.pre args=true) (hwl:WellAll P h vals args) :
  ∃ a vs ns,vals=[Value.ref a]/\args=[WData.list (ns.map WData.int)]/\h.get? a=some { cls:=.type "list",data:=.seq vs.toArray }/\IntsAre vs ns/\ns.length<=n:=by
 have hsh:WShape.hasAll [] args [.list .int]=true:=(pre_splitW hpre).1
 have hc:l.pre.holds [] { args:=args }=true:=(pre_splitW hpre).2
 obtain ⟨d,r,rfl,h1,h2⟩:=hasAllW_cons hsh
 obtain rfl:=hasAllW_nil h2
 obtain ⟨xs,rfl,h3⟩:=hasW_list h1
 obtain ⟨ns,rfl⟩:=items_int h3
 have hlen:ns.length<=n:=by
  unfold OpenLaw.pre at hc
  have h4:(WTm.not (.lt (.lit (.int (n:Int))) (.len (.arg 0)))).holds [] { args:=[.list (ns.map .int)] }=true:=by
   have h4:=(holds_andW hc).1
   rw [hn] at h4
   exact h4
  have h5:=condW_of h4 (w_not (w_lt w_lit (w_len_list (w_arg rfl))))
  rw [xab] at h5
  refine xbA fun q=>?_
  have q':(n:Int)<((ns.length:Nat):Int):=by lia
  first
   | (rw [decide_eq_true q'] at h5; exact absurd h5 (by decide))
   | (simp at h5; lia)
 cases hwl with
 | cons w1 w2 =>
  cases w2
  cases w1 with
  | list ho hall=>exact ⟨_,_,ns,rfl,rfl,ho,ints_of_wellAll ns _ hall,hlen⟩
theorem post_true (l:OpenLaw) (args:List WData):l.row.toRowW.claim.post args (.bool true) args=true :=
 postW_of (r:=l.row.toRowW) (X:=(true == true))
  (show WShape.has [] (.bool true) .bool=true by first | rfl | decide | simp [WShape.has,WShape.arms,WShape.armsAll])
  (show (WTm.eq .res (.lit (.bool true))).value [] { args:=args,res:=some (.bool true),after:=args }=some (.bool (true == true)) from w_eq_bool (w_res rfl) w_lit) rfl
theorem attach_call {l:OpenLaw} {n:Nat} {q:Program} {loose:List Str} {XP:(Str->Option Value)->Heap->Prop} {YP:World->Heap->Prop} {d:DefRec}
  (hn:l.most=some n) (hdf:d.params.defaults=[])
  (call:∀ (w:World) (s₀ s₁:Shared) (mg mb:Str->Option Value) (fa:Addr) (o:Obj) (pm cd doc:Value) (a:Addr) (vs:List Value) (ns:List Int),
   Ground q loose [] XP w s₀ mg mb s₁.heap->YP w s₁.heap ->
   s₁.heap.get? fa=some o->o.data=.func (docDef d.name d.params d.body d.scope pm cd doc)->s₁.heap.CodeRec cd d.name->mg d.name=some (.ref fa) ->
   s₁.heap.get? a=some { cls:=.type "list",data:=.seq vs.toArray }->IntsAre vs ns->ns.length<=n->s₁.gens = #[] ->
   codeAny (model l.prog w) callerA (.call (.ref fa) ⟨[.ref a],[]⟩) (fun r s'=>r=.ok (.ret (.bool true))/\OldK s₁.heap s'.heap/\s'.os=s₁.os/\AllBare s'.gens) s₁) :
  WalkO q loose XP YP l.row.toRowW d [] (fun f vs=>PySem.call f vs):=by
 intro w s₀ s₁ mg mb G Y fa o pm cd doc dV kV ho hd hcd hD hmg hg args vals as hpre hlay hrd hwl hlo
 obtain rfl:dV=.none:=Dflts.none hD hdf
 obtain rfl:kV=.none:=Dflts.noKw hD
 obtain ⟨a,vs,ns,rfl,rfl,hobj,hints,hlen⟩:=script_of hn hpre hwl
 refine enter_call (codeAny_mono (call w s₀ s₁ mg mb fa o pm cd doc a vs ns G Y ho (fd_plain hd) hcd hmg hobj hints hlen hg) fun r s' hq=>?_)
 obtain ⟨rfl,h2,h3,h4⟩:=hq
 exact ⟨.inl ⟨.bool true,.bool true,[],rfl,fun _=>rfl,.bool true,post_true l _,fun _=>⟨List.Pairwise.nil,fun _ hm=>(nomatch hm)⟩⟩,h2,h3,h4⟩
end Att
namespace L2
open PySem PySem.Spec PyProof.Rows
theorem vals_ints:∀ {vs:List Value} {ns:List Int},IntsAre vs ns->Vals (ns.map V.int) vs
 | _,_,.nil=>.nil
 | _,_,.cons n t h=>.cons ⟨t,rfl⟩ (vals_ints h)
def Only (H:Hp):Prop:=∀ b,H b=none\/∃ o xs,H b=some (.frz o (.lst xs))
theorem law_call {P:Program} {K:PySem.W.Frag}
  (KX:K.In s₁.heap) (hns:s₁.heap.Ns mainGlobals mg) (hb:s₁.heap.Ns builtinsNs mb) (hbb:∀ x:Str,x ≠ "__name__"->mb x=bootBuiltins x) (hlim:s₁.heap.NoLimit) (hg:s₁.gens = #[])
  (ha:s₁.heap.get? a=some { cls:=.type "list",data:=.seq vs.toArray }) (hi:IntsAre vs ns) (hl:ns.length<=sizeLine) (hr:Room k callerA)
  (F:∀ base:Heap,K.In base->base.Ns mainGlobals mg->FnOk P w K mg base CX k fa fd [x] sp) (hbind:∀ (s:Shared) (u:Value),BindsTo s fd ⟨[u],[]⟩ [(x,u)])
  (hsp:∀ H:Hp,Only H->SqL K H a (ns.map V.int)->sp [.ref a] H (fun v _=>v=.bl true) fun _ _ _=>False)
  (hCX:∀ H e s',CX [] H s₁ (fun _ _ _=>False) e s'->False) :
  codeAny (model P w) callerA (.call (.ref fa) ⟨[.ref a],[]⟩) (fun r s'=>r=.ok (.ret (.bool true))/\OldK s₁.heap s'.heap/\s'.os=s₁.os/\AllBare s'.gens) s₁:=by
 have rv:=vals_ints hi
 have lenV:=hi.length
 -- from an abstract heap in which nothing but the script may be tracked
 have core:∀ H:Hp,Only H->SqL K H a (ns.map V.int)->HOk P w H s₁.heap->(∀ b,H b≠none->b=a)->(H a≠none->K.lookup a=none) ->
   codeAny (model P w) callerA (.call (.ref fa) ⟨[.ref a],[]⟩) (fun r s'=>r=.ok (.ret (.bool true))/\OldK s₁.heap s'.heap/\s'.os=s₁.os/\AllBare s'.gens) s₁:=by
  intro H hO hS hok hA hK
  have base_of:∀ {b:Addr} {o:Obj},s₁.heap.get? b=some o->H b=none->(hidT s₁.heap H).get? b=some o:=fun e n=>hidT_get e n
  have noA:∀ {b:Addr} {o:Obj} {es:Array DictEntry} {ep:Nat},s₁.heap.get? b=some o->o.data=.dict es ep->H b=none:=fun {b o es ep} e d=>by
   cases q:H b with
   | none=>rfl
   | some u =>
    have e':b=a:=hA b (by rw [q]; simp)
    subst e'
    rw [ha] at e; cases e
    have d':Data.seq vs.toArray _=Data.dict es ep:=d
    cases d'
  have nsK:∀ {b:Addr} {m:Str->Option Value},s₁.heap.Ns b m->(hidT s₁.heap H).Ns b m:=fun {b m} ⟨o,es,ep,e,d,r⟩=>⟨o,es,ep,base_of e (noA e d),d,r⟩
  have hKb:K.In (hidT s₁.heap H):=fun b o e=>base_of (KX b o e) (by
   cases q:H b with
   | none=>rfl
   | some u =>
    have e':b=a:=hA b (by rw [q]; simp)
    subst e'
    rw [hK (by rw [q]; simp)] at e; cases e)
  have hM:Mod K mg (hidT s₁.heap H):=⟨hKb,nsK hns,⟨mb,nsK hb,hbb⟩,let ⟨mc,h1,h2⟩:=hlim; ⟨mc,nsK h1,h2⟩⟩
  have e0:Env0 P w K mg (hidT s₁.heap H) callerA [] s₁ H:=⟨rfl,hM,fun b o e=>of_hidT e,xb9 (hidT_size _ _),trivial,fun b hb=>absurd (show b∈([]:List Addr) from hb) (by simp),hok,.of_eq hg⟩
  refine codeAny_mono ((F _ hKb (nsK hns)).run callerA [] s₁ H ⟨[.ref a],[]⟩ [.ref a] [.ref a] _ _ hr e0 (hbind s₁ (.ref a)) (.cons rfl .nil) (hsp H hO hS)) fun r s' h=>?_
  cases r with
  | error e=>exact (hCX H e s' h).elim
  | ok fl =>
   cases fl with
   | next=>exact False.elim h
   | brk=>exact False.elim h
   | cont=>exact False.elim h
   | ret u =>
    obtain ⟨v,H',os,bare,un,hok',r',q⟩:=h
    have q':v=.bl true:=q
    subst q'
    obtain rfl:u=Value.bool true:=r'
    refine ⟨rfl,OldK.of_keep fun b o e=>?_,os,bare⟩
    cases q:H b with
    | none=>exact un.keep b o e q (by intro z; exact absurd (show b∈([]:List Addr) from z) (by simp)) (by simp)
    | some u =>
     rcases hO b with z | ⟨ob,xs,z⟩
     ·rw [q] at z; cases z
     ·have z2:=un.frzs b ob _ z
      obtain ⟨e1,_⟩:=hok b _ z
      obtain ⟨e2,_⟩:=hok' b _ z2
      rw [e] at e1; cases e1
      exact e2
 cases hk:K.lookup a with
 | some o =>
  -- the script is one of the module's own objects
  have e:=KX a o hk
  rw [ha] at e
  cases e
  refine core (fun _=>none) (fun _=>.inl rfl) (.inr ⟨_,vs.toArray,_,hk,rfl,rfl,rfl,by rw [xal,lenV]; exact hl,by simpa using rv⟩) (fun b u z=>by have z':(none:Option HO)=some u:=z; cases z') (fun b z=>absurd rfl z) fun z=>absurd rfl z
 | none =>
  refine core (fun b=>if b=a then some (.frz { cls:=.type "list",data:=.seq vs.toArray } (.lst (ns.map V.int))) else none) (fun b=>?_) (.inl (.inr ⟨{ cls:=.type "list",data:=.seq vs.toArray },if_pos rfl⟩)) (fun b u z=>?_) (fun b z=>?_) fun _=>hk
  ·by_cases hb:b=a
   ·exact .inr ⟨_,_,if_pos hb⟩
   ·exact .inl (if_neg hb)
  ·by_cases hb:b=a
   ·have z':=(if_pos hb).symm.trans z
    cases z'
    subst hb
    exact ⟨ha,by rw [xab]; exact hl,vs,_,rv,ha⟩
   ·have z':=(if_neg hb).symm.trans z
    cases z'
  ·by_cases hb:b=a
   ·exact hb
   ·exact absurd (if_neg hb) z
theorem walk_of {l:PySem.W.OpenLaw} {n k:Nat} {q:Program} {loose:List Str} {XP:(Str->Option Value)->Heap->Prop} {YP:World->Heap->Prop} {d:DefRec} {K:Params->PySem.W.Frag} {CX:World->CXT} {sp:World->Sp} {x:Str}
  (hn:l.most=some n) (hn2:n<=sizeLine) (hdf:d.params.defaults=[]) (hr:Room k callerA)
  (hY:∀ (w:World) (h:Heap),YP w h->(K w.params).In h)
  (F:∀ (w:World) (mg:Str->Option Value) (fa:Addr) (h:Heap),(K w.params).In h->h.Ns mainGlobals mg->mg d.name=some (.ref fa) ->
   ∃ fd:FuncData,(∀ (s:Shared) (u:Value),BindsTo s fd ⟨[u],[]⟩ [(x,u)]) /\
    ∀ base:Heap,(K w.params).In base->base.Ns mainGlobals mg->FnOk l.prog w (K w.params) mg base (CX w) k fa fd [x] (sp w))
  (hsp:∀ (w:World) (H:Hp) (a:Addr) (ns:List Int),ns.length<=n->Only H->SqL (K w.params) H a (ns.map V.int)->sp w [.ref a] H (fun v _=>v=.bl true) fun _ _ _=>False)
  (hCX:∀ (w:World) (H:Hp) (s:Shared) (e:Value) (s':Shared),CX w [] H s (fun _ _ _=>False) e s'->False) :
  PySem.W.WalkO q loose XP YP l.row.toRowW d [] (fun f vs=>PySem.call f vs):=by
 refine Att.attach_call hn hdf fun w s₀ s₁ mg mb fa o pm cd doc a vs ns G Y ho hd hcd hmg hobj hints hlen hg=>?_
 have KX:=hY w _ Y
 obtain ⟨fd,hb,hF⟩:=F w mg fa _ KX G.T.g hmg
 exact law_call KX G.T.g G.T.b G.T.builtins G.T.nolimit hg hobj hints (xaA hlen hn2) hr hF hb (fun H hO hS=>hsp w H a ns hlen hO hS) fun H e s'=>hCX w H s₁ e s'
def defArgs (s:Stmt):Arguments:=match s with
 | .FunctionDef _ a _ _ _ _ _ _ _ _=>a
 | _=>{ posonlyargs:=[],args:=[],vararg:=none,kwonlyargs:=[],kw_defaults:=[],kwarg:=none,defaults:=[] }
def defBody (s:Stmt):List Stmt:=match s with
 | .FunctionDef _ _ b _ _ _ _ _ _ _=>b
 | _=>[]
def defScope (s:Stmt):Scope:=match s with
 | .FunctionDef _ _ _ _ _ _ sc _ _ _=>sc
 | _=>{ kind:=.function,names:=[],isGenerator:=false,isCoroutine:=false }
abbrev CX0:CXT:=fun _ _ _ _ _ _=>False
abbrev E0:XK:=fun _ _ _=>False
theorem pass0 {X:Cx}:Passes CX0 X E0:=fun _ _ _ _ _ _ _ h=>h.elim
structure Fun (K:PySem.W.Frag) (x qual:Str) (st:Stmt) (f:Addr) (fd:FuncData):Prop where
 ex:∃ (oc:Value) (od:Option Addr) (kV doc pm:Value) (an:Option Addr) (cdv ct:Value) (osl:Array (Option Value)),
  fd=PySem.W.fnOf x qual (defArgs st) (defBody st) (defScope st) .none kV doc pm an cdv ct/\K.lookup f=some ⟨oc,od,.func fd,osl⟩/\PySem.W.codeIn K cdv qual=true
 kp:PySem.W.keepIn K (.ref f)=true
section
variable {P:Program} {w:World} {K:PySem.W.Frag} {mg:Str->Option Value} {base:Heap}
theorem Fun.ok {st:Stmt} {N ps:List Str} (F:Fun K x qual st f fd) (S:FnScope N ps (defScope st)) (len:∀ vs H Q E,sp vs H Q E->vs.length=ps.length)
  (hbody:∀ (cdv:Value) (A:Around) (outer:List Env) (s:Shared) (H:Hp) (vs:List V) (Q:VK) (E:XK),Room k (A.deeper (envOfC qual (defScope st) s.heap.objs.size f cdv))->sp vs H Q E ->
   ∃ t,PSs (cxOf CX0 P w K mg base N qual (defScope st) f cdv A outer s H E).nox (defBody st) t/\t { nx:=fun _ H'=>Q .non H',rt:=Q } (start N vs) H):FnOk P w K mg base CX0 (k+1) f fd ps sp:=by
 obtain ⟨oc,od,kV,doc,pm,an,cdv,ct,osl,rfl,lk,hcd⟩:=F.ex
 refine fn_of lk hcd S len fun A outer s H vs Q E hr hsp=>?_
 obtain ⟨t,h,q⟩:=hbody cdv A outer s H vs Q E hr hsp
 exact ⟨t,h.nox,q⟩
theorem Fun.binds {st:Stmt} {ps:List Str} (F:Fun K x qual st f fd)
  (h:∀ (kV doc pm:Value) (an:Option Addr) (cdv ct:Value) (us:List Value),us.length=ps.length->bindArgs (PySem.W.fnOf x qual (defArgs st) (defBody st) (defScope st) .none kV doc pm an cdv ct) ⟨us,[]⟩=pure (ps.zip us)):Binds K fd ps []:=by
 obtain ⟨oc,od,kV,doc,pm,an,cdv,ct,osl,rfl,lk,hcd⟩:=F.ex
 exact .all (h kV doc pm an cdv ct)
theorem fun_mk {st:Stmt} {kV doc pm cdv ct:Value} (l:K.lookup f=some ⟨oc,od,.func (PySem.W.fnOf x qual (defArgs st) (defBody st) (defScope st) .none kV doc pm an cdv ct),osl⟩)
  (c:PySem.W.codeIn K cdv qual=true) (k:PySem.W.keepIn K (.ref f)=true):Fun K x qual st f (PySem.W.fnOf x qual (defArgs st) (defBody st) (defScope st) .none kV doc pm an cdv ct):=⟨⟨oc,od,kV,doc,pm,an,cdv,ct,osl,rfl,l,c⟩,k⟩
end
section
variable {X:Cx}
theorem pv (i:Nat) (hN:X.N[i]? = some x:=by rfl) (hv:Vis X.env.scope x:=by first | exact Or.inl rfl | exact Or.inr (Or.inl rfl) | exact Or.inr (Or.inr rfl)) (hd:(x == ("__debug__" : Str))=false:=by decide)
  (hcd:(x == ("__classdict__" : Str))=false:=by decide):PE X (.Name x pos) (tVar i):=pe_var hN hv hd hcd
end
def Same (H H':Hp):Prop:=∀ b o,H b=some o->H' b=some o
theorem Same.refl (H:Hp):Same H H:=fun _ _ h=>h
theorem Same.trans (a:Same H H1) (b:Same H1 H2):Same H H2:=fun c o h=>b c o (a c o h)
theorem Same.free (e:Same H H') (h:H' l=Option.none):H l=Option.none:=by
 cases q:H l with
 | none=>rfl
 | some o =>
  rw [e l o q] at h
  cases h
theorem Same.seq {K:PySem.W.Frag} (e:Same H H') (h:SqL K H a xs):SqL K H' a xs:=by
 rcases h with (h | ⟨o,h⟩) | h
 ·exact .inl (.inl (e _ _ h))
 ·exact .inl (.inr ⟨o,e _ _ h⟩)
 ·exact .inr h
end L2
set_option maxHeartbeats 4000000
namespace L2
open PySem PySem.Spec PyProof.Rows
def clOf (env:Env):List (Str × NameKind)->List (Str × Addr)->List (Str × Addr)
 | [],cs=>cs
 | (n,k) :: r,cs=>clOf env r (if k == NameKind.free then (n,(env.cells.lookup n).getD 0) :: cs else cs)
theorem fM (env:Env):∀ (names:List (Str × NameKind)) (cs:List (Str × Addr)),(∀ y∈names,y.2=.free->∃ c,env.cells.lookup y.1=some c) ->
  (forIn names cs fun x r=>match x with
   | (name,kind)=>if (kind == NameKind.free)=true then do let a <- cellOf env name; pure (ForInStep.yield ((name,a) :: r)) else pure (ForInStep.yield r):Sem (List (Str × Addr)))=pure (clOf env names cs)
 | [],cs,_=>rfl
 | (n,k) :: r,cs,h=>by
  rw [List.forIn_cons]
  have ih:=fM env r
  by_cases hk:k=.free
  ·subst hk
   obtain ⟨c,e⟩:=h (n,.free) xad rfl
   have e:env.cells.lookup n=some c:=e
   have e2:cellOf env n=pure c:=by unfold cellOf; rw [e]
   have e3:clOf env ((n,.free) :: r) cs=clOf env r ((n,c) :: cs):=by
    show clOf env r (if (NameKind.free == NameKind.free)=true then (n,(env.cells.lookup n).getD 0) :: cs else cs)=_
    rw [e]; rfl
   rw [e3,<- ih ((n,c) :: cs) fun y hy=>h y (xac _ hy)]
   simp only [beq_self_eq_true,if_true,e2]
   rfl
  ·have hb:(k == NameKind.free)=false:=by simpa using hk
   have e3:clOf env ((n,k) :: r) cs=clOf env r cs:=by
    show clOf env r (if (k == NameKind.free)=true then _ else cs)=_
    rw [hb]; rfl
   rw [e3,<- ih cs fun y hy=>h y (xac _ hy)]
   simp only [hb,xar,if_false]
   rfl
theorem lO (h:∀ y∈scope.names,y.2=.free->∃ c,env.cells.lookup y.1=some c):closureFor scope env=pure (clOf env scope.names []):=by
 have:=fM env scope.names [] h
 unfold closureFor
 rw [<- bind_pure (forIn scope.names [] _)] at this
 exact this
theorem lM:∀ {names:List (Str × NameKind)} {cs:List (Str × Addr)},(∀ y∈names,y.2=.free->∃ c,env.cells.lookup y.1=some c)->(∀ y d,cs.lookup y=some d->env.cells.lookup y=some d) ->
  (clOf env names cs).lookup x=some c->env.cells.lookup x=some c
 | [],cs,_,h,e=>h x c e
 | (n,k) :: r,cs,hf,h,e=>by
  refine lM (names:=r) (fun y hy=>hf y (xac _ hy)) ?_ e
  intro y d hd
  by_cases hk:k=.free
  ·subst hk
   obtain ⟨c',e'⟩:=hf (n,.free) xad rfl
   have e':env.cells.lookup n=some c':=e'
   simp only [beq_self_eq_true,if_true,e',Option.getD_some,xci] at hd
   cases hb:y == n with
   | true=>rw [hb] at hd; have:y=n:=eq_of_beq hb; subst this; rw [e']; exact hd
   | false=>rw [hb] at hd; exact h y d hd
  ·have hb:(k == NameKind.free)=false:=by simpa using hk
   simp only [hb,xar,if_false] at hd
   exact h y d hd
theorem iY:∀ {names:List (Str × NameKind)} {cs:List (Str × Addr)},((x,NameKind.free)∈names\/∃ c,cs.lookup x=some c)->∃ c,(clOf env names cs).lookup x=some c
 | [],cs,h=>by
  rcases h with h | h
  ·exact nomatch h
  ·exact h
 | (n,k) :: r,cs,h=>by
  refine iY (names:=r) ?_
  rcases h with h | ⟨c,h⟩
  ·rcases xam.mp h with e | h
   ·cases e
    refine .inr ⟨(env.cells.lookup x).getD 0,?_⟩
    simp only [beq_self_eq_true,if_true,xci]
   ·exact .inl h
  ·refine .inr ?_
   by_cases hk:(k == NameKind.free)=true
   ·simp only [hk,if_true,xci]
    cases hb:x == n with
    | true=>exact ⟨_,rfl⟩
    | false=>exact ⟨c,h⟩
   ·simp only [hk,if_false]
    exact ⟨c,h⟩
def bD (X:Cx) (scope:Scope) (C:Addr) (N:List Str) (fp:List Addr) (s₃:Shared) (H₃:Hp):Cx :=
 { X with N:=N,s₀:=s₃,H₀:=H₃,env:=compEnvC scope (clOf X.env scope.names []) C X.env,outer:=X.stack,stack:=X.stack,ex:=fp,fn:=fun _=>false,pn:=[],xe:=fun _ _=>False }
def PTs (X:Cx) (ifs:List Expr) (t:TT):Prop :=
 ∀ (pins:List (Addr × Obj)) (s:Shared) (σ:St) (H:Hp) (Q:Bool->Hp->Prop),Inv X pins σ H s->t σ H Q ->
  wpAny (model X.prog X.w) X.A (forIn ifs true fun c r=>if r=true then do let ok <- isTrue c X.env (eval c X.env); pure (ForInStep.yield ok) else pure (ForInStep.yield r)) (TP X pins σ Q) X.xe s
def tYes:TT:=fun _ H Q=>Q true H
theorem w6 {X:Cx}:PTs X [] tYes:=fun _ _ _ H _ I h=>wpAny_tests_nil ⟨H,I,h⟩
theorem eN {R:Result->Shared->Prop} (I:Nat->Shared->Prop) (E:Value->Shared->Prop)
  (turn:∀ n s,I n s->wpAny (model prog w) A (pyNext it) (fun r s₁=>match r with
   | none=>R (.ok .next) s₁
   | some v=>wpAny (model prog w) A (letOwnedTupleGo target it v) (fun _ s₀=>wpAny (model prog w) A (assign target env v) (fun _ s₂ =>
     wpAny (model prog w) A (forIn ifs true fun c r=>if r=true then do let ok <- isTrue c env (eval c env); pure (ForInStep.yield ok) else pure (ForInStep.yield r)) (fun ok s₃ =>
      if ok=true then wpAny (model prog w) A (eval elt env) (fun x s₄ =>
       wpAny (model prog w) A (call (.builtin "list.append") [acc,x]) (fun _ s₅=>∃ m,m<n/\I m s₅) E s₄) E s₃
      else ∃ m,m<n/\I m s₃) E s₂) E s₀) E s₁) E s)
  (hE:∀ e s',E e s'->notedBy (model prog w) A env (fun e s'=>R (.error e) s') e s')
  (n:Nat) (h:I n s) :
  codeAny (model prog w) A (.compLoop (.ListComp elt [⟨target,iter,ifs,0⟩] scope pos) 0 it acc env) R s:=by
 refine codeAny_loop rfl I (fun n s hI=>?_) n h
 show wpAny _ A ((compTurn (.ListComp elt [⟨target,iter,ifs,0⟩] scope pos) 0 it acc env).onRaise (fun x=>do noteFrame x env; theTreesLotGoes x)) _ _ s
 refine wpAny_noted ?_
 rw [compTurn_list]
 refine xaZ (Q:=_) (E:=E) ?_ (fun _ _ q=>q) hE
 refine xaa (wpAny_standAt (xaa (xaZ (turn n s hI) (fun r s₁ h₁=>?_) fun _ _ h'=>h')))
 cases r with
 | none=>exact xah h₁
 | some v =>
  refine xaa (xaZ h₁ (fun _ s₀ h₀=>?_) fun _ _ h'=>h')
  refine xaa (xaZ h₀ (fun _ s₂ h₂=>xaa (xaZ h₂ (fun ok s₃ h₃=>?_) fun _ _ h'=>h')) fun _ _ h'=>h')
  cases ok with
  | false=>exact xah ⟨rfl,h₃⟩
  | true =>
   exact xaa (xaa (xaZ h₃ (fun x s₄ h₄=>xaa (xaZ h₄ (fun _ s₅ h₅=>xah (xah ⟨rfl,h₅⟩)) fun _ _ h'=>h')) fun _ _ h'=>h'))
def jZ (tn:Nat) (ix:List Nat) (σ:St):St:=List.replicate tn none++ix.map fun j=>(σ[j]?).join
def vV (wi:TI) (g:TG) (tc:TT) (te:TE) (tn:Nat) (ix:List Nat):TE:=fun σ H Q=>wi σ H fun J H1=>∀ D,H1 D=none ->
 ∃ W:Nat->Nat->St->Hp->Prop,(∃ m,W 0 m (jZ tn ix σ) (upd H1 D (.lst [])))/\∀ i m τ H,W i m τ H ->
  (J.stop i H/\Q (.ref D) H)\/(J.go i H/\∃ (N1:St->V->Hp->Prop) (N2:St->Hp->Prop),
   (∀ τ2 v H4,N1 τ2 v H4->∃ ys m',H4 D=some (.lst ys)/\ys.length<sizeLine/\m'<m/\W (i+1) m' τ2 (upd H4 D (.lst (ys++[v])))) /\
   (∀ τ2 H3,N2 τ2 H3->∃ m',m'<m/\W (i+1) m' τ2 H3) /\
   ∀ x H',J.yld i H x H'->g x τ H' fun τ2 H2=>tc τ2 H2 fun b H3=>if b=true then te τ2 H3 (N1 τ2) else N2 τ2 H3)
section
variable {X:Cx} {tg iter elt:Expr} {ifs:List Expr} {scope:Scope} {pos:Pos} {wi:TI} {g:TG} {tc:TT} {te:TE} {tn cn:List Str} {ix:List Nat}
structure gA (X:Cx) (scope:Scope) (tn cn:List Str) (ix:List Nat):Prop where
 kind:scope.kind=.function
 nocell:∀ y∈scope.names,y.2≠.cell
 free:∀ y∈scope.names,y.2=.free->X.env.scope.names.lookup y.1=some .cell\/X.env.scope.names.lookup y.1=some .free
 names:∀ y∈scope.names,y.2=.local->scope.names.lookup y.1=some .local
 len:ix.length=cn.length
 cap:∀ (k j:Nat),ix[k]? = some j->∃ y,cn[k]? = some y/\X.N[j]? = some y/\(X.env.scope.names.lookup y=some .cell\/X.env.scope.names.lookup y=some .free)/\(y,NameKind.free)∈scope.names /\
  ((relabel scope X.env).names.lookup y=some .cell\/(relabel scope X.env).names.lookup y=some .free)
 all:∀ x,(relabel scope X.env).names.lookup x=some .cell\/(relabel scope X.env).names.lookup x=some .free->(x,NameKind.free)∈scope.names
theorem uF (O:gA X scope tn cn ix) (I:Inv X pins σ H s) (hf:∀ b∈fp,FpOk X pins H b) (hfs:∀ b∈fp,b<s.heap.objs.size) (hC:s.heap.objs.size<=C) :
  (bD X scope C (tn++cn) fp s H).Ok:=by
 have hcl:∀ y∈scope.names,y.2=.free->∃ c,X.env.cells.lookup y.1=some c:=fun y hy hk=>I.ok.has y.1 (O.free y hy hk)
 have sub:∀ x c,(clOf X.env scope.names []).lookup x=some c->X.env.cells.lookup x=some c:=fun x c e=>lM hcl (fun y d h=>by simp at h) e
 refine ⟨I.ok.mod,O.kind,I.ok.glob,I.ok.blt,hC,fun x y c h1 h2=>I.ok.inj x y c (sub x c h1) (sub y c h2),fun x hx=>iY (.inl (O.all x hx)),(fun x c h _=>nomatch h),I.ok.hd,I.ok.frames,.inl rfl,fun b hb=>⟨?_,fun x c e=>?_⟩,
  I.bs,xaA I.ok.bsz I.sz,fun b o e hb=>?_,fun b hb=>?_,I.stack,I.stkFree⟩
 ·exact xav (xap (hfs b hb) hC)
 ·exact (hf b hb).2.2.2.2.1 x c (sub x c e)
 ·rcases (hf b hb).2.2.2.1 with z | z
  ·exact I.ok.noex b o e z
  ·exact absurd (xap (xan e) (xaA I.ok.bsz z)) (xaT _)
 ·intro hz
  rcases xam.mp (I.stkSub b hz) with e | e
  ·exact (hf b hb).2.1 e
  ·exact (hf b hb).2.2.1 e
theorem uP {P:Value->Shared->Prop} (hc:X.calm=true) (hi:PI X tg iter wi) (O:gA X scope tn cn ix)
  (hg:∀ C fp s₃ H₃,PG (bD X scope C (tn++cn) fp s₃ H₃) tg g) (hcs:∀ C fp s₃ H₃,PTs (bD X scope C (tn++cn) fp s₃ H₃) ifs tc) (he:∀ C fp s₃ H₃,PE (bD X scope C (tn++cn) fp s₃ H₃) elt te)
  (hs:∀ x,foldedSetIterable iter X.env x=pure x) (I:Inv X pins σ H s) (h:vV wi g tc te tn.length ix σ H Q)
  (fin:∀ (C D:Addr) (m:Str->Option Value) (H5:Hp) (s6:Shared) (r:Flow),Inv X pins σ H5 s6->s6.heap.Ns C m->H5 C=none->FpOk X pins H5 C->Q (.ref D) H5->compPost (model X.prog X.w) X.A X.xe use P (.ref D) C (.ok r) s6) :
  wpAny (model X.prog X.w) X.A (comprehension (.ListComp elt [⟨tg,iter,ifs,0⟩] scope pos) scope X.env pos1 (newList []) false (eval iter X.env) use) P X.xe s:=by
 have hcl:∀ y∈scope.names,y.2=.free->∃ c,X.env.cells.lookup y.1=some c:=fun y hy hk=>I.ok.has y.1 (O.free y hy hk)
 have sub:∀ x c,(clOf X.env scope.names []).lookup x=some c->X.env.cells.lookup x=some c:=fun x c e=>lM hcl (fun y d h=>by simp at h) e
 refine wpAny_comprehension_free (use:=use) rfl hs (lO hcl) O.kind O.names (thn (hi pins s σ H _ I h) fun v s1 h1=>thn h1 fun itv s2 h2=>?_)
 obtain ⟨it,fp,tnn,J,H2,e,I2,T,st2,f2,h2⟩:=h2
 subst e
 obtain ⟨W,⟨m0,w0⟩,turn⟩:=h2 s2.heap.objs.size (I2.hok.fresh (xae _))
 refine wpAny_newObj_type ?_
 have I3:Inv X pins σ (upd H2 s2.heap.objs.size (.lst [])) { s2 with heap:=s2.heap.push { cls:=.type "list",data:=.seq ([]:List Value).toArray } }:=I2.lnew (its:=[]) (t':=s2.toks) .nil (xao _)
 generalize hD:s2.heap.objs.size=D at *
 generalize hs3:({ s2 with heap:=s2.heap.push { cls:=.type "list",data:=.seq ([]:List Value).toArray } }:Shared)=s3 at *
 have k23:∀ b o,s2.heap.get? b=some o->s3.heap.get? b=some o:=fun b o e=>by rw [<- hs3]; exact xaj _ e
 have sz3:s3.heap.objs.size=D+1:=by rw [<- hs3,<- hD]; exact Heap.size_push ..
 have f3:∀ b∈fp,FpOk X pins (upd H2 D (.lst [])) b:=fun b hb=>by
  obtain ⟨f0,fr⟩:=f2 b hb
  obtain ⟨o,ho,_⟩:=T.obj _ _ st2 b hb
  refine ⟨?_,fr⟩
  rw [upd_ne (xav (by rw [<- hD]; exact xan ho))]
  exact f0
 have st3:tnn 0 s3.heap:=T.keep _ _ _ st2 fun b hb o e=>k23 b o e
 have lt3:∀ b∈fp,b<s3.heap.objs.size:=fun b hb=>by
  obtain ⟨o,ho,_⟩:=T.obj _ _ st3 b hb
  exact xan ho
 refine wpAny_newFunctionEnv O.nocell (by intro y hy; simp at hy) (fun h₁ hns₁ hsb₁=>?_) O.kind
 have k34:∀ b o,s3.heap.get? b=some o->h₁.get? b=some o:=fun b o e=>hsb₁.extBut b o (xav (xan e)) (xaj _ e)
 -- the block's context
 have ok':=uF (C:=s3.heap.objs.size) O I3 f3 lt3 (xae _)
 have I4:Inv (bD X scope s3.heap.objs.size (tn++cn) fp s3 (upd H2 D (.lst []))) [] (jZ tn.length ix σ) (upd H2 D (.lst [])) { s3 with heap:=h₁,toks:=s3.toks+([]:List (Str × Value)).length }:=by
  refine ⟨ok',rfl,I3.bare,Un.kept k34,⟨_,hns₁,fun i x v e1 e2 e3=>?_⟩,fun x c e=>?_,I3.hok.fresh (xae _),fun x c e=>I3.freeC x c (sub x c e),fun p hp=>absurd hp (by simp [bD]),I3.hok.kept k34,?_⟩
  ·have hi':tn.length<=i:=by
    by_cases q:i<tn.length
    ·unfold jZ at e2
     rw [xbk (by simpa using q),xbK] at e2
     simp [q] at e2
    ·lia
   unfold jZ at e2
   rw [xaR (by simpa using hi'),xbS,xaK] at e2
   have e1:(tn++cn)[i]? = some x:=e1
   rw [xaR hi'] at e1
   cases q:ix[i - tn.length]? with
   | none=>rw [q] at e2; cases e2
   | some j =>
    rw [q] at e2
    obtain ⟨y,c1,c2,c3,c4,c5⟩:=O.cap _ _ q
    rw [c1] at e1; cases e1
    have e2:σ[j]?.join=some v:=Option.some.inj e2
    have ej:σ[j]? = some (some v):=by
     cases z:σ[j]? with
     | none=>rw [z] at e2; cases e2
     | some o=>rw [z] at e2; exact congrArg some e2
    obtain ⟨m,hn,hl⟩:=I3.loc
    obtain ⟨u,r,l⟩:=hl j x v c2 ej (c3.elim (fun z=>.inr (.inl z)) fun z=>.inr (.inr z))
    refine ⟨u,r,.inr ⟨c5,?_⟩⟩
    rcases l with ⟨hk,_⟩ | ⟨hk,c,hcc,hce⟩
    ·have hk:X.env.scope.names.lookup x=some .local:=hk
     rcases c3 with z | z
     ·rw [z] at hk; cases hk
     ·rw [z] at hk; cases hk
    ·obtain ⟨c',hc'⟩:=iY (env:=X.env) (cs:=[]) (Or.inl c4)
     have:=sub x c' hc'
     rw [hcc] at this; cases this
     obtain ⟨o,ho,hd⟩:=hce
     exact ⟨c,hc',o,k34 _ _ ho,hd⟩
  ·obtain ⟨v,o,ho,hd⟩:=I3.cell x c (sub x c e)
   exact ⟨v,o,k34 _ _ ho,hd⟩
  ·show (jZ tn.length ix σ).length=(tn++cn).length
   unfold jZ
   simp [O.len]
 -- from the block back to the body
 have back:∀ {τ:St} {H':Hp} {s':Shared},Inv (bD X scope s3.heap.objs.size (tn++cn) fp s3 (upd H2 D (.lst []))) [] τ H' s'->Inv X pins σ H' s':=fun {τ H' s'} I' =>
  Inv.call' (ch:=fp) I3 I'.os I'.base I'.hok I'.bare fun b hb=>by
   obtain ⟨_,f1,_,f3',f4,f5⟩:=f3 b hb
   exact ⟨f3',f1,f4,f5⟩
 have fpC:∀ {H':Hp},(∀ b∈fp,H' b=none)->∀ b∈fp,FpOk (bD X scope s3.heap.objs.size (tn++cn) fp s3 (upd H2 D (.lst []))) [] H' b:=fun hn b hb =>
  ⟨hn b hb,(ok'.exf b hb).1,ok'.exfs b hb,.inl hb,(ok'.exf b hb).2,fun p hp=>absurd hp (by simp [bD])⟩
 have loop:∀ s4:Shared,Inv (bD X scope s3.heap.objs.size (tn++cn) fp s3 (upd H2 D (.lst []))) [] (jZ tn.length ix σ) (upd H2 D (.lst [])) s4->tnn 0 s4.heap ->
   codeAny (model X.prog X.w) X.A (.compLoop (.ListComp elt [⟨tg,iter,ifs,0⟩] scope pos) 0 (.ref it) (.ref D) (compEnvC scope (clOf X.env scope.names []) s3.heap.objs.size X.env))
    (compPost (model X.prog X.w) X.A X.xe use P (.ref D) s3.heap.objs.size) s4:=by
  intro s4 I4 st4
  refine eN (fun n s'=>∃ i τ H',Inv (bD X scope s3.heap.objs.size (tn++cn) fp s3 (upd H2 D (.lst []))) [] τ H' s'/\tnn i s'.heap/\(∀ b∈fp,H' b=none)/\W i n τ H') (fun _ _=>False) ?_ (fun _ _ z=>z.elim) m0
   ⟨0,_,_,I4,st4,fun b hb=>(f3 b hb).1,w0⟩
  rintro n s5 ⟨i,τ,H5,I5,st5,fr5,w5⟩
  rcases turn i n τ H5 w5 with ⟨stop,qn⟩ | ⟨go,N1,N2,hN1,hN2,step⟩
  ·refine thn (T.done (bD X scope s3.heap.objs.size (tn++cn) fp s3 (upd H2 D (.lst []))) rfl rfl rfl hc i [] s5 τ H5 (fun _ _=>False) I5 (fpC fr5) st5 stop) fun r s6 hx9=>?_
   obtain ⟨hr,I6⟩:=hx9
   subst hr
   have J6:=back I6
   obtain ⟨m,hn,_⟩:=I6.loc
   exact fin _ D m H5 s6 _ J6 hn I6.free (I3.fpOk (b:=s3.heap.objs.size) (H':=H5) (xae _) I6.free) qn
  ·refine thn (T.item (bD X scope s3.heap.objs.size (tn++cn) fp s3 (upd H2 D (.lst []))) rfl rfl rfl hc i [] s5 τ H5 (fun _ _=>False) I5 (fpC fr5) st5 go) fun r s6 hx9=>?_
   obtain ⟨u,hr,h6⟩:=hx9
   subst hr
   refine thn h6 fun _ s7 hx9=>?_
   obtain ⟨x,H7,I7,r7,y7,st7,fr7⟩:=hx9
   have I7':=I7.pinned (fpC fr7) (T.obj _ _ st7)
   refine thn (hg _ _ _ _ _ s7 τ H7 x u _ I7' r7 (step x H7 y7)) fun _ s8 hx9=>?_
   obtain ⟨τ8,H8,I8,q8⟩:=hx9
   refine thn (hcs _ _ _ _ _ s8 τ8 H8 _ I8 q8) fun ok s9 hx9=>?_
   obtain ⟨H9,I9,q9⟩:=hx9
   have again:∀ {s':Shared} {H':Hp} {m':Nat},Inv (bD X scope s3.heap.objs.size (tn++cn) fp s3 (upd H2 D (.lst []))) ([]++pinsAt fp s7.heap) τ8 H' s'->m'<n->W (i+1) m' τ8 H' ->
     ∃ m,m<n/\∃ i τ H',Inv (bD X scope s3.heap.objs.size (tn++cn) fp s3 (upd H2 D (.lst []))) [] τ H' s'/\tnn i s'.heap/\(∀ b∈fp,H' b=none)/\W i m τ H':=fun {s' H' m'} J hm w'=>by
    refine ⟨m',hm,i+1,τ8,H',J.unpinned,T.keep _ _ _ st7 fun b hb o e=>(J.pin (b,o) (xaf _ (xaf _ (mem_pinsAt hb e)))).1,fun b hb=>?_,w'⟩
    obtain ⟨o,e,d⟩:=T.obj _ _ st7 b hb
    exact (J.pin (b,o) (xaf _ (xaf _ (mem_pinsAt hb e)))).2.1
   cases ok with
   | false =>
    rw [if_neg xaq] at q9 ⊢
    obtain ⟨m',hm,w'⟩:=hN2 _ _ q9
    exact again I9 hm w'
   | true =>
    rw [if_pos rfl] at q9 ⊢
    refine thn (he _ _ _ _ _ s9 τ8 H9 _ I9 q9) fun x9 s10 hx5=>L2.ex2 hx5 fun v10 H10 I10 r10 q10=>?_
    obtain ⟨ys,m',hH,hz,hm,w'⟩:=hN1 _ _ _ q10
    refine thn (mt_append _ s10 τ8 H10 (.ref D) [v10] (.ref D) [x9] (fun _ H'=>H'=upd H10 D (.lst (ys++[v10]))) I10 rfl (.cons r10 .nil) ⟨D,ys,v10,rfl,rfl,hH,hz,rfl⟩) fun _ s11 hx5=>L2.ex2 hx5 fun _ H11 I11 _ q11=>?_
    subst q11
    exact again I11 hm w'
 exact codeAny_compStart_list (loop _ I4 (T.keep _ _ _ st3 fun b hb o e=>k34 b o e)) (T.self _ 0 _ _ _ (T.keep _ _ _ st3 fun b hb o e=>k34 b o e) (loop _ I4 (T.keep _ _ _ st3 fun b hb o e=>k34 b o e)))
theorem yw (hc:X.calm=true) (hi:PI X tg iter wi) (O:gA X scope tn cn ix)
  (hg:∀ C fp s₃ H₃,PG (bD X scope C (tn++cn) fp s₃ H₃) tg g) (hcs:∀ C fp s₃ H₃,PTs (bD X scope C (tn++cn) fp s₃ H₃) ifs tc) (he:∀ C fp s₃ H₃,PE (bD X scope C (tn++cn) fp s₃ H₃) elt te)
  (hs:∀ x,foldedSetIterable iter X.env x=pure x:=by intro _; rfl):PE X (.ListComp elt [⟨tg,iter,ifs,0⟩] scope pos) (vV wi g tc te tn.length ix):=by
 intro pins s σ H Q I h
 rw [eval_ListComp]
 refine uP (use:=none) (P:=EP X pins σ Q) hc hi O hg hcs he hs I h fun C D m H5 s6 r J6 hn hf ⟨_,g1,_,g3,g4,g5⟩ qn=>⟨m,hn,fun h' hsb=>⟨.ref D,H5,?_,rfl,qn⟩⟩
 exact J6.turned (t':=s6.toks) (fun b o hb e=>hsb.extBut b o hb e) hf g1 g3 g4 g5
end
def isiT (a b:String):Bool:=a == b || (a == "bool" && b == "int")
def okTy (b:String):Bool:=["str", "int", "bool", "list", "tuple", "dict"].contains b
theorem gr (K:PySem.W.Frag) (a b:String) (ha:a∈["NoneType", "bool", "int", "str", "list", "tuple", "dict"]) (hb:b∈["str", "int", "bool", "list", "tuple", "dict"]):PySem.W.kitOne K (.type a) (.type b)=some (isiT a b):=by
 simp only [xam,xbo,or_false] at ha hb
 rcases ha with rfl | rfl | rfl | rfl | rfl | rfl | rfl <;> rcases hb with rfl | rfl | rfl | rfl | rfl | rfl <;> kernel_rfl
section
variable {X:Cx}
theorem OpR.imp (h:OpR X f r) (hi:∀ x y H Q,r' x y H Q->r x y H Q):OpR X f r' :=
 fun pins s σ H x y v u Q I rx ry q=>h pins s σ H x y v u Q I rx ry (hi x y H Q q)
def Dj (K:PySem.W.Frag):R2:=fun x y H Q=>∃ l b xs zs,x=.ref l/\y=.ref b/\SqL K H l xs/\SqL K H b zs/\xs.length+zs.length<=sizeLine/\∀ p,H p=none->Q (.ref p) (upd H p (.lst (xs++zs)))
theorem xK:OpR X (binaryOp .Add) (Dj X.K):=by
 intro pins s σ H x y v u Q I rx ry h
 obtain ⟨l,b,xs,zs,rfl,rfl,hH,hB,hz,q⟩:=h
 cases rx
 cases ry
 obtain ⟨its,r,pl,z⟩:=I.list hH
 obtain ⟨its2,r2,pl2,z2⟩:=I.list hB
 have hl:=r.length
 have hl2:=r2.length
 obtain ⟨⟨cls,dd,data,sl⟩,ho,hc,n,hd⟩:=id pl.isList
 obtain ⟨⟨cls2,dd2,data2,sl2⟩,ho2,hc2,n2,hd2⟩:=id pl2.isList
 simp only at hc hd hc2 hd2
 subst hc hd hc2 hd2
 have ea:its.toArray++its2.toArray=(its++its2).toArray:=by simp
 refine concat_meets ⟨_,ho,rfl⟩ ⟨_,ho2,rfl⟩ noFill_list_add seq_list_add PySem.F.slot_list_add PySem.F.entry_list_add (PySem.F.args_list_add_2 _ _) (list_addW l b its.toArray its2.toArray n n2 dd dd2 sl sl2 (by simp only [xal]; lia)) ⟨ho,ho2,?_⟩
 rw [ea]
 exact ⟨.ref _,_,I.lnew (t':=s.toks) (r.append r2) (by rw [xaB]; lia),rfl,q _ I.fresh⟩
def u_ (K:PySem.W.Frag):R2:=fun x y H Q=>match x,y with
 | .int i,.int j=>Q (.int (i+j)) H
 | .str i,.str j=>i.length+j.length<=sizeLine/\Q (.str (i++j)) H
 | .ref a,.ref b=>∃ xs zs,SqL K H a xs/\SqL K H b zs/\xs.length+zs.length<=sizeLine/\∀ p,H p=none->Q (.ref p) (upd H p (.lst (xs++zs)))
 | _,_=>False
theorem yM:OpR X (binaryOp .Add) (u_ X.K):=by
 refine (op_add.or (op_add_str.or xK)).imp fun x y H Q h=>?_
 unfold u_ at h
 split at h
 ·exact .inl ⟨_,_,rfl,rfl,h⟩
 ·exact .inr (.inl ⟨_,_,rfl,rfl,h.1,h.2⟩)
 ·obtain ⟨xs,zs,h1,h2,h3,h4⟩:=h
  exact .inr (.inr ⟨_,_,xs,zs,rfl,rfl,h1,h2,h3,h4⟩)
 ·exact h.elim
def zj:R2:=fun x y H Q=>match x,y with
 | .int i,.int j=>Q (.int (i - j)) H
 | _,_=>False
theorem zc:OpR X (binaryOp .Sub) zj:=op_sub.imp fun x y H Q h=>by
 unfold zj at h
 split at h
 ·exact ⟨_,_,rfl,rfl,h⟩
 ·exact h.elim
def xU:R2:=fun x y H Q=>match x,y with
 | .int i,.int j=>CMul i j/\Q (.int (i * j)) H
 | _,_=>False
theorem xq:OpR X (binaryOp .Mult) xU:=op_mul.imp fun x y H Q h=>by
 unfold xU at h
 split at h
 ·exact ⟨_,_,rfl,rfl,h.1,h.2⟩
 ·exact h.elim
def yt:R2:=fun x y H Q=>match x,y with
 | .int i,.int j=>(0<j/\j<1073741824)/\Q (.int (i / j)) H
 | _,_=>False
theorem xn:OpR X (binaryOp .FloorDiv) yt:=op_fdiv.imp fun x y H Q h=>by
 unfold yt at h
 split at h
 ·exact ⟨_,_,rfl,rfl,h.1,h.2⟩
 ·exact h.elim
def yx:R2:=fun x y H Q=>match x,y with
 | .int i,.int j=>0<j/\Q (.int (i % j)) H
 | _,_=>False
theorem xM:OpR X (binaryOp .Mod) yx:=op_mod.imp fun x y H Q h=>by
 unfold yx at h
 split at h
 ·exact ⟨_,_,rfl,rfl,h.1,h.2⟩
 ·exact h.elim
def xF:R2:=fun x y H Q=>match x,y with
 | .int i,.int j=>CPow i j/\Q (.int (i ^ j.toNat)) H
 | _,_=>False
theorem yG:OpR X (binaryOp .Pow) xF:=op_pow.imp fun x y H Q h=>by
 unfold xF at h
 split at h
 ·exact ⟨_,_,rfl,rfl,h.1,h.2⟩
 ·exact h.elim
def ltS (x y:Str):Bool:=decide (x.cps.toList<y.cps.toList)
def rLtU:R2:=fun x y H Q=>match x,y with
 | .int i,.int j=>Q (.bl (decide (i<j))) H
 | .str i,.str j=>Q (.bl (ltS i j)) H
 | _,_=>False
theorem wg:OpR X (compareOp .Lt) rLtU:=(op_lt.or op_lt_str).imp fun x y H Q h=>by
 unfold rLtU at h
 split at h
 ·exact .inl ⟨_,_,rfl,rfl,h⟩
 ·exact .inr ⟨_,_,rfl,rfl,h⟩
 ·exact h.elim
theorem uM:OpR X (compareOp .LtE) (fun x y H Q=>∃ i j,x=.str i/\y=.str j/\Q (.bl (!ltS j i)) H):=by
 intro pins s σ H x y v u Q I rx ry h
 obtain ⟨i,j,rfl,rfl,q⟩:=h
 obtain ⟨t,rfl⟩:=rx
 obtain ⟨t',rfl⟩:=ry
 exact PySem.P.le_str ⟨.bl _,H,I,rfl,q⟩
def rLeU:R2:=fun x y H Q=>match x,y with
 | .int i,.int j=>Q (.bl (decide (i<=j))) H
 | .str i,.str j=>Q (.bl (!ltS j i)) H
 | _,_=>False
theorem sY:OpR X (compareOp .LtE) rLeU:=(op_le.or uM).imp fun x y H Q h=>by
 unfold rLeU at h
 split at h
 ·exact .inl ⟨_,_,rfl,rfl,h⟩
 ·exact .inr ⟨_,_,rfl,rfl,h⟩
 ·exact h.elim
def rGtU:R2:=fun x y H Q=>match x,y with
 | .int i,.int j=>Q (.bl (decide (j<i))) H
 | _,_=>False
theorem Bq:OpR X (compareOp .Gt) rGtU:=op_gt.imp fun x y H Q h=>by
 unfold rGtU at h
 split at h
 ·exact ⟨_,_,rfl,rfl,h⟩
 ·exact h.elim
theorem Inv.rd (I:Inv X pins σ H s) (e:Rd H a u):ObjOk X.prog X.w H s.heap a u:=e.elim (I.hok a _) fun ⟨o,e⟩=>(show ObjOk X.prog X.w H s.heap a (.frz o u) from I.hok a _ e).2
def rLen (K:PySem.W.Frag):List V->Hp->VK->Prop:=fun xs H Q=>match xs with
 | [.str y]=>y.length<=sizeLine/\Q (.int y.length) H
 | [.ref p]=>(∃ ys,SqL K H p ys/\Q (.int ys.length) H)\/(∃ ys,SqT K H p ys/\Q (.int ys.length) H)\/∃ kvs,Rd H p (.dK kvs)/\Q (.int kvs.length) H
 | _=>False
theorem rQ:CallR X (.builtin "len") (rLen X.K):=by
 intro pins s σ H xs us Q I r h
 unfold rLen at h
 split at h
 ·exact call_len pins s σ H _ us Q I r ⟨_,_,rfl,⟨h.1,rfl⟩,h.2⟩
 ·rcases h with ⟨ys,h1,h2⟩ | ⟨ys,h1,h2⟩ | ⟨kvs,h1,h2⟩
  ·exact call_len pins s σ H _ us Q I r ⟨_,_,rfl,.inl ⟨ys,h1,rfl⟩,h2⟩
  ·exact call_len pins s σ H _ us Q I r ⟨_,_,rfl,.inr ⟨ys,h1,rfl⟩,h2⟩
  ·obtain ⟨u,rfl,ru⟩:=vals1 r
   cases ru
   exact d_len I h1 fun t s' I'=>⟨.int kvs.length,H,I',⟨t,rfl⟩,h2⟩
 ·exact h.elim
def rIxU (K:PySem.W.Frag):R2:=fun x y H Q=>match x,y with
 | .ref p,.int i=>(∃ xs v,SqL K H p xs/\atI xs i=some v/\Q v H)\/∃ xs v,SqT K H p xs/\atI xs i=some v/\Q v H
 | .str z,.int i=>z.length<=sizeLine/\∃ c,atI z.cps.toList i=some c/\Q (.str ⟨#[c]⟩) H
 | _,_=>False
theorem zZ:IxR X (rIxU X.K):=by
 intro value slice pins s σ H x y v u Q I rx ry h hs
 refine ix_seq value slice pins s σ H x y v u Q I rx ry ?_ hs
 unfold rIxU at h
 split at h
 ·rcases h with ⟨xs,w,h1,h2,h3⟩ | ⟨xs,w,h1,h2,h3⟩
  ·exact .inl ⟨_,xs,_,w,rfl,rfl,h1,h2,h3⟩
  ·exact .inr (.inl ⟨_,xs,_,w,rfl,rfl,h1,h2,h3⟩)
 ·obtain ⟨h1,c,h2,h3⟩:=h
  exact .inr (.inr ⟨_,_,c,rfl,rfl,h1,h2,h3⟩)
 ·exact h.elim
def cutS (z:Str) (lo hi:Option Int):Str:=⟨((z.cps.toList.drop (HT.sIx z.length 0 lo)).take (HT.sIx z.length z.length hi - HT.sIx z.length 0 lo)).toArray⟩
end
theorem sV (l:List Nat) (lo hi:Option Int) (h:((l.drop (HT.sIx l.length 0 lo)).take (HT.sIx l.length l.length hi - HT.sIx l.length 0 lo)).length=l.length) :
  (l.drop (HT.sIx l.length 0 lo)).take (HT.sIx l.length l.length hi - HT.sIx l.length 0 lo)=l:=by
 generalize HT.sIx l.length 0 lo=a at *
 generalize HT.sIx l.length l.length hi=b at *
 by_cases hl:l.length=0
 ·have:l=[]:=List.length_eq_zero_iff.mp hl
  subst this; simp
 ·rw [xaG,xbc] at h
  have h1:a=0:=by lia
  subst h1
  rw [List.drop_zero]
  exact xbR (by lia)
theorem tQ (lo hi:Option Int) (n:Nat):Builtin.Str.strSliceIndices lo hi 1 n=(List.range (HT.sIx n n hi - HT.sIx n 0 lo)).map (HT.sIx n 0 lo + ·):=by
 unfold Builtin.Str.strSliceIndices
 have e1:(match lo with | none=>(0:Int) | some i=>max 0 (min (if i<0 then i+n else i) n))=((HT.sIx n 0 lo:Nat):Int):=by
  cases lo with
  | none=>simp [HT.sIx]
  | some i =>
   simp only [HT.sIx]
   by_cases h:i<0
   ·simp only [h,if_true] <;> lia
   ·simp only [h,if_false] <;> lia
 have e2:(match hi with | none=>(n:Int) | some i=>max 0 (min (if i<0 then i+n else i) n))=((HT.sIx n n hi:Nat):Int):=by
  cases hi with
  | none=>simp [HT.sIx]
  | some i =>
   simp only [HT.sIx]
   by_cases h:i<0
   ·simp only [h,if_true] <;> lia
   ·simp only [h,if_false] <;> lia
 rw [<- sliceRange_one,<- e1,<- e2]
 simp only [show (1:Int)>0 by decide,if_true]
 cases lo <;> cases hi <;> rfl
section
variable {X:Cx}
theorem part_of (h:IsPart v o):∃ p:Option (Int × Tok),v=partValue p/\p.map (·.1)=o:=by
 cases h with
 | none=>exact ⟨none,rfl,rfl⟩
 | int i t=>exact ⟨some (i,t),rfl,rfl⟩
def rSlS (K:PySem.W.Frag):V->Option Int->Option Int->Hp->VK->Prop:=fun x lo hi H Q=>match x with
 | .str z=>z.length<=sizeLine/\Q (.str (cutS z lo hi)) H
 | .ref a=>∃ xs,SqL K H a xs/\∀ p,H p=none->Q (.ref p) (upd H p (.lst (cutV xs lo hi)))
 | _=>False
theorem zH:SlR X (fun x lo hi H Q=>∃ z,x=.str z/\z.length<=sizeLine/\Q (.str (cutS z lo hi)) H):=by
 intro pins s σ H x v vl vu lo hi sl Q I rx hs pl pu h
 obtain ⟨z,rfl,hz,q⟩:=h
 obtain ⟨t,rfl⟩:=rx
 obtain ⟨p1,rfl,e1⟩:=part_of pl
 obtain ⟨p2,rfl,e2⟩:=part_of pu
 refine ⟨"str",_,F.slot_str_getitem.lookup,typeIs_str s z t,wpAny_getItem_str_slice (l:=p1) (u:=p2) (st:=none) hs rfl ?_⟩
 have hl:z.cps.toList.length=z.length:=by simp [Str.length]
 have ep:slicePicked z p1 p2 none=(List.range (HT.sIx z.length z.length hi - HT.sIx z.length 0 lo)).map (HT.sIx z.length 0 lo + ·):=by
  unfold slicePicked
  rw [e1,e2]
  exact tQ lo hi z.length
 have ef:(slicePicked z p1 p2 none).filterMap (z.cps[·]?)=(z.cps.toList.drop (HT.sIx z.length 0 lo)).take (HT.sIx z.length z.length hi - HT.sIx z.length 0 lo):=by
  rw [ep]; exact pick_run z.cps _ _
 unfold sliceMade
 split
 ·rename_i hc
  have hw:(slicePicked z p1 p2 none).length=z.length:=by simpa using hc
  have:cutS z lo hi=z:=by
   unfold cutS
   have e3:((z.cps.toList.drop (HT.sIx z.cps.toList.length 0 lo)).take (HT.sIx z.cps.toList.length z.cps.toList.length hi - HT.sIx z.cps.toList.length 0 lo)).length=z.cps.toList.length:=by
    rw [hl,xaG,xbc,hl]
    rw [ep,xab,xbO] at hw
    have h0:HT.sIx z.length 0 lo<=z.length:=by
     cases lo with
     | none=>simp [HT.sIx]
     | some i=>simp only [HT.sIx]; split <;> lia
    have h1:HT.sIx z.length z.length hi<=z.length:=by
     cases hi with
     | none=>simp [HT.sIx]
     | some i=>simp only [HT.sIx]; split <;> lia
    lia
   have:=sV z.cps.toList lo hi e3
   rw [hl] at this
   rw [this]
  rw [this] at q
  exact ⟨.str z,H,I,⟨t,rfl⟩,q⟩
 ·rw [ef]
  exact ⟨by
   show (cutS z lo hi).length<=sizeLine
   unfold cutS Str.length
   simp only [xal,xaG,xbc,hl]
   have:z.cps.toList.length=z.length:=hl
   lia,⟨.str (cutS z lo hi),H,I.tok _,⟨_,rfl⟩,q⟩⟩
theorem Bx:SlR X (rSlS X.K):=by
 intro pins s σ H x v vl vu lo hi sl Q I rx hs pl pu h
 unfold rSlS at h
 split at h
 ·exact zH pins s σ H _ v vl vu lo hi sl Q I rx hs pl pu ⟨_,rfl,h.1,h.2⟩
 ·obtain ⟨xs,h1,h2⟩:=h
  exact sl_list pins s σ H _ v vl vu lo hi sl Q I rx hs pl pu ⟨_,xs,rfl,h1,h2⟩
 ·exact h.elim
def Its (z:Str):It:=⟨fun i _=>i<z.cps.size,fun i H x H'=>H'=H/\∃ c,z.cps[i]? = some c/\x=.str ⟨#[c]⟩,fun i _=>z.cps.size<=i⟩
theorem pR {P:Program} {K:PySem.W.Frag} (hty:ty = "str_ascii_iterator"\/ty = "str_iterator") :
  Turn P w K tg (Its z) [it] it (fun i h=>h.IsStrIter it ty z t i/\i<=z.cps.size) where
 mem:=by simp
 obj:=fun i h st b hb=>by
  have e:b=it:=by simpa using hb
  subst e
  obtain ⟨⟨o,e,c,d⟩,_⟩:=st
  exact ⟨o,e,fun v z=>by rw [d] at z; cases z⟩
 keep:=fun i h h' st k=>let ⟨⟨o,e,c,d⟩,l⟩:=st; ⟨⟨o,k it (by simp) o e,c,d⟩,l⟩
 item:=by
  intro X hP hw hK hc i pins s σ H E I hf st hg
  subst hP hw hK
  obtain ⟨f0,f1,f2,f3,f4,f5⟩:=hf it (by simp)
  obtain ⟨st,_⟩:=st
  have hg:i<z.cps.size:=hg
  have W:Walks X.prog X.w X.A it [it] [it] z.cps.size (SignAt z) (fun i h=>h.IsStrIter it ty z t i):=by
   rcases hty with rfl | rfl
   ·exact Walks.strAscii (I.ok.hd hc) it z t
   ·exact Walks.strWide (I.ok.hd hc) it z t
  refine W.item i s _ _ hg st fun v h' tk hv st' kk=>?_
  obtain ⟨c,u,ec,rfl⟩:=hv
  have I1:Inv X pins σ H { s with heap:=h',toks:=tk }:=I.turned (fun b o hb e=>kk b o (by simpa using hb) e) f0 f1 f3 f4 f5
  obtain ⟨o,e,c',d⟩:=id st'
  exact ⟨_,rfl,go_of (s:={ s with heap:=h',toks:=tk }) e c' d (by rcases hty with rfl | rfl <;> decide) ⟨.str ⟨#[c]⟩,H,I1,⟨u,rfl⟩,⟨rfl,c,ec,rfl⟩,⟨st',hg⟩,fun b hb=>(hf b hb).1⟩⟩
 done:=by
  intro X hP hw hK hc i pins s σ H E I hf st hg
  subst hP hw hK
  obtain ⟨f0,f1,f2,f3,f4,f5⟩:=hf it (by simp)
  obtain ⟨st,hle⟩:=st
  have hg:z.cps.size<=i:=hg
  have e:i=z.cps.size:=xb6 hle hg
  subst e
  have W:Walks X.prog X.w X.A it [it] [it] z.cps.size (SignAt z) (fun i h=>h.IsStrIter it ty z t i):=by
   rcases hty with rfl | rfl
   ·exact Walks.strAscii (I.ok.hd hc) it z t
   ·exact Walks.strWide (I.ok.hd hc) it z t
  exact W.done s _ _ st fun h' tk kk=>⟨rfl,I.turned (fun b o hb e=>kk b o (by simpa using hb) e) f0 f1 f3 f4 f5⟩
 self:=fun A i s Q E st h=>by
  rcases hty with rfl | rfl
  ·exact wpAny_pyIter_striter_ascii st.1 h
  ·exact wpAny_pyIter_striter_wide st.1 h
theorem zN (hl:PE X l tl):PI X tg l (fun σ H R=>tl σ H fun x H1=>∃ z,x=.str z/\R (Its z) H1):=by
 intro pins s σ H R I h
 refine thn (hl pins s σ H _ I h) fun v s1 hx5=>L2.ex2 hx5 fun x H1 I1 r1 q1=>?_
 obtain ⟨z,rfl,q⟩:=q1
 obtain ⟨t,rfl⟩:=r1
 have fp:∀ b∈[s1.heap.objs.size],FpOk X pins H1 b:=fun b hb=>by
  have e:b=s1.heap.objs.size:=by simpa using hb
  subst e
  exact I1.fpOk (xae _) (I1.hok.fresh (xae _))
 cases ha:z.cps.all (· < 128)
 ·exact wpAny_pyIter_wide ha ⟨s1.heap.objs.size,[s1.heap.objs.size],_,_,H1,rfl,I1.kept (t':=s1.toks) fun b o e=>xaj _ e,pR (.inr rfl),⟨⟨_,xaw _ rfl,rfl,rfl⟩,xao _⟩,fp,q⟩
 ·exact wpAny_pyIter_ascii ha ⟨s1.heap.objs.size,[s1.heap.objs.size],_,_,H1,rfl,I1.kept (t':=s1.toks) fun b o e=>xaj _ e,pR (.inl rfl),⟨⟨_,xaw _ rfl,rfl,rfl⟩,xao _⟩,fp,q⟩
end
structure gB (J:It) (its:List V) (cond:Hp->Prop):Prop where
 go:∀ i H,cond H->i<its.length->J.go i H
 yld:∀ i H x H',cond H->i<its.length->J.yld i H x H'->H'=H/\its[i]? = some x
 stop:∀ H,cond H->J.stop its.length H
def sgnV (z:Str):List V:=z.cps.toList.map fun c=>.str ⟨#[c]⟩
theorem yN (z:Str):gB (Its z) (sgnV z) (fun _=>True) where
 go:=fun i H _ h=>by simpa [sgnV,Its] using h
 yld:=fun i H x H' _ _ h=>by
  obtain ⟨rfl,c,e,rfl⟩:=h
  refine ⟨rfl,?_⟩
  unfold sgnV
  rw [xaK,xaF,e]
  rfl
 stop:=fun H _=>by simp [sgnV,Its]
theorem vy (K:PySem.W.Frag) (a:Addr) (xs:List V):gB (Itl K a) xs (fun H=>SqL K H a xs) where
 go:=fun i H h hi=>⟨xs,xs[i],h,by simp [hi]⟩
 yld:=fun i H x H' h _ y=>⟨y.1,y.2 xs h⟩
 stop:=fun H h=>⟨xs,h,xae _⟩
theorem zp (K:PySem.W.Frag) (a:Addr) (xs:List V):gB (Itt K a) xs (fun H=>SqT K H a xs) where
 go:=fun i H h hi=>⟨xs,xs[i],h,by simp [hi]⟩
 yld:=fun i H x H' h _ y=>⟨y.1,y.2 xs h⟩
 stop:=fun H h=>⟨xs,h,xae _⟩
def t_ (lo:Int) (n:Nat):List V:=(List.range n).map fun i=>.int (lo+(i:Nat))
theorem yf (lo:Int) (n:Nat):gB (Itr lo n) (t_ lo n) (fun _=>True) where
 go:=fun i H _ h=>by simpa [t_,Itr] using h
 yld:=fun i H x H' _ hi h=>by
  have hi:i<n:=by simpa [t_] using hi
  obtain ⟨rfl,rfl⟩:=h
  refine ⟨rfl,?_⟩
  simp [t_,hi]
 stop:=fun H _=>by simp [t_,Itr]
def ForW (J:It) (g:TG) (tb:TS) (D:Ends) (σ:St) (H:Hp):Prop :=
 ∃ W:Nat->Nat->St->Hp->Prop,(∃ m,W 0 m σ H)/\∀ i m σ H,W i m σ H ->
   (J.stop i H/\D.nx σ H)\/(J.go i H/\∃ N:St->Hp->Prop,(∀ σ' H',N σ' H'->∃ m',m'<m/\W (i+1) m' σ' H')/\∀ x H',J.yld i H x H'->g x σ H' fun σ2 H2=>tb { D with nx:=N,ct:=N,bk:=D.nx } σ2 H2)
theorem tW (wi:TI) (g:TG) (tb:TS) (D:Ends) (σ:St) (H:Hp):tFor wi g tb D σ H=wi σ H fun J H1=>ForW J g tb D σ H1:=rfl
def B_ (J:It) (g:TG) (tc:TT) (te:TE) (τ0:St) (H1:Hp) (D:Addr) (Q:VK):Prop :=
 ∃ W:Nat->Nat->St->Hp->Prop,(∃ m,W 0 m τ0 (upd H1 D (.lst [])))/\∀ i m τ H,W i m τ H ->
  (J.stop i H/\Q (.ref D) H)\/(J.go i H/\∃ (N1:St->V->Hp->Prop) (N2:St->Hp->Prop),
   (∀ τ2 v H4,N1 τ2 v H4->∃ ys m',H4 D=some (.lst ys)/\ys.length<sizeLine/\m'<m/\W (i+1) m' τ2 (upd H4 D (.lst (ys++[v])))) /\
   (∀ τ2 H3,N2 τ2 H3->∃ m',m'<m/\W (i+1) m' τ2 H3) /\
   ∀ x H',J.yld i H x H'->g x τ H' fun τ2 H2=>tc τ2 H2 fun b H3=>if b=true then te τ2 H3 (N1 τ2) else N2 τ2 H3)
theorem vK (wi:TI) (g:TG) (tc:TT) (te:TE) (tn:Nat) (ix:List Nat) (σ:St) (H:Hp) (Q:VK):vV wi g tc te tn ix σ H Q=wi σ H fun J H1=>∀ D,H1 D=none->B_ J g tc te (jZ tn ix σ) H1 D Q:=rfl
mutual
inductive Rep (K:PySem.W.Frag) (H:Hp):PyData->V->Prop
 | none:Rep K H .none .non
 | bool (b:Bool):Rep K H (.bool b) (.bl b)
 | int (i:Int):Rep K H (.int i) (.int i)
 | str (x:Str):Rep K H (.str x) (.str x)
 | list {a:Addr} {vs:List V} {ds:List PyData}:SqL K H a vs->Reps K H ds vs->Rep K H (.list ds) (.ref a)
 | tuple {a:Addr} {vs:List V} {ds:List PyData}:SqT K H a vs->Reps K H ds vs->Rep K H (.tuple ds) (.ref a)
inductive Reps (K:PySem.W.Frag) (H:Hp):List PyData->List V->Prop
 | nil:Reps K H [] []
 | cons {d:PyData} {v:V} {ds:List PyData} {vs:List V}:Rep K H d v->Reps K H ds vs->Reps K H (d :: ds) (v :: vs)
end
section
variable {X:Cx} {pins:List (Addr × Obj)} {σ:St} {H:Hp} {s:Shared}
mutual
theorem Rep.reads (I:Inv X pins σ H s):∀ {d:PyData} {v:V} {u:Value},Rep X.K H d v->RelV v u->∃ as,Reads s.heap u d as
 | _,_,_,.none,r=>by cases (show _=Value.none from r); exact ⟨_,.none⟩
 | _,_,_,.bool b,r=>by cases (show _=Value.bool b from r); exact ⟨_,.bool b⟩
 | _,_,_,.int i,r=>by obtain ⟨t,e⟩:=r; subst e; exact ⟨_,.int i t⟩
 | _,_,_,.str x,r=>by obtain ⟨t,e⟩:=r; subst e; exact ⟨_,.str x t⟩
 | _,_,_,.list h hs,r=>by
  cases r
  obtain ⟨its,rv,pl,_⟩:=I.list h
  obtain ⟨o,e,c,n,d⟩:=pl.isList
  obtain ⟨as,q⟩:=Reps.reads I hs rv
  exact ⟨_,.list e c d q⟩
 | _,_,_,.tuple h hs,r=>by
  cases r
  obtain ⟨its,rv,⟨o,e,c,n,d⟩,_⟩:=I.tuple h
  obtain ⟨as,q⟩:=Reps.reads I hs rv
  exact ⟨_,.tuple e c d q⟩
theorem Reps.reads (I:Inv X pins σ H s):∀ {ds:List PyData} {vs:List V} {us:List Value},Reps X.K H ds vs->Vals vs us->∃ as,ReadsAll s.heap us ds as
 | _,_,_,.nil,.nil=>⟨_,.nil⟩
 | _,_,_,.cons h hs,.cons r rs=>by
  obtain ⟨as,q⟩:=Rep.reads I h r
  obtain ⟨bs,q'⟩:=Reps.reads I hs rs
  exact ⟨_,.cons q q'⟩
end
def rEqD (K:PySem.W.Frag):R2:=fun x y H Q=>∃ d e,Rep K H d x/\Rep K H e y/\d.canLay0=true/\e.canLay0=true/\d.depth<=60/\Q (.bl (PyData.eqv d e)) H
def rNeD (K:PySem.W.Frag):R2:=fun x y H Q=>∃ d e,Rep K H d x/\Rep K H e y/\d.canLay0=true/\e.canLay0=true/\d.depth<=60/\Q (.bl (!PyData.eqv d e)) H
theorem Bd (hu:X.A.units+64<cLine):OpR X (compareOp .Eq) (rEqD X.K):=by
 intro pins s σ H x y v u Q I rx ry h
 obtain ⟨d,e,h1,h2,h3,h4,h5,q⟩:=h
 obtain ⟨as,r1⟩:=h1.reads I rx
 obtain ⟨bs,r2⟩:=h2.reads I ry
 exact PySem.SeqAt.rcAt_reads r1 r2 h3 h4 (by lia) X.prog X.w X.xe _ ⟨.bl _,H,I,rfl,q⟩
theorem Bl (hu:X.A.units+64<cLine):OpR X (compareOp .NotEq) (rNeD X.K):=by
 intro pins s σ H x y v u Q I rx ry h
 obtain ⟨d,e,h1,h2,h3,h4,h5,q⟩:=h
 obtain ⟨as,r1⟩:=h1.reads I rx
 obtain ⟨bs,r2⟩:=h2.reads I ry
 exact PySem.SeqAt.rcNeAt_reads r1 r2 h3 h4 (by lia) X.prog X.w X.xe _ ⟨.bl _,H,I,rfl,q⟩
def rEqU (K:PySem.W.Frag):R2:=fun x y H Q=>match x,y with
 | .int i,.int j=>Q (.bl (decide (i=j))) H
 | .str i,.str j=>Q (.bl (decide (i=j))) H
 | .bl i,.bl j=>Q (.bl (decide (i=j))) H
 | _,_=>rEqD K x y H Q
theorem Aa (hu:X.A.units+64<cLine):OpR X (compareOp .Eq) (rEqU X.K):=(op_eq.or (Bd hu)).imp fun x y H Q h=>by
 unfold rEqU at h
 split at h
 ·refine .inl ⟨rfl,?_⟩; simpa using h
 ·refine .inl ⟨rfl,?_⟩; simpa using h
 ·refine .inl ⟨rfl,?_⟩; simpa using h
 ·exact .inr h
def rNeU (K:PySem.W.Frag):R2:=fun x y H Q=>match x,y with
 | .int i,.int j=>Q (.bl (!decide (i=j))) H
 | .str i,.str j=>Q (.bl (!decide (i=j))) H
 | .bl i,.bl j=>Q (.bl (!decide (i=j))) H
 | _,_=>rNeD K x y H Q
theorem z7 (hu:X.A.units+64<cLine):OpR X (compareOp .NotEq) (rNeU X.K):=(op_ne.or (Bl hu)).imp fun x y H Q h=>by
 unfold rNeU at h
 split at h
 ·refine .inl ⟨rfl,?_⟩; simpa using h
 ·refine .inl ⟨rfl,?_⟩; simpa using h
 ·refine .inl ⟨rfl,?_⟩; simpa using h
 ·exact .inr h
def rAll (K:PySem.W.Frag):List V->Hp->VK->Prop:=fun xs H Q=>match xs with
 | [.ref a]=>∃ bs:List Bool,SqL K H a (bs.map V.bl)/\Q (.bl (bs.all id)) H
 | _=>False
theorem uL (hc:X.calm=true):CallR X (.builtin "all") (rAll X.K):=by
 intro pins s σ H xs us Q I r h
 unfold rAll at h
 split at h
 ·rename_i a
  obtain ⟨bs,e,q⟩:=h
  obtain ⟨u,rfl,ru⟩:=Vals.one r
  cases ru
  obtain ⟨its,rv,pl,hz⟩:=I.list e
  have hl:s.heap.IsList a its.toArray:=pl.isList
  obtain ⟨o,ho,hoc,n,hod⟩:=id hl
  have hlen:=rv.length
  rw [xab] at hlen
  refine call_all_walk (wpAny_pyIter_list hl ?_)
  have hne:a≠s.heap.objs.size:=xav (xan ho)
  have hhd:X.A.in1.handled=none:=I.ok.hd hc
  refine ⟨s.heap.objs.size,_,_,_,_,_,fun i=>bs.getD i true,rfl,Walks.list hhd s.heap.objs.size a hne its.toArray,⟨⟨_,xaw _ rfl,rfl,rfl⟩,⟨_,xaj _ ho,hoc,n,hod⟩⟩,?_,fun h' tk hk=>?_⟩
  ·intro i v s' Q' E' hv hq
   have hv:its.toArray[i]? = some v:=hv
   have hv':its[i]? = some v:=by simpa using hv
   have hi:i<bs.length:=by
    have:=(xas.mp hv').1
    lia
   obtain ⟨w',e1,r1⟩:=rv.get (i:=i) (x:=V.bl bs[i]) (by simp [hi])
   rw [hv'] at e1
   cases e1
   cases (show v=Value.bool bs[i] from r1)
   have e2:bs.getD i true=bs[i]:=by simp [List.getD,hi]
   have hq:Q' (bs.getD i true) s':=hq
   rw [e2] at hq
   exact wpAny_truthy_bool hq
  ·have e3:((List.range its.toArray.size).all fun i=>bs.getD i true)=bs.all id:=by
    rw [xal,<- hlen]
    apply xaW.mpr
    simp only [xbB,xaV,id]
    constructor
    ·intro h b hb
     obtain ⟨i,hi,rfl⟩:=List.mem_iff_getElem.mp hb
     have:=h i hi
     simpa [List.getD,hi] using this
    ·intro h i hi
     have:=h bs[i] (xcj hi)
     simpa [List.getD,hi] using this
   rw [e3]
   refine ⟨.bl (bs.all id),H,?_,rfl,q⟩
   exact I.kept (t':=tk) fun b o e=>hk b o (by simp; exact xav (xan e)) (xaj _ e)
 ·exact h.elim
end
end L2
namespace L2
open PySem PySem.Spec PyProof.Rows
section
variable {X:Cx} {pins:List (Addr × Obj)} {σ:St} {H:Hp} {s:Shared} {h':Heap}
theorem Inv.DY {t':Nat} {fp:List Addr} (I:Inv X pins σ H s) (hf:∀ b∈fp,FpOk X pins H b) (k:∀ b o,b∉fp->s.heap.get? b=some o->h'.get? b=some o):Inv X pins σ H { s with heap:=h',toks:=t' }:=by
 have nit:∀ b u,H b=some u->b∉fp:=fun b u e z=>by rw [(hf b z).1] at e; cases e
 refine I.step (g':=s.gens) (d':=s.drawn) (ch:=fp) (fun b hb=>?_) (fun b o _ _ hc e _=>k b o hc e) (fun b o _ _ hc e _=>⟨o.slots,k b o hc e⟩) (fun _ _ _ _ n=>n)
  (fun b o hc e=>⟨o,k b o hc e⟩) (fun _ _ e=>e) (fun _ _ _ e=>e) (fun b ps e=>⟨#[],by rw [e]; simp⟩) (fun m hm=>?_) (fun b u e=>?_) I.bare
 ·obtain ⟨f0,f1,f2,f3,f4,f5⟩:=hf b hb
  exact ⟨f3,f1,f4,f5⟩
 ·obtain ⟨o,es,ep,ho,r⟩:=hm
  exact ⟨o,es,ep,k _ o (fun z=>(hf _ z).2.1 rfl) ho,r⟩
 ·refine (I.hok b u e).stay (fun c v hc q=>k c v ?_ q) (fun _ q=>q) fun _ _ q=>q
  rcases hc with z | z
  ·rw [z]; exact nit b u e
  ·exact nit c _ z
theorem Inv.turnT {t':Nat} {fp:List Addr} {p:Addr} {xs:List V} (I:Inv X pins σ H s) (hf:∀ b∈fp,FpOk X pins H b) (k:∀ b o,b∉fp->s.heap.get? b=some o->h'.get? b=some o) (hp:s.heap.objs.size<=p)
  (new:ObjOk X.prog X.w (upd H p (.tup xs)) h' p (.tup xs)):Inv X pins σ (upd H p (.tup xs)) { s with heap:=h',toks:=t' }:=by
 have hn:=I.hok.fresh hp
 have nit:∀ b u,H b=some u->b∉fp:=fun b u e z=>by rw [(hf b z).1] at e; cases e
 have lt:∀ b o,s.heap.get? b=some o->b≠p:=fun b o e=>xav (xap (xan e) hp)
 refine I.step (g':=s.gens) (d':=s.drawn) (ch:=fp) (fun b hb=>?_) (fun b o _ _ hc e _=>k b o hc e) (fun b o _ _ hc e _=>⟨o.slots,k b o hc e⟩) (fun b o _ e n=>by rw [upd_ne (lt b o e)]; exact n)
  (fun b o hc e=>⟨o,k b o hc e⟩) (fun _ _ e=>by rw [upd_ne (ne_of_none e hn)]; exact e) (fun _ _ _ e=>by rw [upd_ne (ne_of_none e hn)]; exact e) (fun b ps e=>⟨#[],by rw [upd_ne (ne_of_none e hn),e]; simp⟩) (fun m hm=>?_) (fun b u e=>?_) I.bare
 ·obtain ⟨f0,f1,f2,f3,f4,f5⟩:=hf b hb
  exact ⟨f3,f1,f4,f5⟩
 ·obtain ⟨o,es,ep,ho,r⟩:=hm
  exact ⟨o,es,ep,k _ o (fun z=>(hf _ z).2.1 rfl) ho,r⟩
 ·by_cases hb:b=p
  ·subst hb; rw [upd_same] at e; cases e; exact new
  ·rw [upd_ne hb] at e
   refine (I.hok b u e).stay (fun c v hc q=>k c v ?_ q) (fun c q=>by rw [upd_ne (ne_of_none q hn)]; exact q) fun c xs q=>by rw [upd_ne (ne_of_none q hn)]; exact q
   rcases hc with z | z
   ·rw [z]; exact nit b u e
   ·exact nit c _ z
end
def Ite (K:PySem.W.Frag) (a:Addr):It :=
 ⟨fun i H=>∃ xs x,SqL K H a xs/\xs[i]? = some x,fun i H x H'=>∃ p v,x=.ref p/\H p=none/\H'=upd H p (.tup [.int i,v])/\∀ xs,SqL K H a xs->xs[i]? = some v,fun i H=>∃ xs,SqL K H a xs/\xs.length<=i⟩
theorem wD:(2:Nat)<=sizeLine:=by rw [sizeLine_eq]; decide
theorem rN {P:Program} {w:World} {K:PySem.W.Frag} {elts:List Expr} {k:Nat} {pos:Pos} (a e it:Addr) (hei:e≠it):Turn P w K (.Tuple elts k pos) (Ite K a) [e,it] e (fun i h=>(∃ old,IsEnum h e it i old)/\h.IsListIter it a i) where
 mem:=by simp
 obj:=fun i h ⟨⟨old,he⟩,st⟩ b hb=>by
  rcases xam.mp hb with rfl | hb
  ·exact ⟨_,he,fun v z=>nomatch z⟩
  ·have e:b=it:=by simpa using hb
   subst e
   obtain ⟨o,e,c,d⟩:=st
   exact ⟨o,e,fun v z=>by rw [d] at z; cases z⟩
 keep:=fun i h h' ⟨⟨old,he⟩,st⟩ k=>⟨⟨old,k e (by simp) _ he⟩,st.at fun o e=>k it (by simp) o e⟩
 item:=by
  intro X hP hw hK hc i pins s σ H E I hf st hg
  subst hP hw hK
  obtain ⟨xs,x,hq,hx⟩:=hg
  obtain ⟨its,rv,p,hz⟩:=I.list hq
  obtain ⟨u,hu,ru⟩:=rv.get hx
  obtain ⟨⟨old,he⟩,hit⟩:=st
  refine wpAny_pyNext_enum_item he hit p.isList (x:=u) (by simpa using hu) hei fun h1 ho hit1 hT hsz hk=>⟨_,rfl,?_⟩
  refine wpAny_letOwnedTupleGo_enum (s:={ s with heap:=h1,toks:=s.toks+1 }) ho fun h2 he2 hs2=>?_
  have ke:∀ b o,b∉[e,it]->s.heap.get? b=some o->h2.get? b=some o:=fun b o hb q=>(hs2.2 b fun z=>hb (by simp [z])).trans (hk b o (fun z=>hb (by simp [z])) (fun z=>hb (by simp [z])) q)
  have hlt:e<s.heap.objs.size:=xan he
  have hT2:h2.get? s.heap.objs.size=some { cls:=.type "tuple",data:=.seq #[.int i s.toks,u] }:=(hs2.2 _ (Nat.ne_of_gt hlt)).trans hT
  have I1:Inv X pins σ (upd H s.heap.objs.size (.tup [.int i,x])) { s with heap:=h2,toks:=s.toks+1 } :=
   I.turnT hf ke (xae _) ⟨wD,[.int i s.toks,u],.cons ⟨s.toks,rfl⟩ (.cons ru .nil),_,hT2,rfl,_,rfl⟩
  refine ⟨.ref s.heap.objs.size,_,I1,rfl,⟨_,x,rfl,I.fresh,rfl,fun ys hy=>by rw [I.list_inj hy hq]; exact hx⟩,⟨⟨u,by simpa using he2⟩,hit1.at fun o q=>(hs2.2 it hei.symm).trans q⟩,fun b hb=>?_⟩
  rw [upd_ne]
  ·exact (hf b hb).1
  ·rcases xam.mp hb with rfl | hb
   ·exact xav hlt
   ·have e:b=it:=by simpa using hb
    subst e
    obtain ⟨o,q,_⟩:=hit
    exact xav (xan q)
 done:=by
  intro X hP hw hK hc i pins s σ H E I hf st hg
  subst hP hw hK
  obtain ⟨xs,hq,hx⟩:=hg
  obtain ⟨its,rv,p,hz⟩:=I.list hq
  obtain ⟨⟨old,he⟩,hit⟩:=st
  have hl:=rv.length
  exact wpAny_pyNext_enum_end (I.ok.hd hc) he hit p.isList (by simp; lia) fun h' eb=>⟨rfl,I.DY (t':=s.toks) hf fun b o hb q=>eb b o (fun z=>hb (by simp [z])) q⟩
 self:=fun _ _ _ _ _ ⟨⟨old,he⟩,_⟩ h=>wpAny_pyIter_enum he h
theorem Bg (h:b∈[n+1,n]):n<=b:=by simp at h; lia
section
variable {X:Cx}
def DG (K:PySem.W.Frag) (ta:TA):TI:=fun σ H R=>ta σ H fun vs H1=>∃ a,vs=[.ref a]/\(∃ xs,SqL K H1 a xs)/\R (Ite K a) H1
theorem za (hg:Gl X "enumerate") (hm:X.mg "enumerate" = none) (ha:PA X [a] ta) (hs:starEach [a] X.env=[(false,eval a X.env)]:=by rfl) :
  PI X (.Tuple elts k tp) (.Call (.Name "enumerate" p) [a] [] pos) (DG X.K ta):=by
 intro pins s σ H R I h
 refine Call_ (ld_blt I hg hm boot_enumerate (PyProof.Rows.callWith_type1 (thn (ha pos pins s σ H _ I h) fun us s1 hx5=>L2.ex2 hx5 fun vs H1 I1 r1 q1=>?_) hs rfl))
 obtain ⟨l,e,⟨xs,hq⟩,q⟩:=q1
 subst e
 cases r1 with
 | cons r rr =>
  cases rr
  cases r
  obtain ⟨its,rv,pl,hz⟩:=I1.list hq
  refine call_enumerate_list pl.isList fun h2 he hit hsz hk=>?_
  refine wpAny_pyIter_enum (s:={ s1 with heap:=h2 }) he ?_
  refine ⟨s1.heap.objs.size+1,[s1.heap.objs.size+1,s1.heap.objs.size],_,_,H1,rfl,I1.kept (t':=s1.toks) hk,rN l _ _ (Nat.succ_ne_self _),⟨⟨_,he⟩,hit⟩,fun b hb=>?_,q⟩
  have e:s1.heap.objs.size<=b:=Bg hb
  exact I1.fpOk e (I1.hok.fresh e)
end
def rlN (sc:Scope) (names:List (Str × NameKind)):List (Str × NameKind):=names.map fun y=>if (y.2 == NameKind.free && sc.kind == .function && sc.names.lookup y.1 == some .cell)=true then (y.1,NameKind.cell) else (y.1,y.2)
def vis2 (o:Option NameKind):Bool:=o == some .cell || o == some .free
def zr (sc scope:Scope) (N cn:List Str) (ix:List Nat):Bool :=
 scope.kind == .function && scope.names.all (fun y=>y.2 != .cell) && scope.names.all (fun y=>y.2 != .free || vis2 (sc.names.lookup y.1)) && scope.names.all (fun y=>y.2 != .local || scope.names.lookup y.1 == some .local) &&
 ix.length == cn.length && (List.range ix.length).all (fun k=>match ix[k]?,cn[k]? with
  | some j,some y=>N[j]? == some y && vis2 (sc.names.lookup y) && scope.names.contains (y,NameKind.free) && vis2 ((rlN sc scope.names).lookup y)
  | _,_=>false) &&
 (rlN sc scope.names).all (fun y=>!(y.2 == .cell || y.2 == .free) || scope.names.contains (y.1,NameKind.free))
theorem nU (h:vis2 o=true):o=some .cell\/o=some .free:=by
 unfold vis2 at h
 simpa using h
theorem gA.of {X:Cx} (hsc:X.env.scope=sc) (hN:X.N=N) (h:zr sc scope N cn ix=true):gA X scope tn cn ix:=by
 unfold zr at h
 simp only [xaz] at h
 obtain ⟨⟨⟨⟨⟨⟨h1,h2⟩,h3⟩,h4⟩,h5⟩,h6⟩,h7⟩:=h
 rw [xbB] at h2 h3 h4 h6 h7
 have erl:(relabel scope X.env).names=rlN sc scope.names:=by
  unfold relabel rlN
  rw [<- hsc]
  rfl
 refine ⟨by simpa using h1,fun y hy=>by simpa using h2 y hy,fun y hy hk=>?_,fun y hy hk=>?_,by simpa using h5,fun k j hk=>?_,fun x hx=>?_⟩
 ·have:=h3 y hy
  rw [hk] at this
  rw [hsc]
  exact nU (by simpa using this)
 ·have:=h4 y hy
  rw [hk] at this
  simpa using this
 ·have hk':k<ix.length:=(xas.mp hk).1
  have:=h6 k (xaV.mpr hk')
  rw [hk] at this
  cases e:cn[k]? with
  | none=>rw [e] at this; cases this
  | some y =>
   rw [e] at this
   simp only [xaz] at this
   obtain ⟨⟨⟨a1,a2⟩,a3⟩,a4⟩:=this
   refine ⟨y,rfl,by rw [hN]; simpa using a1,by rw [hsc]; exact nU a2,by simpa using a3,by rw [erl]; exact nU a4⟩
 ·rw [erl] at hx
  have mem:∃ k,(x,k)∈rlN sc scope.names/\(k=.cell\/k=.free):=by
   rcases hx with hx | hx
   ·exact ⟨_,PySem.mem_of_lookup hx,.inl rfl⟩
   ·exact ⟨_,PySem.mem_of_lookup hx,.inr rfl⟩
  obtain ⟨k,hm,hk⟩:=mem
  have:=h7 _ hm
  rcases hk with rfl | rfl <;> simpa using this
structure Cal (P:Program) (w:World) (K:PySem.W.Frag) (mg:Str->Option Value) (base:Heap) (k:Nat) (x:Str) (ps:List Str) (sp:Sp):Prop where
 ex:∃ (g:Addr) (fd:FuncData),mg x=some (.ref g)/\PySem.W.keepIn K (.ref g)=true/\Binds K fd ps []/\FnOk P w K mg base CX0 k g fd ps sp
section
variable {X:Cx} {k:Nat} {x:Str} {ps:List Str} {sp:Sp} {p pos:Pos} {e:Expr} {es:List Expr} {t:TA}
theorem Bf (C:Cal X.prog X.w X.K X.mg X.base k x ps sp) (hr:Room k X.A) (ha:PA X (e :: es) t) (hg:Gl X x:=by rfl) (hdb:(x == ("__debug__" : Str))=false:=by decide) (he:starEach (e :: es) X.env=(false,eval e X.env) :: starEach es X.env:=by rfl)
  (hpl:(backTo pos (starEach es X.env)).any (·.1)=false:=by rfl):PE X (.Call (.Name x p) (e :: es) [] pos) (tCall sp [] E0 t):=by
 obtain ⟨g,fd,hm,hk,hb,F⟩:=C.ex
 exact pe_call F hr hg hm hk hb .nil pass0 ha hdb he hpl
end
theorem Fun.cal {P:Program} {K:PySem.W.Frag} {st:Stmt} {ps:List Str} (F:Fun K x qual st f fd) (hm:mg x=some (.ref f))
  (G:FnOk P w K mg base CX0 k f fd ps sp)
  (h:∀ (kV doc pm:Value) (an:Option Addr) (cdv ct:Value) (us:List Value),us.length=ps.length->bindArgs (PySem.W.fnOf x qual (defArgs st) (defBody st) (defScope st) .none kV doc pm an cdv ct) ⟨us,[]⟩=pure (ps.zip us)):Cal P w K mg base k x ps sp :=
 ⟨f,fd,hm,F.kp,F.binds h,G⟩
def GlS (mg:Str->Option Value) (x:Str) (z:Str):Prop:=∃ t,mg x=some (.str z t)
def GlI (mg:Str->Option Value) (x:Str) (i:Int):Prop:=∃ t,mg x=some (.int i t)
theorem Cg {X:Cx} (h:GlS X.mg x z) (hg:Gl X x:=by rfl) (hd:(x == ("__debug__" : Str))=false:=by decide):PE X (.Name x pos) (tC (.str z)):=by
 obtain ⟨t,e⟩:=h
 exact pe_glob hg e ⟨t,rfl⟩ hd
theorem Cm {X:Cx} (h:GlI X.mg x i) (hg:Gl X x:=by rfl) (hd:(x == ("__debug__" : Str))=false:=by decide):PE X (.Name x pos) (tC (.int i)):=by
 obtain ⟨t,e⟩:=h
 exact pe_glob hg e ⟨t,rfl⟩ hd
theorem wu:bootBuiltins "str" = some (.type "str"):=by decide +kernel
theorem n_:bootBuiltins "list" = some (.type "list"):=by decide +kernel
theorem uQ:bootBuiltins "tuple" = some (.type "tuple"):=by decide +kernel
theorem fC:bootBuiltins "isinstance" = some (.builtin "isinstance"):=by decide +kernel
theorem Bc:bootBuiltins "all" = some (.builtin "all"):=by decide +kernel
theorem jl:bootBuiltins "len" = some (.builtin "len"):=by decide +kernel
theorem rK {X:Cx} {T:String} (hm:X.mg x=none) (hv:bootBuiltins x=some (.type T)) (hg:Gl X x:=by rfl) (hn:x ≠ "__name__" := by decide) (hd:(x == ("__debug__" : Str))=false:=by decide):PE X (.Name x pos) (tC (.ty T)) :=
 pe_bltn hg hm hv rfl hn hd
def inS (i j:Str):Bool:=!(Builtin.Str.occurrences j i 0 j.length 1).isEmpty
theorem xR (c:Nat) (j:Str):inS ⟨#[c]⟩ j=decide (c∈j.cps.toList):=PySem.StrLaws.found_one j c
def rInU (K:PySem.W.Frag) (neg:Bool):R2:=fun x y H Q=>match x,y with
 | .str i,.str j=>Q (.bl (if neg then !inS i j else inS i j)) H
 | _,.ref p=>(∃ o,DGet H p x o/\Q (.bl (if neg then !o.isSome else o.isSome)) H)\/rIn K neg x y H Q
 | _,_=>False
theorem Aj {X:Cx} (hu:X.A.units+64<cLine):OpR X (compareOp .In) (rInU X.K false):=by
 intro pins s σ H x y v u Q I rx ry h
 unfold rInU at h
 split at h
 ·exact op_in_str pins s σ H _ _ v u Q I rx ry ⟨_,_,rfl,rfl,h⟩
 ·rcases h with ⟨o,g,q⟩ | h
  ·cases ry
   exact d_in (by lia) I g rx fun s3 I3=>⟨.bl o.isSome,H,I3,rfl,q⟩
  ·exact op_in_seq pins s σ H _ _ v u Q I rx ry h
 ·exact h.elim
theorem tE {X:Cx} (hu:X.A.units+64<cLine):OpR X (compareOp .NotIn) (rInU X.K true):=by
 intro pins s σ H x y v u Q I rx ry h
 unfold rInU at h
 split at h
 ·exact op_notin_str pins s σ H _ _ v u Q I rx ry ⟨_,_,rfl,rfl,h⟩
 ·rcases h with ⟨o,g,q⟩ | h
  ·cases ry
   exact d_notIn (by lia) I g rx fun s3 I3=>⟨.bl (!o.isSome),H,I3,rfl,q⟩
  ·exact op_notIn_seq pins s σ H _ _ v u Q I rx ry h
 ·exact h.elim
theorem Same.upd (h:Same H H') (hp:H' p=none):Same H (upd H' p o):=fun b u e=>by
 have e':=h b u e
 rw [upd_ne (ne_of_none e' hp)]
 exact e'
theorem Same.lst {K:PySem.W.Frag} (e:Same H H') (h:SqL K H a xs):SqL K H' a xs:=e.seq h
theorem Same.tup {K:PySem.W.Frag} (e:Same H H') (h:SqT K H a xs):SqT K H' a xs:=by
 rcases h with (h | ⟨o,h⟩) | h
 ·exact .inl (.inl (e _ _ h))
 ·exact .inl (.inr ⟨o,e _ _ h⟩)
 ·exact .inr h
mutual
theorem Rep.same {K:PySem.W.Frag} (s:Same H H'):∀ {d:PyData} {v:V},Rep K H d v->Rep K H' d v
 | _,_,.none=>.none
 | _,_,.bool b=>.bool b
 | _,_,.int i=>.int i
 | _,_,.str x=>.str x
 | _,_,.list h hs=>.list (s.lst h) (Reps.same s hs)
 | _,_,.tuple h hs=>.tuple (s.tup h) (Reps.same s hs)
theorem Reps.same {K:PySem.W.Frag} (s:Same H H'):∀ {ds:List PyData} {vs:List V},Reps K H ds vs->Reps K H' ds vs
 | _,_,.nil=>.nil
 | _,_,.cons h hs=>.cons (Rep.same s h) (Reps.same s hs)
end
section
variable {X:Cx} {K:PySem.W.Frag}
theorem kEq (hu:X.A.units+64<cLine) (hK:X.K=K:=by rfl):OpR X (compareOp .Eq) (rEqU K):=by subst hK; exact Aa hu
theorem kNe (hu:X.A.units+64<cLine) (hK:X.K=K:=by rfl):OpR X (compareOp .NotEq) (rNeU K):=by subst hK; exact z7 hu
theorem kIn (hu:X.A.units+64<cLine) (hK:X.K=K:=by rfl):OpR X (compareOp .In) (rInU K false):=by subst hK; exact Aj hu
theorem Af (hu:X.A.units+64<cLine) (hK:X.K=K:=by rfl):OpR X (compareOp .NotIn) (rInU K true):=by subst hK; exact tE hu
theorem kAll (hc:X.calm=true:=by rfl) (hK:X.K=K:=by rfl):CallR X (.builtin "all") (rAll K):=by subst hK; exact uL hc
end
theorem Hd {α:Type} {a:α} {p:α->Prop}:(∃ v,a=v/\p v)↔p a:=⟨fun ⟨_,e,h⟩=>e ▸ h,fun h=>⟨a,rfl,h⟩⟩
end L2
namespace L2
open PySem PySem.Spec PyProof.Rows
abbrev Ents:=Array DictEntry
def RawD (h:Heap) (d:Addr) (es:Ents) (ep:Nat):Prop:=∃ o,h.get? d=some o/\o.ExactDict/\o.data=.dict es ep
theorem RawD.typ {s:Shared} {d:Addr} {es:Ents} {ep:Nat} (x:RawD s.heap d es ep):s.TypeIs (.ref d) "dict" := let ⟨o,e,c,_⟩:=x; ⟨o,e,c.1⟩
section
variable {prog:Program} {w:World} {A:Around} {E:Value->Shared->Prop} {s:Shared} {d it:Addr} {es:Ents} {ep i:Nat}
theorem pN {Q:Value->Shared->Prop} (lo:(d == sysModules)=false) (x:RawD s.heap d es ep)
  (q:Q (.ref s.heap.objs.size) { s with heap:=s.heap.push { cls:=.type "dict_keyiterator",data:=.fields #[.ref d,.int 0 0,.int es.size 0,.int ep 0] } }):wpAny (model prog w) A (pyIter (.ref d)) Q E s:=by
 obtain ⟨o,ho,hc,hdat⟩:=id x
 refine wpAny_pyIter_slot x.typ F.slot_dict_iter (wpAny_call_entry F.slot_dict_iter x.typ F.entry_dict_iter ?_ (F.args_dict_iter_1 _))
 unfold Builtin.«dict.__iter__»
 refine xaa ?_
 unfold Builtin.Dict.dictSlotNone
 refine xaa (wpAny_notOrdered_dict x.typ ?_)
 refine (show wpAny _ _ (pure (Value.ref d)) _ _ s from xah ?_)
 refine (show wpAny _ _ (Builtin.Dict.showsAll d >>= _) _ _ s from ?_)
 unfold Builtin.Dict.showsAll
 rw [if_neg (by rw [lo]; decide)]
 refine xaa (xah (xaa (wpAny_dictEntries ho hdat (xaa (wpAny_dictEpoch ho hdat (xaa (wpAny_newObj_type (xah ⟨_,rfl, "dict_keyiterator",_,⟨_,xaw _ rfl,rfl⟩,F.slot_dict_keyiterator_next.lookup,?_⟩))))))))
 simpa [rawInt] using q
theorem pD (hit:s.heap.IsKeyIter it d i es.size ep) (x:RawD s.heap d es ep) (hx:i<es.size)
  (q:∀ h',h'.IsKeyIter it d (i+1) es.size ep->Heap.SameBut it s.heap h'->Q (some es[i].key) { s with heap:=h' }):wpAny (model prog w) A (pyNext (.ref it)) Q E s:=by
 obtain ⟨o,ho,hc,hd⟩:=id hit
 obtain ⟨od,hod,hcd,hdd⟩:=id x
 have ty:=hit.typeIs
 unfold pyNext
 refine xaa (wpAny_attempt (wpAny_callSpecial?_slot (name:=Str.ofString "__next__") ty F.slot_dict_keyiterator_next (wpAny_call_entry F.slot_dict_keyiterator_next ty F.entry_dict_keyiterator_next ?_ (F.args_dict_keyiterator_next_1 _))))
 refine xaa (xah (xaa (xaa ?_)))
 first | refine xaa (wpAny_typeNameOfWhole_keyiter ty (xah ?_)) | refine xaa (wpAny_typeNameOf_keyiter ty (xah ?_))
 refine xaa (wpAny_fieldsOf ho hd ?_)
 simp only [show Builtin.Dict_items.ownsTuple "dict_keyiterator" = false by decide,xar,if_false]
 refine (show wpAny _ _ (if (Value.ref d == Value.none)=true then _ else _) _ _ s from ?_)
 rw [if_neg (show ¬ ((Value.ref d == Value.none)=true) by intro h; cases h)]
 refine xaa (xah (xaa (wpAny_dictEntries hod hdd ?_)))
 rw [if_neg (by intro h; simp at h)]
 refine xaa (xah (xaa (wpAny_dictEpoch hod hdd ?_)))
 rw [if_neg (by intro h; simp at h)]
 refine xah ?_
 simp only [show ¬ ((i:Int)<0) by lia,if_false,Int.toNat_natCast,xbF hx]
 refine xaa ?_
 first | refine xaa (wpAny_typeNameOfWhole_keyiter ty (xah ?_)) | refine xaa (wpAny_typeNameOf_keyiter ty (xah ?_))
 refine xaa (wpAny_isOneOf_keyiter ty ?_)
 refine (show wpAny _ _ (setField (.ref it) 1 (rawInt ((i:Int)+1)) >>= _) _ _ s from xaa (wpAny_setField ho hd (by simp) ?_))
 have hit':(s.heap.update it (Obj.mapFields (·.setIfInBounds 1 (rawInt ((i:Int)+1))))).IsKeyIter it d (i+1) es.size ep :=
  ⟨_,Heap.get?_update_self _ ho (Obj.isFreed_of_fields (Obj.data_mapFields hd _)),(Obj.cls_mapFields ..).trans hc,by rw [Obj.data_mapFields hd]; simp [rawInt]⟩
 refine xaa (wpAny_holding (xaa (wpAny_isOneOf_keyiter (s:={ s with heap:=s.heap.update it (Obj.mapFields (·.setIfInBounds 1 (rawInt ((i:Int)+1)))) }) hit'.typeIs ?_)))
 refine (show wpAny _ _ (pure es[i].key) _ _ _ from xah (xah ⟨_,rfl,xah (q _ hit' (Heap.SameBut.update ..))⟩))
theorem oO (hh:A.handled=none) (hit:s.heap.IsKeyIter it d es.size es.size ep) (x:RawD s.heap d es ep) (q:∀ h',Heap.ExtBut it s.heap h'->Q none { s with heap:=h' }) :
  wpAny (model prog w) A (pyNext (.ref it)) Q E s:=by
 obtain ⟨o,ho,hc,hd⟩:=id hit
 obtain ⟨od,hod,hcd,hdd⟩:=id x
 have ty:=hit.typeIs
 unfold pyNext
 refine xaa (wpAny_attempt (wpAny_callSpecial?_slot (name:=Str.ofString "__next__") ty F.slot_dict_keyiterator_next (wpAny_call_entry F.slot_dict_keyiterator_next ty F.entry_dict_keyiterator_next ?_ (F.args_dict_keyiterator_next_1 _))))
 refine xaa (xah (xaa (xaa ?_)))
 first | refine xaa (wpAny_typeNameOfWhole_keyiter ty (xah ?_)) | refine xaa (wpAny_typeNameOf_keyiter ty (xah ?_))
 refine xaa (wpAny_fieldsOf ho hd ?_)
 simp only [show Builtin.Dict_items.ownsTuple "dict_keyiterator" = false by decide,xar,if_false]
 refine (show wpAny _ _ (if (Value.ref d == Value.none)=true then _ else _) _ _ s from ?_)
 rw [if_neg (show ¬ ((Value.ref d == Value.none)=true) by intro h; cases h)]
 refine xaa (xah (xaa (wpAny_dictEntries hod hdd ?_)))
 rw [if_neg (by intro h; simp at h)]
 refine xaa (xah (xaa (wpAny_dictEpoch hod hdd ?_)))
 rw [if_neg (by intro h; simp at h)]
 refine xah ?_
 simp only [show ¬ ((es.size:Int)<0) by lia,if_false,Int.toNat_natCast,xbs (xae es.size)]
 refine xaa ?_
 first | refine xaa (wpAny_typeNameOfWhole_keyiter ty (xah ?_)) | refine xaa (wpAny_typeNameOf_keyiter ty (xah ?_))
 refine (show wpAny _ _ (setField (.ref it) 0 .none >>= _) _ _ s from xaa (wpAny_setField ho hd (by simp) ?_))
 refine (show wpAny _ _ (newExc (.type "StopIteration") [] >>= _) _ _ _ from xaa ?_)
 simp only [newExc,newTuple]
 refine xaa (wpAny_newObj_type ?_ (by size_fits))
 refine xaa (m:=firstArgMember _ _) (wpAny_of_eq (a:=Value.none) (by first | rfl | (simp only [firstArgMember]; rfl)) (wpAny_newObj_type ?_ (by size_fits)))
 simp only [raiseNew]
 refine xaa (wpAny_handled ?_)
 rw [show A.in1.handled=none from hh]
 refine xaa (xah (wpAny_throw ?_))
 refine xaa (wpAny_isInstance (b:=true) (T := "StopIteration") ⟨_,xaw _ rfl,rfl⟩ isSubtype_stop ?_)
 exact xah (q _ (((Heap.SameBut.update ..).extBut.push _).push _))
theorem RawD.at (x:RawD h d es ep) (e:∀ o,h.get? d=some o->h'.get? d=some o):RawD h' d es ep:=let ⟨o,ho,r⟩:=x; ⟨o,e o ho,r⟩
theorem RawD.lt (x:RawD h d es ep):d<h.objs.size:=let ⟨_,e,_⟩:=x; xan e
theorem rY (hh:A.handled=none) (I:Addr) (hne:d≠I):Walks prog w A I [I,d] [I] es.size (fun i v=>∃ e,es[i]? = some e/\v=e.key) (fun i h=>h.IsKeyIter I d i es.size ep/\RawD h d es ep) where
 sub:=fun b hb=>by simp at hb; simp [hb]
 frame:=fun _ _ _ st hk=>⟨st.1.at fun o e=>hk I (by simp) o e,st.2.at fun o e=>hk d (by simp) o e⟩
 item:=fun i s Q E hi st hQ=>pD st.1 st.2 hi fun h' a b=>hQ _ h' s.toks ⟨es[i],by simp [hi],rfl⟩ ⟨a,st.2.at fun o e=>b.extBut d o hne e⟩ fun c o hb e=>b.extBut c o (fun h=>hb (by simp [h])) e
 done:=fun s Q E st hQ=>oO hh st.1 st.2 fun h' he'=>hQ h' s.toks fun b o hb e=>he' b o (fun h=>hb (by simp [h])) e
 self:=fun _ _ _ _ st hQ=>wpAny_pyIter_keyiter st.1 hQ
theorem yR (lo:(d == sysModules)=false):PySem.W.KdlSrc prog w "dict" d d es.size (fun i v=>∃ e,es[i]? = some e/\v=e.key) (fun h=>RawD h d es ep) where
 type:=fun _ x=>x.typ
 there:=fun _ x=>⟨x.lt,x.lt⟩
 keep:=fun _ _ x hk=>x.at fun o e=>hk d (.inl rfl) o e
 notList:=by decide
 notTuple:=by decide
 hint:=fun _ _ _ _ x hq=>PySem.W.kdl_hint_dict x.typ hq
 iter:=fun _ _ hh x=>⟨_,_,(fun _ _ hq=>pN lo x hq),rY hh _ (xav x.lt),⟨⟨_,xaw _ rfl,rfl,rfl⟩,x.at fun o e=>xaj _ e⟩⟩
end
theorem Paired.n0 {α β:Type} {R:α->β->Prop} {bs:List β} (h:Paired R [] bs):bs=[]:=by cases h; rfl
theorem Paired.c {α β:Type} {R:α->β->Prop} {a:α} {as:List α} {bs:List β} (h:Paired R (a :: as) bs):∃ b cs,bs=b :: cs/\R a b/\Paired R as cs:=by
 cases h with
 | cons r t=>exact ⟨_,_,rfl,r,t⟩
def cC (H:Hp) (ys:List V) (ks:List (List Key)):Prop:=Paired (fun (v:V) (k:List Key)=>∃ b,v=.ref b/\H b=some (.tup (k.map kV))) ys ks
section
variable {X:Cx}
def pI:List V->Hp->VK->Prop:=fun xs H Q=>match xs with
 | [.ref p]=>∃ kvs,Rd H p (.dT kvs)/\∀ ys l,cC H ys (kvs.map (·.1))->H l=none->Q (.ref l) (upd H l (.lst ys))
 | _=>False
theorem qT
  (h:Paired (fun (p:List Key × V) (q:List Key × Addr × Value)=>p.1=q.1/\H q.2.1=some (.tup (p.1.map kV))/\RelV p.2 q.2.2) kvs xs) :
  cC H (xs.map fun q=>.ref q.2.1) (kvs.map (·.1))/\Vals (xs.map fun q=>.ref q.2.1) ((xs.map (entryOfKey (tupleKind (mixKind prog w)))).map (·.key)):=by
 induction h with
 | nil=>exact ⟨.nil,.nil⟩
 | cons r t ih=>exact ⟨.cons ⟨_,rfl,r.2.1⟩ ih.1,.cons rfl ih.2⟩
theorem qO (hc:X.calm=true):CallR X (.type "list") pI:=by
 intro pins s σ H xs us Q I r h
 unfold pI at h
 split at h
 ·rename_i p
  obtain ⟨kvs,e,q⟩:=h
  obtain ⟨u,rfl,ru⟩:=Vals.one r
  cases ru
  obtain ⟨z,y,ps,rel,o,es,ep,h1,h2,h3,h4,h5⟩:=(show ObjOk X.prog X.w H s.heap p (.dT kvs) from I.rd e)
  obtain ⟨ta,va⟩:=qT (prog:=X.prog) (w:=X.w) rel
  have hlen:es.size=kvs.length:=by
   have:=congrArg List.length h4
   rw [xaI,xab] at this
   rw [this]; exact rel.length.symm
  refine PySem.W.kdl_call (yR (es:=es) (ep:=ep) y) (I.ok.hd hc) ⟨o,h1,h2,h3⟩ (by lia) fun h' tk acc c kp eo hacc=>?_
  have hv:acc.toList=(ps.map (entryOfKey (tupleKind (mixKind X.prog X.w)))).map (·.key):=by
   apply xbP
   intro i
   by_cases hi:i<es.size
   ·have hi2:i<acc.size:=by rw [hacc.1]; exact hi
    obtain ⟨en,e1,e2⟩:=hacc.2 i acc[i] (by simp [hi2])
    rw [<- h4,xaK,xaF,xaF,e1]
    simp [hi2,e2]
   ·rw [<- h4,xaK,xaF,xaF,xbs (by rw [hacc.1]; lia),xbs (by lia)]
    rfl
  refine ⟨.ref s.heap.objs.size,_,I.laid (t':=tk) kp (xae _) (show ObjOk X.prog X.w _ h' _ (.lst (ps.map fun q=>.ref q.2.1)) from ⟨?_,acc.toList,c,?_,?_⟩),rfl,q _ _ ta (I.hok.fresh (xae _))⟩
  ·rw [xab,<- rel.length]; exact z
  ·rw [hv]; exact va
  ·rw [xb2]; exact eo
 ·exact h.elim
end
end L2
namespace Tim
open PySem PyProof.Rows
def R (r:Value->Int) (xs:Array Keyed) (i:Nat):Int:=match xs[i]? with
 | some p=>r p.1
 | none=>0
theorem cu (h:xs[i]? = ys[j]?):R r xs i=R r ys j:=by unfold R; rw [h]
def Cmp (prog:Program) (w:World) (A:Around) (s:Shared) (κ:SortKind) (r:Value->Int) (P:Value->Prop):Prop :=
 ∀ x y,P x->P y->∀ (Q:Bool->Shared->Prop) (E:Value->Shared->Prop),Q (decide (r x<r y)) s->wpAny (model prog w) A (keyLt' κ x y) Q E s
def AllP (P:Value->Prop) (xs:Array Keyed):Prop:=∀ p∈xs.toList,P p.1
theorem AllP.perm {P:Value->Prop} (h:AllP P xs) (hp:ys.Perm xs):AllP P ys:=fun p hm=>h p ((xbC.mp hp).mem_iff.mp hm)
theorem AllP.at {P:Value->Prop} {xs:Array Keyed} (h:AllP P xs) {i:Nat} {p:Keyed} (e:xs[i]? = some p):P p.1:=h p (by
 obtain ⟨hi,rfl⟩:=xbh.mp e
 simp)
structure Win (lo hi:Nat) (st st':SortSt):Prop where
 kind:kindOf st'=kindOf st
 failed:failedOf st'=failedOf st
 pend:pendingOf st'=pendingOf st
 perm:(arrOf st').Perm (arrOf st)
 out:∀ k,k<lo\/hi<=k->(arrOf st')[k]? = (arrOf st)[k]?
theorem Win.refl (lo hi:Nat) (st:SortSt):Win lo hi st st:=⟨rfl,rfl,rfl,Array.Perm.refl _,fun _ _=>rfl⟩
theorem Win.trans {lo hi:Nat} {a b c:SortSt} (h:Win lo hi a b) (g:Win lo hi b c):Win lo hi a c :=
 ⟨g.kind.trans h.kind,g.failed.trans h.failed,g.pend.trans h.pend,g.perm.trans h.perm,fun k hk=>(g.out k hk).trans (h.out k hk)⟩
theorem Win.mono {lo hi lo' hi':Nat} {a b:SortSt} (h:Win lo hi a b) (h1:lo'<=lo) (h2:hi<=hi'):Win lo' hi' a b :=
 ⟨h.kind,h.failed,h.pend,h.perm,fun k hk=>h.out k (by lia)⟩
theorem Win.size {lo hi:Nat} {a b:SortSt} (h:Win lo hi a b):(arrOf b).size=(arrOf a).size:=h.perm.size_eq
def Up (r:Value->Int) (xs:Array Keyed) (lo hi:Nat):Prop:=∀ i j,lo<=i->i<=j->j<hi->R r xs i<=R r xs j
def Down (r:Value->Int) (xs:Array Keyed) (lo hi:Nat):Prop:=∀ i j,lo<=i->i<=j->j<hi->R r xs j<=R r xs i
theorem oR (hs:src<xs.size) (hd:d<=src) (k:Nat) :
  R r (bubble xs src d) k=if k=src - d then R r xs src else if src - d<k/\k<=src then R r xs (k - 1) else R r xs k:=by
 have e:=getElem?_bubble hs d hd k
 by_cases h1:k=src - d
 ·rw [if_pos h1] at e ⊢; exact cu e
 ·rw [if_neg h1] at e ⊢
  by_cases h2:src - d<k/\k<=src
  ·rw [if_pos h2] at e ⊢; exact cu e
  ·rw [if_neg h2] at e ⊢; exact cu e
theorem lH (hj:j<=xs.size) (k:Nat) :
  R r (mirror xs i j ((j - i) / 2)) k=if i<=k/\k<j then R r xs (i+j - 1 - k) else R r xs k:=by
 have e:=getElem?_mirror_all (i:=i) hj k
 by_cases h1:i<=k/\k<j
 ·rw [if_pos h1] at e ⊢; exact cu e
 ·rw [if_neg h1] at e ⊢; exact cu e
theorem bF (hj:j<=xs.size) (heq:∀ k,i<=k->k<j->R r xs k=R r xs (j - 1)) (k:Nat) :
  R r (mirror xs i j ((j - i) / 2)) k=R r xs k:=by
 rw [lH hj]
 split
 ·rw [heq _ (by lia) (by lia),heq k (by lia) (by lia)]
 ·rfl
section
variable {prog:Program} {w:World} {A:Around} {E:Value->Shared->Prop} {s:Shared} {κ:SortKind} {r:Value->Int} {P:Value->Prop}
theorem m7 {st:SortSt} {x y:Keyed} {Q:Option Bool->SortSt->Prop} (C:Cmp prog w A s κ r P) (hk:kindOf st=κ) (hx:P x.1) (hy:P y.1) (h:Q (some (decide (r x.1<r y.1))) st) :
  wpS (model prog w) A E s (lt' x y) Q st:=by
 rw [lt'_eq]
 refine wpS_bind (wpS_get ?_)
 rw [hk]
 refine wpS_bind (wpS_lift (wpAny_attempt (C x.1 y.1 hx hy _ _ ⟨rfl,?_⟩)))
 exact wpS_pure h
theorem aB {xs:Array Keyed} {i:Nat} {Q:Keyed->SortSt->Prop} {st:SortSt} (hi:i<xs.size) (h:∀ p,xs[i]? = some p->Q p st):wpS (model prog w) A E s (elem' xs i) Q st:=by
 rw [elem'_eq,getElem?_pos xs i hi]
 exact wpS_pure (h _ (getElem?_pos xs i hi))
theorem jc {st:SortSt} {i j:Nat} {Q:Option Bool->SortSt->Prop} (C:Cmp prog w A s κ r P) (hk:kindOf st=κ) (hP:AllP P (arrOf st)) (hi:i<(arrOf st).size) (hj:j<(arrOf st).size)
  (h:Q (some (decide (R r (arrOf st) i<R r (arrOf st) j))) st):wpS (model prog w) A E s (ltAt' i j) Q st:=by
 rw [ltAt'_eq]
 refine wpS_bind (wpS_get ?_)
 show wpS _ _ _ _ (do let x <- elem' (arrOf st) i; let y <- elem' (arrOf st) j; lt' x y) Q st
 refine wpS_bind (aB hi fun p ep=>wpS_bind (aB hj fun q eq=>m7 C hk (hP.at ep) (hP.at eq) ?_))
 have e1:R r (arrOf st) i=r p.1:=by unfold R; rw [ep]
 have e2:R r (arrOf st) j=r q.1:=by unfold R; rw [eq]
 rw [<- e1,<- e2]
 exact h
theorem cD {st:SortSt} {i j:Nat} {Q:Unit->SortSt->Prop} (h:Q () (setArr st (mirror (arrOf st) i j ((j - i) / 2)))) :
  wpS (model prog w) A E s (reverseSlice' i j) Q st:=by
 rw [reverseSlice'_eq]; exact wpS_modify h
theorem dZ {st:SortSt} {i j:Nat} (hj:j<=(arrOf st).size):Win i j st (setArr st (mirror (arrOf st) i j ((j - i) / 2))) :=
 ⟨rfl,rfl,rfl,mirror_perm _ _ _ _,fun k hk=>by
  have e:=getElem?_mirror_all (i:=i) hj k
  rw [if_neg (by lia)] at e
  exact e⟩
theorem qL {st:SortSt} {lo src d:Nat} (hs:src<(arrOf st).size) (hd:lo+d<=src):Win lo (src+1) st (setArr st (bubble (arrOf st) src d)) :=
 ⟨rfl,rfl,rfl,bubble_perm _ _ _,fun k hk=>by
  have e:=getElem?_bubble hs d (by walk_at "s4") k
  rw [if_neg (by lia),if_neg (by lia)] at e
  exact e⟩
theorem wpS_binarySort {st:SortSt} {lo n ok:Nat} {Q:Bool->SortSt->Prop} (C:Cmp prog w A s κ r P) (hk:kindOf st=κ) (hP:AllP P (arrOf st)) (hn:lo+n<=(arrOf st).size) (hok:ok<=n) (hs:Up r (arrOf st) lo (lo+ok))
  (h:∀ st',Win lo (lo+n) st st'->Up r (arrOf st') lo (lo+n)->Q true st'):wpS (model prog w) A E s (binarySort' lo n ok) Q st:=by
 rw [binarySort'_eq]
 refine wpS_bind (wpS_mono (wpS_forRange (I:=fun k c st'=>c=(none,())/\Win lo (lo+n) st st'/\Up r (arrOf st') lo (lo+min k n))
  (Q:=fun c st'=>c=(none,())/\Win lo (lo+n) st st'/\Up r (arrOf st') lo (lo+n)) ?step ?fin ?init) ?post)
 case post =>
  rintro c st' ⟨rfl,hB',hs'⟩
  exact wpS_pure (h st' hB' hs')
 case init =>
  refine ⟨rfl,.refl _ _ _,fun i j hl hij hj=>?_⟩
  by_cases h1:ok=0
  ·have:i=j:=by lia
   subst this; exact xa1 _
  ·exact hs i j hl hij (by lia)
 case fin =>
  rintro c st' ⟨hc,hB',hs'⟩
  refine ⟨hc,hB',?_⟩
  rwa [show min (max (max ok 1) n) n=n by lia] at hs'
 case step =>
  rintro k c st' hak hkn ⟨rfl,hB',hs'⟩
  rw [show min k n=k by lia] at hs'
  have hsz:=hB'.size
  have hk':kindOf st'=κ:=hB'.kind.trans hk
  have hP':=hP.perm hB'.perm
  refine wpS_bind (wpS_mono (wpS_forRange (I:=fun x c st''=>st''=st'/\∃ l r',c=(none,l,r')/\l<=r'/\r'<=k/\r' - l<=k - x /\
    (∀ i,lo<=i->i<lo+l->R r (arrOf st') i<=R r (arrOf st') (lo+k))/\(∀ i,lo+r'<=i->i<lo+k->R r (arrOf st') (lo+k)<R r (arrOf st') i))
   (Q:=fun c st''=>st''=st'/\∃ l r',c=(none,l,r')/\l<=k /\
    (∀ i,lo<=i->i<lo+l->R r (arrOf st') i<=R r (arrOf st') (lo+k))/\(∀ i,lo+l<=i->i<lo+k->R r (arrOf st') (lo+k)<R r (arrOf st') i)) ?istep ?ifin ?iinit) ?ipost)
  case iinit=>exact ⟨rfl,0,k,rfl,by exact xao _,by exact xae _,by exact Nat.sub_le _ _,fun i _ hi=>by lia,fun i h1 h2=>by lia⟩
  case ifin =>
   rintro c st'' ⟨rfl,l,r',rfl,hlr,hrk,hm,hlo,hhi⟩
   have:l=r':=by lia
   subst this
   exact ⟨rfl,l,l,rfl,hrk,hlo,hhi⟩
  case istep =>
   rintro x c st'' _ hxk ⟨rfl,l,r',rfl,hlr,hrk,hm,hlo,hhi⟩
   dsimp only
   by_cases hge:l >= r'
   ·rw [if_pos hge]
    have:l=r':=by exact xb6 ‹_› ‹_›
    subst this
    exact wpS_pure ⟨rfl,l,l,rfl,hrk,hlo,hhi⟩
   ·rw [if_neg hge]
    refine wpS_bind (jc C hk' hP' (by lia) (by lia) ?_)
    by_cases hless:R r (arrOf st'') (lo+k)<R r (arrOf st'') (lo+(l+r') / 2)
    ·simp only [hless,decide_true,if_true]
     refine wpS_pure ⟨rfl,l,(l+r') / 2,rfl,by lia,by lia,by lia,hlo,fun i h1 h2=>?_⟩
     exact Int.lt_of_lt_of_le hless (hs' _ _ (by exact xbb _ _) h1 h2)
    ·simp only [hless,decide_false,xar,if_false]
     refine wpS_pure ⟨rfl,(l+r') / 2+1,r',rfl,by lia,by lia,by lia,fun i h0 h1=>?_,hhi⟩
     exact xaU (hs' i (lo+(l+r') / 2) h0 (by lia) (by lia)) (Int.not_lt.mp hless)
  case ipost =>
   rintro c st'' ⟨rfl,l,r',rfl,hlk,hlo,hhi⟩
   show wpS _ _ _ _ (do moveDown' (lo+k) (lo+l); pure (ForInStep.yield (none,()))) _ _
   rw [moveDown'_eq]
   have hks:lo+k<(arrOf st'').size:=by lia
   refine wpS_bind (wpS_modify (wpS_pure ⟨rfl,hB'.trans ((qL (lo:=lo) hks (by lia)).mono (xae _) (by lia)),?_⟩))
   rw [show min (k+1) n=k+1 by exact Nat.min_eq_left ‹_›]
   intro i j hl hij hj
   show R r (bubble (arrOf st'') (lo+k) (lo+k - (lo+l))) i<=R r (bubble (arrOf st'') (lo+k) (lo+k - (lo+l))) j
   rw [oR hks (by exact Nat.sub_le _ _),oR hks (by exact Nat.sub_le _ _),show lo+k - (lo+k - (lo+l))=lo+l by lia]
   repeat' split
   all_goals first
    | (exfalso; lia)
    | exact xa1 _
    | exact hlo _ (by lia) (by lia)
    | exact xa9 (hhi _ (by lia) (by lia))
    | exact hs' _ _ (by lia) (by lia) (by lia)
end
def ascL (lo a nrem:Nat):StateT SortSt Sem AscSt :=
 forIn [a:nrem] ((none,a):AscSt) fun _ __s=>do
  let __x ← ltAt' (lo + __s.snd) (lo + __s.snd - 1)
  match __x with
  | some smaller=>if smaller=true then pure (ForInStep.done (none,__s.snd)) else pure (ForInStep.yield (none,__s.snd+1))
  | _=>pure (ForInStep.done (some none,__s.snd))
def l_ (lo n nrem:Nat):StateT SortSt Sem (Option Nat):=do
 reverseSlice' lo (lo+n)
 let __s ← ascL lo n nrem
 match __s.fst with
 | some r=>pure r
 | none=>pure (some __s.snd)
def uX (lo n nrem:Nat):StateT SortSt Sem DescSt :=
 forIn [n:nrem] ((none,n,0):DescSt) fun _ __s=>do
  let __x ← ltAt' (lo + __s.snd.fst) (lo + __s.snd.fst - 1)
  match __x with
  | some smaller =>
   if smaller=true then
    if __s.snd.snd>0 then do
     reverseSlice' (lo+__s.snd.fst - (__s.snd.snd+1)) (lo+__s.snd.fst)
     pure (ForInStep.yield (none,__s.snd.fst+1,0))
    else pure (ForInStep.yield (none,__s.snd.fst+1,0))
   else do
    let __x ← ltAt' (lo+__s.snd.fst - 1) (lo+__s.snd.fst)
    match __x with
    | some larger =>
     if larger=true then pure (ForInStep.done (none,__s.snd.fst,__s.snd.snd))
     else pure (ForInStep.yield (none,__s.snd.fst+1,__s.snd.snd+1))
    | _=>pure (ForInStep.done (some none,__s.snd.fst,__s.snd.snd))
  | _=>pure (ForInStep.done (some none,__s.snd.fst,__s.snd.snd))
def dJ (lo n nrem:Nat):StateT SortSt Sem (Option Nat):=do
 liftM (rule "list.sort.descending-run")
 let __s ← uX lo (n+1) nrem
 match __s.fst with
 | some r=>pure r
 | none =>
  if __s.snd.snd>0 then do
   reverseSlice' (lo+__s.snd.fst - (__s.snd.snd+1)) (lo+__s.snd.fst)
   l_ lo __s.snd.fst nrem
  else l_ lo __s.snd.fst nrem
theorem lY (lo nrem:Nat):countRun' lo nrem=(do
  let __s ← ascL lo 1 nrem
  match __s.fst with
  | some r=>pure r
  | none =>
   if (__s.snd == nrem)=true then pure (some __s.snd)
   else if __s.snd>1 then do
    let __x ← ltAt' lo (lo+__s.snd - 1)
    match __x with
    | some rose=>if rose=true then pure (some __s.snd) else do
      reverseSlice' lo (lo+__s.snd)
      dJ lo __s.snd nrem
    | _=>pure none
   else dJ lo __s.snd nrem):=by
 rw [countRun'_eq]
 dsimp only
 unfold dJ l_ uX ascL
 congr 1
 funext __s
 obtain ⟨r,n⟩:=__s
 cases r with
 | some r=>rfl
 | none =>
  dsimp only
  split
  ·rfl
  ·split
   ·congr 1
    funext x
    cases x with
    | none=>rfl
    | some rose =>
     dsimp only
     split
     ·rfl
     ·congr 1
      funext _r
      (congr 1; funext _u; congr 1; congr 1; funext s2; obtain ⟨r2,n2,q2⟩:=s2; cases r2 with
       | some r2=>rfl
       | none=>(dsimp only; split; (congr 1; funext _v; (congr 1; funext _w; congr 1; (funext s3; obtain ⟨r3,n3⟩:=s3; cases r3 <;> rfl))); (congr 1; funext _w; congr 1; (funext s3; obtain ⟨r3,n3⟩:=s3; cases r3 <;> rfl))))
   ·(congr 1; funext _u; congr 1; congr 1; funext s2; obtain ⟨r2,n2,q2⟩:=s2; cases r2 with
     | some r2=>rfl
     | none=>(dsimp only; split; (congr 1; funext _v; (congr 1; funext _w; congr 1; (funext s3; obtain ⟨r3,n3⟩:=s3; cases r3 <;> rfl))); (congr 1; funext _w; congr 1; (funext s3; obtain ⟨r3,n3⟩:=s3; cases r3 <;> rfl))))
section
variable {prog:Program} {w:World} {A:Around} {E:Value->Shared->Prop} {s:Shared} {κ:SortKind} {r:Value->Int} {P:Value->Prop}
theorem pC {st:SortSt} {lo a nrem:Nat} {Q:AscSt->SortSt->Prop} (C:Cmp prog w A s κ r P) (hk:kindOf st=κ) (hP:AllP P (arrOf st)) (hn:lo+nrem<=(arrOf st).size) (ha:1<=a) (han:a<=nrem)
  (hs:Up r (arrOf st) lo (lo+a))
  (h:∀ n,a<=n->n<=nrem->Up r (arrOf st) lo (lo+n)->(n=nrem\/R r (arrOf st) (lo+n)<R r (arrOf st) (lo+n - 1))->Q (none,n) st) :
  wpS (model prog w) A E s (ascL lo a nrem) Q st:=by
 unfold ascL
 refine wpS_forRange (I:=fun x c st'=>st'=st/\c=(none,x)/\Up r (arrOf st) lo (lo+x)) ?step ?fin ⟨rfl,rfl,hs⟩
 case fin =>
  rintro c st' ⟨rfl,rfl,hs'⟩
  rw [show max a nrem=nrem by lia] at hs' ⊢
  exact h nrem han (xae _) hs' (.inl rfl)
 case step =>
  rintro x c st' hax hxn ⟨rfl,rfl,hs'⟩
  dsimp only
  refine wpS_bind (jc C hk hP (by lia) (by lia) ?_)
  by_cases hless:R r (arrOf st') (lo+x)<R r (arrOf st') (lo+x - 1)
  ·simp only [hless,decide_true,if_true]
   exact wpS_pure (h x hax (by exact xaP ‹_›) hs' (.inr hless))
  ·simp only [hless,decide_false,xar,if_false]
   refine wpS_pure ⟨rfl,rfl,fun i j hl hij hj=>?_⟩
   by_cases hjx:j<lo+x
   ·exact hs' i j hl hij hjx
   ·have hj':j=lo+x:=by lia
    subst hj'
    by_cases hi':i=lo+x
    ·subst hi'; exact xa1 _
    ·exact xaU (hs' i (lo+x - 1) hl (by lia) (by lia)) (Int.not_lt.mp hless)
theorem jD {st:SortSt} {lo n nrem:Nat} {Q:Option Nat->SortSt->Prop} (C:Cmp prog w A s κ r P) (hk:kindOf st=κ) (hP:AllP P (arrOf st)) (hn:lo+nrem<=(arrOf st).size) (h1:1<=n) (hnn:n<=nrem)
  (hs:Down r (arrOf st) lo (lo+n)) (h:∀ m st',Win lo (lo+nrem) st st'->1<=m->m<=nrem->Up r (arrOf st') lo (lo+m)->Q (some m) st') :
  wpS (model prog w) A E s (l_ lo n nrem) Q st:=by
 unfold l_
 have hsz:lo+n<=(arrOf st).size:=by lia
 refine wpS_bind (cD ?_)
 have hB':=dZ (i:=lo) hsz
 refine wpS_bind (pC C (hB'.kind.trans hk) (hP.perm hB'.perm) (by rw [hB'.size]; exact hn) h1 hnn ?_ fun m hm1 hm2 hsm _=>wpS_pure (h m _ (hB'.mono (xae _) (by lia)) (by walk_at "s1") hm2 hsm))
 intro i j hl hij hj
 show R r (mirror (arrOf st) lo (lo+n) ((lo+n - lo) / 2)) i<=R r (mirror (arrOf st) lo (lo+n) ((lo+n - lo) / 2)) j
 rw [lH hsz,lH hsz,if_pos (by lia),if_pos (by lia)]
 exact hs _ _ (by lia) (by lia) (by lia)
theorem rT {st:SortSt} {lo n nrem:Nat} {Q:DescSt->SortSt->Prop} (C:Cmp prog w A s κ r P) (hk:kindOf st=κ) (hP:AllP P (arrOf st)) (hn:lo+nrem<=(arrOf st).size) (h1:1<=n) (hnn:n<=nrem)
  (hs:Down r (arrOf st) lo (lo+n))
  (h:∀ m neq st',Win lo (lo+nrem) st st'->n<=m->m<=nrem->Down r (arrOf st') lo (lo+m)->neq+1<=m->(∀ i,lo+m - (neq+1)<=i->i<lo+m->R r (arrOf st') i=R r (arrOf st') (lo+m - 1))->Q (none,m,neq) st') :
  wpS (model prog w) A E s (uX lo n nrem) Q st:=by
 unfold uX
 refine wpS_forRange (I:=fun x c st'=>∃ neq,c=(none,x,neq)/\Win lo (lo+nrem) st st'/\Down r (arrOf st') lo (lo+x)/\neq+1<=x /\
   (∀ i,lo+x - (neq+1)<=i->i<lo+x->R r (arrOf st') i=R r (arrOf st') (lo+x - 1))) ?step ?fin ⟨0,rfl,.refl _ _ _,hs,by lia,fun i h1 h2=>by congr 1; lia⟩
 case fin =>
  rintro c st' ⟨neq,rfl,hB',hs',hq,he⟩
  rw [show max n nrem=nrem by lia] at hs' hq he ⊢
  exact h nrem neq st' hB' hnn (xae _) hs' hq he
 case step =>
  rintro x c st' hax hxn ⟨neq,rfl,hB',hs',hq,he⟩
  dsimp only
  have hz:=hB'.size
  have hsz:lo+x<=(arrOf st').size:=by lia
  have hk':=hB'.kind.trans hk
  have hP':=hP.perm hB'.perm
  refine wpS_bind (jc C hk' hP' (by lia) (by lia) ?_)
  by_cases hless:R r (arrOf st') (lo+x)<R r (arrOf st') (lo+x - 1)
  ·simp only [hless,decide_true,if_true]
   have step1:∀ xs:Array Keyed,(∀ k,R r xs k=R r (arrOf st') k)->Down r xs lo (lo+(x+1)):=by
    intro xs hkk i j hl hij hj
    rw [hkk,hkk]
    by_cases hjx:j<lo+x
    ·exact hs' i j hl hij hjx
    ·have hj':j=lo+x:=by lia
     subst hj'
     by_cases hi':i=lo+x
     ·subst hi'; exact xa1 _
     ·exact xaU (xa9 hless) (hs' i (lo+x - 1) hl (by lia) (by lia))
   by_cases hneq:neq>0
   ·rw [if_pos hneq]
    refine wpS_bind (cD (wpS_pure ⟨0,rfl,hB'.trans ((dZ hsz).mono (by lia) (by lia)),step1 _ (bF hsz he),by exact xbj _,fun i h1 h2=>by congr 1; lia⟩))
   ·rw [if_neg hneq]
    exact wpS_pure ⟨0,rfl,hB',step1 _ (fun _=>rfl),by exact xbj _,fun i h1 h2=>by congr 1; lia⟩
  ·simp only [hless,decide_false,xar,if_false]
   refine wpS_bind (jc C hk' hP' (by lia) (by lia) ?_)
   by_cases hlarger:R r (arrOf st') (lo+x - 1)<R r (arrOf st') (lo+x)
   ·simp only [hlarger,decide_true,if_true]
    exact wpS_pure (h x neq st' hB' hax (by exact xaP ‹_›) hs' hq he)
   ·simp only [hlarger,decide_false,xar,if_false]
    have heqx:R r (arrOf st') (lo+x)=R r (arrOf st') (lo+x - 1):=by lia
    refine wpS_pure ⟨neq+1,rfl,hB',fun i j hl hij hj=>?_,by exact Nat.lt_succ_of_le ‹_›,fun i h1 h2=>?_⟩
    ·by_cases hjx:j<lo+x
     ·exact hs' i j hl hij hjx
     ·have hj':j=lo+x:=by lia
      subst hj'
      by_cases hi':i=lo+x
      ·subst hi'; exact xa1 _
      ·rw [heqx]; exact hs' i (lo+x - 1) hl (by lia) (by lia)
    ·rw [show lo+(x+1) - 1=lo+x by rfl]
     by_cases hix:i=lo+x
     ·subst hix; rfl
     ·rw [heqx]; exact he i (by lia) (by lia)
theorem fU {st:SortSt} {lo n nrem:Nat} {Q:Option Nat->SortSt->Prop} (C:Cmp prog w A s κ r P) (hk:kindOf st=κ) (hP:AllP P (arrOf st)) (hn:lo+nrem<=(arrOf st).size) (hnn:n+1<=nrem)
  (hs:Down r (arrOf st) lo (lo+(n+1))) (h:∀ m st',Win lo (lo+nrem) st st'->1<=m->m<=nrem->Up r (arrOf st') lo (lo+m)->Q (some m) st') :
  wpS (model prog w) A E s (dJ lo n nrem) Q st:=by
 unfold dJ
 refine wpS_bind (wpS_lift (wpAny_rule ⟨rfl,?_⟩))
 refine wpS_bind (rT C hk hP hn (by exact xbj _) hnn hs fun m neq st' hB' hm1 hm2 hs' hq he=>?_)
 dsimp only
 have hz:=hB'.size
 have hsz:lo+m<=(arrOf st').size:=by lia
 have hk':=hB'.kind.trans hk
 have hP':=hP.perm hB'.perm
 by_cases hneq:neq>0
 ·rw [if_pos hneq]
  have hW:=dZ (i:=lo+m - (neq+1)) hsz
  refine wpS_bind (cD (jD C (hW.kind.trans hk') (hP'.perm hW.perm) (by rw [hW.size,hz]; exact hn) (by walk_at "s2") hm2 ?_ fun m2 st2 hB2=>h m2 st2 ((hB'.trans (hW.mono (by lia) (by lia))).trans hB2)))
  intro i j hl hij hj
  show R r (mirror (arrOf st') _ _ _) j<=R r (mirror (arrOf st') _ _ _) i
  rw [bF hsz he,bF hsz he]
  exact hs' i j hl hij hj
 ·rw [if_neg hneq]
  exact jD C hk' hP' (by rw [hz]; exact hn) (by lia) hm2 hs' fun m2 st2 hB2=>h m2 st2 (hB'.trans hB2)
theorem wpS_countRun {st:SortSt} {lo nrem:Nat} {Q:Option Nat->SortSt->Prop} (C:Cmp prog w A s κ r P) (hk:kindOf st=κ) (hP:AllP P (arrOf st)) (hn:lo+nrem<=(arrOf st).size) (h1:1<=nrem)
  (h:∀ m st',Win lo (lo+nrem) st st'->1<=m->m<=nrem->Up r (arrOf st') lo (lo+m)->Q (some m) st') :
  wpS (model prog w) A E s (countRun' lo nrem) Q st:=by
 rw [lY]
 refine wpS_bind (pC C hk hP hn (xae 1) h1 (fun i j hl hij hj=>by
  have:i=j:=by lia
  subst this; exact xa1 _) fun n hn1 hn2 hsn hor=>?_)
 dsimp only
 by_cases hnn:n=nrem
 ·rw [if_pos (by simpa using hnn)]
  exact wpS_pure (h n st (.refl _ _ _) hn1 hn2 hsn)
 ·rw [if_neg (by simpa using hnn)]
  have hlt:R r (arrOf st) (lo+n)<R r (arrOf st) (lo+n - 1):=hor.resolve_left hnn
  by_cases hgt:n>1
  ·rw [if_pos hgt]
   refine wpS_bind (jc C hk hP (by lia) (by lia) ?_)
   by_cases hrose:R r (arrOf st) lo<R r (arrOf st) (lo+n - 1)
   ·simp only [hrose,decide_true,if_true]
    exact wpS_pure (h n st (.refl _ _ _) hn1 hn2 hsn)
   ·simp only [hrose,decide_false,xar,if_false]
    have hsz:lo+n<=(arrOf st).size:=by lia
    have hall:∀ k,lo<=k->k<lo+n->R r (arrOf st) k=R r (arrOf st) (lo+n - 1):=by
     intro k hl hk
     have a1:=hsn lo k (by exact xae _) hl hk
     have a2:=hsn k (lo+n - 1) hl (by lia) (by lia)
     lia
    have hW:=dZ (i:=lo) hsz
    refine wpS_bind (cD (fU C (hW.kind.trans hk) (hP.perm hW.perm) (by rw [hW.size]; exact hn) (by lia) ?_ fun m2 st2 hB2=>h m2 st2 ((hW.mono (xae _) (by lia)).trans hB2)))
    intro i j hl hij hj
    show R r (mirror (arrOf st) _ _ _) j<=R r (mirror (arrOf st) _ _ _) i
    rw [bF hsz hall,bF hsz hall]
    by_cases hjn:j<lo+n
    ·rw [hall i hl (by walk_at "s1"),hall j (by walk_at "s1") hjn]; exact xa1 _
    ·have hj':j=lo+n:=by lia
     subst hj'
     by_cases hi':i=lo+n
     ·subst hi'; exact xa1 _
     ·rw [hall i hl (by lia)]; exact xa9 hlt
  ·rw [if_neg hgt]
   have hn1':n=1:=by lia
   subst hn1'
   refine fU C hk hP hn (by lia) ?_ h
   intro i j hl hij hj
   by_cases hi':i=j
   ·subst hi'; exact xa1 _
   ·have hi0:i=lo:=by lia
    have hj1:j=lo+1:=by lia
    subst hi0; subst hj1
    exact xa9 hlt
end
def rO (left:Bool) (key:Keyed) (arr:Array Keyed) (base i:Nat):StateT SortSt Sem (Option Bool):=do
 let x ← elem' arr (base+i)
 if left then lt' x key else return (<- lt' key x).map (!·)
def iC:Bool->Keyed->Array Keyed->Nat->Nat->Nat->StateT SortSt Sem (Option Nat):=sortPriv% PySem.Builtin.gallop
section
variable {prog:Program} {w:World} {A:Around} {E:Value->Shared->Prop} {s:Shared} {κ:SortKind} {r:Value->Int} {P:Value->Prop}
def bey (r:Value->Int) (left:Bool) (key:Keyed) (arr:Array Keyed) (base i:Nat):Bool :=
 if left then decide (R r arr (base+i)<r key.1) else !decide (r key.1<R r arr (base+i))
theorem cT {st:SortSt} {left:Bool} {key:Keyed} {arr:Array Keyed} {base i:Nat} {Q:Option Bool->SortSt->Prop} (C:Cmp prog w A s κ r P) (hk:kindOf st=κ) (hP:AllP P arr) (hy:P key.1) (hi:base+i<arr.size)
  (h:Q (some (bey r left key arr base i)) st):wpS (model prog w) A E s (rO left key arr base i) Q st:=by
 unfold rO
 refine wpS_bind (aB hi fun p ep=>?_)
 have e1:R r arr (base+i)=r p.1:=by unfold R; rw [ep]
 unfold bey at h
 rw [e1] at h
 cases left with
 | true =>
  simp only [if_true] at h ⊢
  exact m7 C hk (hP.at ep) hy h
 | false =>
  simp only [xar,if_false] at h ⊢
  exact wpS_bind (m7 C hk hy (hP.at ep) (wpS_pure h))
theorem vf (hu:Up r arr base (base+n)) (hij:i<=j) (hj:j<n) (h:bey r left key arr base j=true):bey r left key arr base i=true:=by
 have q:=hu (base+i) (base+j) (by lia) (by lia) (by lia)
 unfold bey at h ⊢
 cases left with
 | true=>simp only [if_true,decide_eq_true_eq] at h ⊢; lia
 | false=>simp only [xar,if_false,xcg,decide_eq_false_iff_not] at h ⊢; lia
theorem b_ {st:SortSt} {left:Bool} {key:Keyed} {arr:Array Keyed} {base n hint:Nat} {Q:Option Nat->SortSt->Prop} (C:Cmp prog w A s κ r P) (hk:kindOf st=κ) (hP:AllP P arr) (hy:P key.1) (hn:base+n<=arr.size) (hh:hint<n)
  (hu:Up r arr base (base+n))
  (h:∀ k,k<=n->(∀ i,i<k->bey r left key arr base i=true)->(∀ i,k<=i->i<n->bey r left key arr base i=false)->Q (some k) st):wpS (model prog w) A E s (iC left key arr base n hint) Q st:=by
 have mono:∀ {i j},i<=j->j<n->bey r left key arr base j=true->bey r left key arr base i=true:=fun a b c=>vf hu a b c
 have monoF:∀ {i j},i<=j->j<n->bey r left key arr base i=false->bey r left key arr base j=false:=fun {i j} a b c=>by
  cases q:bey r left key arr base j with
  | false=>rfl
  | true=>rw [mono a b q] at c; cases c
 refine wpS_bind (cT C hk hP hy (by lia) ?_)
 dsimp only
 cases q0:bey r left key arr base hint with
 | true =>
  simp only [if_true]
  refine wpS_bind (wpS_mono (wpS_forRange (I:=fun x c st'=>st'=st/\∃ lst ofs,c=(none,lst,ofs)/\lst<ofs/\lst<n - hint/\x+1<=ofs/\bey r left key arr base (hint+lst)=true)
   (Q:=fun c st'=>st'=st/\∃ lst ofs,c=(none,lst,ofs)/\lst<ofs/\lst<n - hint/\bey r left key arr base (hint+lst)=true/\(n - hint<=ofs\/bey r left key arr base (hint+ofs)=false)) ?step ?fin ?init) ?post)
  case init=>exact ⟨rfl,0,1,rfl,by exact xbj _,by lia,by exact xbj _,q0⟩
  case fin =>
   rintro c st' ⟨rfl,lst,ofs,rfl,h1,h2,h3,h4⟩
   exact ⟨rfl,lst,ofs,rfl,h1,h2,h4,.inl (by lia)⟩
  case step =>
   rintro x c st' _ hx ⟨rfl,lst,ofs,rfl,h1,h2,h3,h4⟩
   dsimp only
   by_cases hge:ofs >= n - hint
   ·rw [if_pos hge]
    exact wpS_pure ⟨rfl,lst,ofs,rfl,h1,h2,h4,.inl hge⟩
   ·rw [if_neg hge]
    refine wpS_bind (cT C hk hP hy (by lia) ?_)
    cases q:bey r left key arr base (hint+ofs) with
    | true =>
     simp only [Bool.not_true,xar,if_false]
     exact wpS_pure ⟨rfl,_,_,rfl,by lia,by exact Nat.lt_of_not_le ‹_›,by lia,q⟩
    | false =>
     simp only [Bool.not_false,if_true]
     exact wpS_pure ⟨rfl,lst,ofs,rfl,h1,h2,h4,.inr q⟩
  case post =>
   rintro c st' ⟨rfl,lst,ofs,rfl,h1,h2,h4,h5⟩
   dsimp only
   generalize st'=st at *
   have hl:∀ i,i<hint+lst+1->bey r left key arr base i=true:=fun i hi=>mono (j:=hint+lst) (by lia) (by lia) h4
   have hhi:∀ i,hint+min ofs (n - hint)<=i->i<n->bey r left key arr base i=false:=fun i hi hin=>by
    rcases h5 with h5 | h5
    ·lia
    ·by_cases z:n - hint<=ofs
     ·lia
     ·exact monoF (i:=hint+ofs) (by lia) hin h5
   have hlh:hint+lst+1<=hint+min ofs (n - hint):=by lia
   have hhn:hint+min ofs (n - hint)<=n:=by lia
   generalize hint+lst+1=lo at *
   generalize hint+min ofs (n - hint)=hi at *
   refine wpS_bind (wpS_mono (wpS_forRange (I:=fun x c st'=>st'=st/\∃ l u,c=(none,l,u)/\l<=u/\u<=n/\u - l<=n - x/\(∀ i,i<l->bey r left key arr base i=true)/\(∀ i,u<=i->i<n->bey r left key arr base i=false))
    (Q:=fun c st'=>st'=st/\∃ l,c=(none,l,l)/\l<=n/\(∀ i,i<l->bey r left key arr base i=true)/\(∀ i,l<=i->i<n->bey r left key arr base i=false)) ?stepA ?finA ?initA) ?postA)
   case initA=>exact ⟨rfl,lo,hi,rfl,hlh,hhn,by lia,hl,hhi⟩
   case finA =>
    rintro c st' ⟨rfl,l,u,rfl,h1,h2,h3,h4,h5⟩
    have:l=u:=by lia
    subst this
    exact ⟨rfl,l,rfl,h2,h4,h5⟩
   case stepA =>
    rintro x c st' _ hx ⟨rfl,l,u,rfl,h1,h2,h3,h4,h5⟩
    dsimp only
    by_cases hge:l >= u
    ·rw [if_pos hge]
     have:l=u:=by exact xb6 ‹_› ‹_›
     subst this
     exact wpS_pure ⟨rfl,l,rfl,h2,h4,h5⟩
    ·rw [if_neg hge]
     refine wpS_bind (cT C hk hP hy (by lia) ?_)
     cases q:bey r left key arr base (l+(u - l) / 2) with
     | true =>
      simp only [if_true]
      exact wpS_pure ⟨rfl,_,_,rfl,by lia,by lia,by lia,fun i hi=>mono (j:=l+(u - l) / 2) (by lia) (by lia) q,h5⟩
     | false =>
      simp only [xar,if_false]
      exact wpS_pure ⟨rfl,_,_,rfl,by exact xbb _ _,by lia,by lia,h4,fun i hi hin=>monoF (i:=l+(u - l) / 2) (by lia) hin q⟩
   case postA =>
    rintro c st' ⟨rfl,l,rfl,h2,h4,h5⟩
    exact wpS_pure (h l h2 h4 h5)
 | false =>
  simp only [xar,if_false]
  refine wpS_bind (wpS_mono (wpS_forRange (I:=fun x c st'=>st'=st/\∃ lst ofs,c=(none,lst,ofs)/\lst<ofs/\lst<hint+1/\x+1<=ofs/\bey r left key arr base (hint - lst)=false)
   (Q:=fun c st'=>st'=st/\∃ lst ofs,c=(none,lst,ofs)/\lst<ofs/\lst<hint+1/\bey r left key arr base (hint - lst)=false/\(hint+1<=ofs\/bey r left key arr base (hint - ofs)=true)) ?step2 ?fin2 ?init2) ?post2)
  case init2=>exact ⟨rfl,0,1,rfl,by exact xbj _,by exact xbj _,by exact xbj _,q0⟩
  case fin2 =>
   rintro c st' ⟨rfl,lst,ofs,rfl,h1,h2,h3,h4⟩
   exact ⟨rfl,lst,ofs,rfl,h1,h2,h4,.inl (by walk_at "s2")⟩
  case step2 =>
   rintro x c st' _ hx ⟨rfl,lst,ofs,rfl,h1,h2,h3,h4⟩
   dsimp only
   by_cases hge:ofs >= hint+1
   ·rw [if_pos hge]
    exact wpS_pure ⟨rfl,lst,ofs,rfl,h1,h2,h4,.inl hge⟩
   ·rw [if_neg hge]
    refine wpS_bind (cT C hk hP hy (by lia) ?_)
    cases q:bey r left key arr base (hint - ofs) with
    | true =>
     simp only [if_true]
     exact wpS_pure ⟨rfl,lst,ofs,rfl,h1,h2,h4,.inr q⟩
    | false =>
     simp only [xar,if_false]
     exact wpS_pure ⟨rfl,_,_,rfl,by lia,by exact Nat.lt_of_not_le ‹_›,by lia,q⟩
  case post2 =>
   rintro c st' ⟨rfl,lst,ofs,rfl,h1,h2,h4,h5⟩
   dsimp only
   generalize st'=st at *
   have hl:∀ i,i<hint+1 - min ofs (hint+1)->bey r left key arr base i=true:=fun i hi=>by
    rcases h5 with h5 | h5
    ·lia
    ·by_cases z:hint+1<=ofs
     ·lia
     ·exact mono (j:=hint - ofs) (by lia) (by lia) h5
   have hhi:∀ i,hint - lst<=i->i<n->bey r left key arr base i=false:=fun i hi hin=>monoF (i:=hint - lst) (by lia) hin h4
   have hlh:hint+1 - min ofs (hint+1)<=hint - lst:=by lia
   have hhn:hint - lst<=n:=by lia
   generalize hint+1 - min ofs (hint+1)=lo at *
   generalize hint - lst=hi at *
   refine wpS_bind (wpS_mono (wpS_forRange (I:=fun x c st'=>st'=st/\∃ l u,c=(none,l,u)/\l<=u/\u<=n/\u - l<=n - x/\(∀ i,i<l->bey r left key arr base i=true)/\(∀ i,u<=i->i<n->bey r left key arr base i=false))
    (Q:=fun c st'=>st'=st/\∃ l,c=(none,l,l)/\l<=n/\(∀ i,i<l->bey r left key arr base i=true)/\(∀ i,l<=i->i<n->bey r left key arr base i=false)) ?stepB ?finB ?initB) ?postB)
   case initB=>exact ⟨rfl,lo,hi,rfl,hlh,hhn,by lia,hl,hhi⟩
   case finB =>
    rintro c st' ⟨rfl,l,u,rfl,h1,h2,h3,h4,h5⟩
    have:l=u:=by lia
    subst this
    exact ⟨rfl,l,rfl,h2,h4,h5⟩
   case stepB =>
    rintro x c st' _ hx ⟨rfl,l,u,rfl,h1,h2,h3,h4,h5⟩
    dsimp only
    by_cases hge:l >= u
    ·rw [if_pos hge]
     have:l=u:=by exact xb6 ‹_› ‹_›
     subst this
     exact wpS_pure ⟨rfl,l,rfl,h2,h4,h5⟩
    ·rw [if_neg hge]
     refine wpS_bind (cT C hk hP hy (by lia) ?_)
     cases q:bey r left key arr base (l+(u - l) / 2) with
     | true =>
      simp only [if_true]
      exact wpS_pure ⟨rfl,_,_,rfl,by lia,by lia,by lia,fun i hi=>mono (j:=l+(u - l) / 2) (by lia) (by lia) q,h5⟩
     | false =>
      simp only [xar,if_false]
      exact wpS_pure ⟨rfl,_,_,rfl,by exact xbb _ _,by lia,by lia,h4,fun i hi hin=>monoF (i:=l+(u - l) / 2) (by lia) hin q⟩
   case postB =>
    rintro c st' ⟨rfl,l,rfl,h2,h4,h5⟩
    exact wpS_pure (h l h2 h4 h5)
end
abbrev Le (r:Value->Int) (x y:Keyed):Prop:=r x.1<=r y.1
theorem R_at (e:xs[i]? = some p):R r xs i=r p.1:=by unfold R; rw [e]
theorem Bj (h:i<xs.size):R r xs i=r xs[i].1:=R_at (getElem?_pos xs i h)
structure MI (r:Value->Int) (a b out:Array Keyed) (ia ib:Nat):Prop where
 ha:ia<=a.size
 hb:ib<=b.size
 perm:out.toList.Perm (a.toList.take ia++b.toList.take ib)
 up:out.toList.Pairwise (Le r)
 la:∀ x∈out.toList,∀ i,ia<=i->i<a.size->r x.1<=R r a i
 lb:∀ x∈out.toList,∀ j,ib<=j->j<b.size->r x.1<=R r b j
section
variable {r:Value->Int} {a b out:Array Keyed} {ia ib:Nat}
theorem jT {α:Type} {l:List α} {i:Nat} {x:α} (h:l[i]? = some x):l.take (i+1)=l.take i++[x]:=by
 rw [xbw,h]; rfl
theorem MI.lZ (M:MI r a b out ia ib) (hA:Up r a 0 a.size) (hB:Up r b 0 b.size) (e:b[ib]? = some y) (hl:ia<a.size->R r b ib<=R r a ia):MI r a b (out.push y) ia (ib+1):=by
 have hib:ib<b.size:=(xbh.mp e).1
 have ey:=R_at (r:=r) e
 refine ⟨M.ha,hib,?_,?_,?_,?_⟩
 ·rw [xaC,jT (x:=y) (by simpa using e),<- xaO]
  exact M.perm.append_right _
 ·rw [xaC,xby]
  refine ⟨M.up,by simp,fun x hx z hz=>?_⟩
  have:z=y:=by simpa using hz
  subst this
  show r x.1<=r z.1
  rw [<- ey]
  exact M.lb x hx ib (xae _) hib
 ·intro x hx i hi hia
  rw [xaC] at hx
  rcases xag.mp hx with hx | hx
  ·exact M.la x hx i hi hia
  ·have:x=y:=by simpa using hx
   subst this
   rw [<- ey]
   exact xaU (hl (by lia)) (hA ia i (xao _) hi hia)
 ·intro x hx j hj hjb
  rw [xaC] at hx
  rcases xag.mp hx with hx | hx
  ·exact M.lb x hx j (by lia) hjb
  ·have:x=y:=by simpa using hx
   subst this
   rw [<- ey]
   exact hB ib j (xao _) (by lia) hjb
theorem MI.mK (M:MI r a b out ia ib) (hA:Up r a 0 a.size) (hB:Up r b 0 b.size) (e:a[ia]? = some y) (hl:ib<b.size->R r a ia<=R r b ib):MI r a b (out.push y) (ia+1) ib:=by
 have hia:ia<a.size:=(xbh.mp e).1
 have ey:=R_at (r:=r) e
 refine ⟨hia,M.hb,?_,?_,?_,?_⟩
 ·rw [xaC,jT (x:=y) (by simpa using e),xaO]
  refine (M.perm.append_right [y]).trans ?_
  rw [xaO]
  exact List.Perm.append_left _ xbV
 ·rw [xaC,xby]
  refine ⟨M.up,by simp,fun x hx z hz=>?_⟩
  have:z=y:=by simpa using hz
  subst this
  show r x.1<=r z.1
  rw [<- ey]
  exact M.la x hx ia (xae _) hia
 ·intro x hx i hi hi2
  rw [xaC] at hx
  rcases xag.mp hx with hx | hx
  ·exact M.la x hx i (by lia) hi2
  ·have:x=y:=by simpa using hx
   subst this
   rw [<- ey]
   exact hA ia i (xao _) (by lia) hi2
 ·intro x hx j hj hjb
  rw [xaC] at hx
  rcases xag.mp hx with hx | hx
  ·exact M.lb x hx j hj hjb
  ·have:x=y:=by simpa using hx
   subst this
   rw [<- ey]
   exact xaU (hl (by lia)) (hB ib j (xao _) hj hjb)
theorem dN {xs:Array Keyed} {i k:Nat} (h:i+k<xs.size):xs.extract i (i+(k+1))=(xs.extract i (i+k)).push xs[i+k]:=by
 apply xbW.mp
 rw [xaC]
 simp only [xb3,xbG]
 rw [show i+(k+1) - i=k+1 by exact Nat.add_sub_cancel_left ..,show i+k - i=k by exact Nat.add_sub_cancel_left ..,xbw]
 congr 1
 rw [List.getElem?_drop]
 simp [h]
theorem MI.addA (hA:Up r a 0 a.size) (hB:Up r b 0 b.size):∀ (k:Nat) {out:Array Keyed} {ia:Nat},MI r a b out ia ib->ia+k<=a.size->(ib<b.size->∀ i,i<k->R r a (ia+i)<=R r b ib)->MI r a b (out++a.extract ia (ia+k)) (ia+k) ib
 | 0,out,ia,M,h1,h2=>by
  have:a.extract ia (ia+0) = #[]:=xaS (by simp only [xa4]; lia)
  rw [this]
  simpa using M
 | k+1,out,ia,M,h1,h2=>by
  have q:=MI.addA hA hB k M (by exact xaP ‹_›) fun hb i hi=>h2 hb i (by exact xa7 ‹_›)
  have e:a[ia+k]? = some a[ia+k]:=getElem?_pos a (ia+k) (by assumption)
  have z:=q.mK hA hB e fun hb=>h2 hb k (by exact xae _)
  rw [dN (by assumption),Array.append_push]
  exact z
theorem MI.addB (hA:Up r a 0 a.size) (hB:Up r b 0 b.size):∀ (k:Nat) {out:Array Keyed} {ib:Nat},MI r a b out ia ib->ib+k<=b.size->(ia<a.size->∀ i,i<k->R r b (ib+i)<=R r a ia)->MI r a b (out++b.extract ib (ib+k)) ia (ib+k)
 | 0,out,ib,M,h1,h2=>by
  have:b.extract ib (ib+0) = #[]:=xaS (by simp only [xa4]; lia)
  rw [this]
  simpa using M
 | k+1,out,ib,M,h1,h2=>by
  have q:=MI.addB hA hB k M (by exact xaP ‹_›) fun ha i hi=>h2 ha i (by exact xa7 ‹_›)
  have e:b[ib+k]? = some b[ib+k]:=getElem?_pos b (ib+k) (by assumption)
  have z:=q.lZ hA hB e fun ha=>h2 ha k (by exact xae _)
  rw [dN (by assumption),Array.append_push]
  exact z
def bN (r:Value->Int) (a b out:Array Keyed):Prop:=out.toList.Perm (a.toList++b.toList)/\out.toList.Pairwise (Le r)
theorem MI.whole (M:MI r a b out a.size b.size):bN r a b out:=by
 refine ⟨?_,M.up⟩
 have h:=M.perm
 rw [xbR (by simp),xbR (by simp)] at h
 exact h
theorem MI.Di (M:MI r a b out ia b.size) (hA:Up r a 0 a.size) (hB:Up r b 0 b.size):bN r a b (out++a.extract ia a.size++b.extract b.size b.size):=by
 have e:b.extract b.size b.size = #[]:=by simp
 rw [e,xcd]
 have ha:=M.ha
 have q:=MI.addA hA hB (a.size - ia) M (by lia) fun hb=>absurd hb (xaT _)
 rw [show ia+(a.size - ia)=a.size by exact xa8 ‹_›] at q
 exact q.whole
theorem MI.DQ (M:MI r a b out a.size ib) (hA:Up r a 0 a.size) (hB:Up r b 0 b.size):bN r a b (out++a.extract a.size a.size++b.extract ib b.size):=by
 have e:a.extract a.size a.size = #[]:=by simp
 rw [e,xcd]
 have hb:=M.hb
 have q:=MI.addB hA hB (b.size - ib) M (by lia) fun ha=>absurd ha (xaT _)
 rw [show ib+(b.size - ib)=b.size by exact xa8 ‹_›] at q
 exact q.whole
theorem MI.endB (M:MI r a b out ia ib) (hA:Up r a 0 a.size) (hB:Up r b 0 b.size) (e:ib=b.size):bN r a b (out++a.extract ia a.size++b.extract ib b.size):=by subst e; exact M.Di hA hB
theorem MI.endA (M:MI r a b out ia ib) (hA:Up r a 0 a.size) (hB:Up r b 0 b.size) (e:ia=a.size):bN r a b (out++a.extract ia a.size++b.extract ib b.size):=by subst e; exact M.DQ hA hB
theorem MI.Dq (M:MI r a b out ia ib) (hA:Up r a 0 a.size) (hB:Up r b 0 b.size) (hia:ia+1=a.size) (hg:∀ j,j<b.size->R r b j<=R r a ia):bN r a b (out++b.extract ib b.size++a.extract ia a.size):=by
 have hb:=M.hb
 have q:=MI.addB hA hB (b.size - ib) M (by lia) fun ha i hi=>hg _ (by lia)
 rw [show ib+(b.size - ib)=b.size by exact xa8 ‹_›] at q
 have z:=MI.addA hA hB (a.size - ia) q (by lia) fun hb=>absurd hb (xaT _)
 rw [show ia+(a.size - ia)=a.size by lia] at z
 exact z.whole
theorem MI.start (hA:Up r a 0 a.size) (hB:Up r b 0 b.size):MI r a b #[] 0 0:=⟨xao _,xao _,by simp,by simp,fun x hx=>by simp at hx,fun x hx=>by simp at hx⟩
end
def bC:Nat->StateT SortSt Sem Unit:=sortPriv% PySem.Builtin.setMinGallop
def pG:Array Keyed->Array Keyed->StateT SortSt Sem (Array Keyed):=sortPriv% PySem.Builtin.mergeLo
def pB:Array Keyed->Array Keyed->StateT SortSt Sem (Array Keyed):=sortPriv% PySem.Builtin.mergeHi
theorem gD (g:Nat):bC g=modify fun s=>SortSt.mk' (kindOf s) (arrOf s) (pendingOf s) g (failedOf s):=rfl
def Mg (st st':SortSt):Prop:=∃ g,st'=SortSt.mk' (kindOf st) (arrOf st) (pendingOf st) g (failedOf st)
theorem Mg.refl (st:SortSt):Mg st st:=⟨gallopOf st,rfl⟩
theorem Mg.kind {st st':SortSt} (h:Mg st st'):kindOf st'=kindOf st:=by obtain ⟨g,rfl⟩:=h; rfl
theorem Mg.set {st st':SortSt} (h:Mg st st') (g:Nat):Mg st (SortSt.mk' (kindOf st') (arrOf st') (pendingOf st') g (failedOf st')):=by obtain ⟨g',rfl⟩:=h; exact ⟨g,rfl⟩
section
variable {prog:Program} {w:World} {A:Around} {E:Value->Shared->Prop} {s:Shared} {r:Value->Int}
theorem fO {st:SortSt} {g:Nat} {Q:Unit->SortSt->Prop} (h:Q () (SortSt.mk' (kindOf st) (arrOf st) (pendingOf st) g (failedOf st))):wpS (model prog w) A E s (bC g) Q st:=by
 rw [gD]; exact wpS_modify h
theorem vQ (h:bey r false key arr base i=true):R r arr (base+i)<=r key.1:=by
 unfold bey at h; simp only [xar,if_false,xcg,decide_eq_false_iff_not] at h; lia
theorem rH (h:bey r false key arr base i=false):r key.1<R r arr (base+i):=by
 unfold bey at h; simp only [xar,if_false,Bool.not_eq_false',decide_eq_true_eq] at h; exact h
theorem yU (h:bey r true key arr base i=true):R r arr (base+i)<r key.1:=by
 unfold bey at h; simp only [if_true,decide_eq_true_eq] at h; exact h
theorem qb (h:bey r true key arr base i=false):r key.1<=R r arr (base+i):=by
 unfold bey at h; simp only [if_true,decide_eq_false_iff_not] at h; lia
end
theorem Mg.trans {a b c:SortSt} (h:Mg a b) (g:Mg b c):Mg a c:=by obtain ⟨x,rfl⟩:=h; obtain ⟨y,rfl⟩:=g; exact ⟨y,rfl⟩
theorem xO {K G:Prop} (pk:K) (h:K->G):G:=h pk
abbrev SM:=StateT SortSt Sem
abbrev L1:=Option (Array Keyed) × Array Keyed × Nat × Nat × Nat
abbrev L2':=Option (Array Keyed) × Array Keyed × Nat × Nat × Nat × Nat
abbrev L3:=Option (Array Keyed) × Array Keyed × Nat × Nat × Nat × Nat × Nat
def loE (a b out:Array Keyed) (ia ib:Nat):Array Keyed:=out++a.extract ia a.size++b.extract ib b.size
def loF (a b out:Array Keyed) (ia ib:Nat):Array Keyed:=out++b.extract ib b.size++a.extract ia a.size
def lo3 (a b:Array Keyed) (mg ac bc ia ib:Nat) (out:Array Keyed):SM (ForInStep L3):=elem' a ia >>= fun p =>
 if (ia+1+1 == a.size)=true then pure (.done (some (loF a b (out.push p) (ia+1) ib),out.push p,ia+1,ib,mg,ac,bc))
 else if (decide (ac<7) && decide (bc<7))=true then pure (.done (none,out.push p,ia+1,ib,mg,ac,bc)) else pure (.yield (none,out.push p,ia+1,ib,mg,ac,bc))
def lo2 (a b:Array Keyed) (mg ac bc ia ib:Nat) (out:Array Keyed):SM (ForInStep L3):=elem' a ia >>= fun p=>iC true p b ib (b.size - ib) 0 >>= fun x=>match x with
 | some k=>if k>0 then
   if (ib+k == b.size)=true then pure (.done (some (loE a b (out++b.extract ib (ib+k)) ia (ib+k)),out++b.extract ib (ib+k),ia,ib+k,mg,ac,k))
   else lo3 a b mg ac k ia (ib+k) (out++b.extract ib (ib+k))
  else lo3 a b mg ac k ia ib out
 | _=>pure (.done (some (loE a b out ia ib),out,ia,ib,mg,ac,bc))
def lo1 (a b:Array Keyed) (mg ac bc ia ib:Nat) (out:Array Keyed):SM (ForInStep L3):=elem' b ib >>= fun p =>
 if (ib+1 == b.size)=true then pure (.done (some (loE a b (out.push p) ia (ib+1)),out.push p,ia,ib+1,mg,ac,bc)) else lo2 a b mg ac bc ia (ib+1) (out.push p)
def lo0 (a b:Array Keyed) (mg ac bc ia ib:Nat) (out:Array Keyed):SM (ForInStep L3):=bC mg >>= fun _=>elem' b ib >>= fun p=>iC false p a ia (a.size - ia) 0 >>= fun x=>match x with
 | some k=>if k>0 then
   if (ia+k+1 == a.size)=true then pure (.done (some (loF a b (out++a.extract ia (ia+k)) (ia+k) ib),out++a.extract ia (ia+k),ia+k,ib,mg,k,bc))
   else if (ia+k == a.size)=true then pure (.done (some (loE a b (out++a.extract ia (ia+k)) (ia+k) ib),out++a.extract ia (ia+k),ia+k,ib,mg,k,bc))
   else lo1 a b mg k bc (ia+k) ib (out++a.extract ia (ia+k))
  else lo1 a b mg k bc ia ib out
 | _=>pure (.done (some (loE a b out ia ib),out,ia,ib,mg,ac,bc))
def loG (a b:Array Keyed) (_:Nat) (s:L3):SM (ForInStep L3) :=
 if s.2.2.2.2.1>1 then lo0 a b (s.2.2.2.2.1 - 1) s.2.2.2.2.2.1 s.2.2.2.2.2.2 s.2.2.1 s.2.2.2.1 s.2.1 else lo0 a b s.2.2.2.2.1 s.2.2.2.2.2.1 s.2.2.2.2.2.2 s.2.2.1 s.2.2.2.1 s.2.1
def loA (a b:Array Keyed) (mg bc ia ib:Nat) (out:Array Keyed):SM (ForInStep L2'):=elem' b ib >>= fun p =>
 if (ib+1 == b.size)=true then pure (.done (some (loE a b (out.push p) ia (ib+1)),out.push p,ia,ib+1,0,bc+1))
 else if bc+1 >= mg then pure (.done (none,out.push p,ia,ib+1,0,bc+1)) else pure (.yield (none,out.push p,ia,ib+1,0,bc+1))
def loB (a b:Array Keyed) (mg ac ia ib:Nat) (out:Array Keyed):SM (ForInStep L2'):=elem' a ia >>= fun p =>
 if (ia+1+1 == a.size)=true then pure (.done (some (loF a b (out.push p) (ia+1) ib),out.push p,ia+1,ib,ac+1,0))
 else if ac+1 >= mg then pure (.done (none,out.push p,ia+1,ib,ac+1,0)) else pure (.yield (none,out.push p,ia+1,ib,ac+1,0))
def loI (a b:Array Keyed) (mg:Nat) (_:Nat) (s:L2'):SM (ForInStep L2'):=elem' b s.2.2.2.1 >>= fun pb=>elem' a s.2.2.1 >>= fun pa=>lt' pb pa >>= fun x=>match x with
 | some w=>if w=true then loA a b mg s.2.2.2.2.2 s.2.2.1 s.2.2.2.1 s.2.1 else loB a b mg s.2.2.2.2.1 s.2.2.1 s.2.2.2.1 s.2.1
 | _=>pure (.done (some (loE a b s.2.1 s.2.2.1 s.2.2.2.1),s.2.1,s.2.2.1,s.2.2.2.1,s.2.2.2.2.1,s.2.2.2.2.2))
def loP (a b:Array Keyed) (mg:Nat) (t:L2'):SM (ForInStep L1):=(liftM (rule "list.sort.gallop"):SM Unit) >>= fun _ =>
 forIn [:a.size+b.size] ((none,t.2.1,t.2.2.1,t.2.2.2.1,mg+1,t.2.2.2.2.1,t.2.2.2.2.2):L3) (loG a b) >>= fun u=>match u.1 with
 | some r=>pure (.done (some r,u.2.1,u.2.2.1,u.2.2.2.1,u.2.2.2.2.1))
 | none=>bC (u.2.2.2.2.1+1) >>= fun _=>pure (.yield (none,u.2.1,u.2.2.1,u.2.2.2.1,u.2.2.2.2.1+1))
def loO (a b:Array Keyed) (_:Nat) (s:L1):SM (ForInStep L1):=forIn [:a.size+b.size] ((none,s.2.1,s.2.2.1,s.2.2.2.1,0,0):L2') (loI a b s.2.2.2.2) >>= fun t=>match t.1 with
 | some r=>pure (.done (some r,t.2.1,t.2.2.1,t.2.2.2.1,s.2.2.2.2))
 | none=>loP a b s.2.2.2.2 t
def loM (a b:Array Keyed):SM (Array Keyed):=(liftM (rule "list.sort.merge-lo"):SM Unit) >>= fun _=>elem' b 0 >>= fun y =>
 if (1 == b.size)=true then pure (loE a b #[y] 0 1)
 else if (0+1 == a.size)=true then pure (loF a b #[y] 0 1)
 else get >>= fun st=>forIn [:a.size+b.size] ((none,#[y],0,1,gallopOf st):L1) (loO a b) >>= fun t=>match t.1 with
 | some r=>pure r
 | none=>(liftM (unsupported (α:=Array Keyed) "internal:list.sort.merge-bound"):SM (Array Keyed))
set_option smartUnfolding false in
theorem qM:pG=loM:=rfl
section
variable {prog:Program} {w:World} {A:Around} {E:Value->Shared->Prop} {s:Shared} {κ:SortKind} {r:Value->Int} {P:Value->Prop} {a b out:Array Keyed} {mg ac bc ia ib N:Nat} {st:SortSt}
structure MC (prog:Program) (w:World) (A:Around) (s:Shared) (κ:SortKind) (r:Value->Int) (P:Value->Prop) (a b:Array Keyed):Prop where
 C:Cmp prog w A s κ r P
 pa:AllP P a
 pb:AllP P b
 hA:Up r a 0 a.size
 hB:Up r b 0 b.size
 hl:∀ i,i<a.size->R r b 0<=R r a i
 hg:∀ j,j<b.size->R r b j<=R r a (a.size - 1)
def HS {β:Type} (r:Value->Int) (a b:Array Keyed) (c:Option (Array Keyed) × β):Prop:=∃ out rest,c=(some out,rest)/\bN r a b out
def LY (r:Value->Int) (a b:Array Keyed) (N:Nat) (c:L3):Prop:=∃ out ia ib mg ac bc,c=(none,out,ia,ib,mg,ac,bc)/\MI r a b out ia ib/\ia+1<a.size/\ib<b.size/\N<=ia+ib
def LI (r:Value->Int) (a b:Array Keyed) (N:Nat) (c:L2'):Prop:=∃ out ia ib ac bc,c=(none,out,ia,ib,ac,bc)/\MI r a b out ia ib/\ia+1<a.size/\ib<b.size/\N<=ia+ib
theorem MC.last (c:MC prog w A s κ r P a b) (M:MI r a b out ia ib) (z:ia+1=a.size):bN r a b (loF a b out ia ib):=M.Dq c.hA c.hB z fun j hj=>by
 have:=c.hg j hj
 rwa [show a.size - 1=ia by lia] at this
theorem wG (c:MC prog w A s κ r P a b) (M:MI r a b out ia ib) (h1:ia+1<a.size) (lt:R r a ia<=R r b ib) (h2:ib<b.size) (hN:N<=ia+ib) (D:∀ c,HS r a b c->Q (.done c) st) (Y:∀ c,LY r a b N c->Q (.done c) st/\Q (.yield c) st):wpS (model prog w) A E s (lo3 a b mg ac bc ia ib out) Q st:=by
 refine wpS_bind (aB (by lia) fun p e=>?_)
 have M2:=M.mK c.hA c.hB e fun _=>lt
 by_cases z:ia+1+1=a.size
 ·rw [if_pos (by simpa using z)]
  exact wpS_pure (D _ ⟨_,_,rfl,c.last M2 z⟩)
 ·rw [if_neg (by simpa using z)]
  have y:=Y _ ⟨_,_,_,mg,ac,bc,rfl,M2,by lia,h2,by lia⟩
  split
  ·exact wpS_pure y.1
  ·exact wpS_pure y.2
theorem Bw (c:MC prog w A s κ r P a b) (hk:kindOf st=κ) (M:MI r a b out ia ib) (h1:ia+1<a.size) (h2:ib<b.size) (hN:N<=ia+ib) (D:∀ c,HS r a b c->Q (.done c) st) (Y:∀ c,LY r a b N c->Q (.done c) st/\Q (.yield c) st):wpS (model prog w) A E s (lo2 a b mg ac bc ia ib out) Q st:=by
 refine wpS_bind (aB (by lia) fun p e=>wpS_bind (b_ c.C hk c.pb (c.pa.at e) (by lia) (by lia) (fun i j u v w=>c.hB i j (by lia) v (by lia)) fun l hl1 hl2 hl3=>?_))
 have ra:=R_at (r:=r) e
 dsimp only
 have lt:ib+l<b.size->R r a ia<=R r b (ib+l):=fun z=>by have:=qb (hl3 l (xae _) (by lia)); lia
 by_cases l0:l>0
 ·have M5:=MI.addB c.hA c.hB l M (by lia) fun _ i hi=>by have:=yU (hl2 i hi); lia
  rw [if_pos l0]
  by_cases z:ib+l=b.size
  ·rw [if_pos (by simpa using z)]
   exact wpS_pure (D _ ⟨_,_,rfl,M5.endB c.hA c.hB z⟩)
  ·rw [if_neg (by simpa using z)]
   exact wG c M5 h1 (lt (by lia)) (by lia) (by lia) D Y
 ·rw [if_neg l0]
  obtain rfl:l=0:=by lia
  exact wG c M h1 (lt h2) h2 hN D Y
theorem wF (c:MC prog w A s κ r P a b) (hk:kindOf st=κ) (M:MI r a b out ia ib) (h1:ia+1<a.size) (lt:R r b ib<=R r a ia) (h2:ib<b.size) (hN:N<=ia+ib) (D:∀ c,HS r a b c->Q (.done c) st) (Y:∀ c,LY r a b N c->Q (.done c) st/\Q (.yield c) st):wpS (model prog w) A E s (lo1 a b mg ac bc ia ib out) Q st:=by
 refine wpS_bind (aB h2 fun p e=>?_)
 have M4:=M.lZ c.hA c.hB e fun _=>lt
 by_cases z:ib+1=b.size
 ·rw [if_pos (by simpa using z)]
  exact wpS_pure (D _ ⟨_,_,rfl,M4.endB c.hA c.hB z⟩)
 ·rw [if_neg (by simpa using z)]
  exact Bw c hk M4 h1 (by lia) (by lia) D Y
theorem zM (c:MC prog w A s κ r P a b) (hk:kindOf st=κ) (M:MI r a b out ia ib) (h1:ia+1<a.size) (h2:ib<b.size) (hN:N<=ia+ib) (D:∀ st',Mg st st'->∀ c,HS r a b c->Q (.done c) st') (Y:∀ st',Mg st st'->∀ c,LY r a b N c->Q (.done c) st'/\Q (.yield c) st'):wpS (model prog w) A E s (lo0 a b mg ac bc ia ib out) Q st:=by
 have g:=(Mg.refl st).set mg
 refine wpS_bind (fO ?_)
 refine wpS_bind (aB h2 fun p e=>wpS_bind (b_ c.C (g.kind.trans hk) c.pa (c.pb.at e) (by lia) (by lia) (fun i j u v w=>c.hA i j (by lia) v (by lia)) fun k hk1 hk2 hk3=>?_))
 have rb:=R_at (r:=r) e
 dsimp only
 have lt:ia+k<a.size->R r b ib<=R r a (ia+k):=fun z=>by have:=rH (hk3 k (xae _) (by lia)); lia
 by_cases k0:k>0
 ·have M3:=MI.addA c.hA c.hB k M (by lia) fun _ i hi=>by have:=vQ (hk2 i hi); lia
  rw [if_pos k0]
  by_cases z:ia+k+1=a.size
  ·rw [if_pos (by simpa using z)]
   exact wpS_pure (D _ g _ ⟨_,_,rfl,c.last M3 z⟩)
  ·rw [if_neg (by simpa using z)]
   by_cases z2:ia+k=a.size
   ·rw [if_pos (by simpa using z2)]
    exact wpS_pure (D _ g _ ⟨_,_,rfl,M3.endA c.hA c.hB z2⟩)
   ·rw [if_neg (by simpa using z2)]
    exact wF c (g.kind.trans hk) M3 (by lia) (lt (by lia)) h2 (by lia) (D _ g) (Y _ g)
 ·rw [if_neg k0]
  obtain rfl:k=0:=by lia
  exact wF c (g.kind.trans hk) M h1 (lt (by lia)) h2 hN (D _ g) (Y _ g)
theorem Bv (c:MC prog w A s κ r P a b) (M:MI r a b out ia ib) (h1:ia+1<a.size) (lt:R r b ib<=R r a ia) (h2:ib<b.size) (hN:N<=ia+ib+1) (D:∀ c,HS r a b c->Q (.done c) st) (Y:∀ c,LI r a b N c->Q (.done c) st/\Q (.yield c) st):wpS (model prog w) A E s (loA a b mg bc ia ib out) Q st:=by
 refine wpS_bind (aB h2 fun p e=>?_)
 have M2:=M.lZ c.hA c.hB e fun _=>lt
 by_cases z:ib+1=b.size
 ·rw [if_pos (by simpa using z)]
  exact wpS_pure (D _ ⟨_,_,rfl,M2.endB c.hA c.hB z⟩)
 ·rw [if_neg (by simpa using z)]
  have y:=Y _ ⟨_,_,_,0,bc+1,rfl,M2,h1,by lia,hN⟩
  split
  ·exact wpS_pure y.1
  ·exact wpS_pure y.2
theorem Bo (c:MC prog w A s κ r P a b) (M:MI r a b out ia ib) (h1:ia+1<a.size) (lt:R r a ia<=R r b ib) (h2:ib<b.size) (hN:N<=ia+ib+1) (D:∀ c,HS r a b c->Q (.done c) st) (Y:∀ c,LI r a b N c->Q (.done c) st/\Q (.yield c) st):wpS (model prog w) A E s (loB a b mg ac ia ib out) Q st:=by
 refine wpS_bind (aB (by lia) fun p e=>?_)
 have M2:=M.mK c.hA c.hB e fun _=>lt
 by_cases z:ia+1+1=a.size
 ·rw [if_pos (by simpa using z)]
  exact wpS_pure (D _ ⟨_,_,rfl,c.last M2 z⟩)
 ·rw [if_neg (by simpa using z)]
  have y:=Y _ ⟨_,_,_,ac+1,0,rfl,M2,by lia,h2,by lia⟩
  split
  ·exact wpS_pure y.1
  ·exact wpS_pure y.2
theorem zz (c:MC prog w A s κ r P a b) (hk:kindOf st=κ) (M:MI r a b out ia ib) (h1:ia+1<a.size) (h2:ib<b.size) (hN:N<=ia+ib+1) (D:∀ c,HS r a b c->Q (.done c) st) (Y:∀ c,LI r a b N c->Q (.done c) st/\Q (.yield c) st):wpS (model prog w) A E s (loI a b mg x (none,out,ia,ib,ac,bc)) Q st:=by
 refine wpS_bind (aB h2 fun pb eb=>wpS_bind (aB (show ia<a.size by lia) fun pa ea=>wpS_bind (m7 c.C hk (c.pb.at eb) (c.pa.at ea) ?_)))
 have rb:R r b ib=r pb.1:=R_at eb
 have ra:R r a ia=r pa.1:=R_at ea
 dsimp only
 by_cases hw:r pb.1<r pa.1
 ·rw [if_pos (decide_eq_true hw)]
  exact Bv c M h1 (by lia) h2 hN D Y
 ·rw [if_neg (by simpa using hw)]
  exact Bo c M h1 (by lia) h2 hN D Y
theorem zQ (c:MC prog w A s κ r P a b) (hk:kindOf st=κ) (M:MI r a b out ia ib) (h1:ia+1<a.size) (h2:ib<b.size) (hN:N<=ia+ib) (D:∀ st',Mg st st'->∀ c,HS r a b c->Q (.done c) st')
  (Y:∀ st',Mg st st'->∀ out ia ib mg,MI r a b out ia ib->ia+1<a.size->ib<b.size->N<=ia+ib->Q (.yield (none,out,ia,ib,mg)) st'):wpS (model prog w) A E s (loP a b mg (none,out,ia,ib,ac,bc)) Q st:=by
 refine wpS_bind (wpS_lift (wpAny_rule ⟨rfl,?_⟩))
 refine wpS_bind (wpS_mono (wpS_forRange (I:=fun _ c st'=>Mg st st'/\LY r a b N c) (Q:=fun c st'=>Mg st st'/\(HS r a b c\/LY r a b N c)) ?step ?fin ⟨.refl st,_,_,_,_,_,_,rfl,M,h1,h2,hN⟩) ?post)
 case fin =>
  rintro c st' ⟨hm,q⟩
  exact ⟨hm,.inr q⟩
 case step =>
  rintro y c1 st1 _ _ ⟨hm,out,ia,ib,mg,ac,bc,rfl,M,h1,h2,hN⟩
  unfold loG
  dsimp only
  split <;> exact zM c (hm.kind.trans hk) M h1 h2 hN (fun st' g c q=>⟨hm.trans g,.inl q⟩) fun st' g c q=>⟨⟨hm.trans g,.inr q⟩,hm.trans g,q⟩
 case post =>
  rintro c st' ⟨hm,⟨o,rest,rfl,hM⟩ | ⟨out,ia,ib,mg,ac,bc,rfl,M,h1,h2,hN⟩⟩
  ·exact wpS_pure (D _ hm _ ⟨_,_,rfl,hM⟩)
  ·exact wpS_bind (fO (wpS_pure (Y _ (hm.set _) _ _ _ _ M h1 h2 hN)))
theorem zB (c:MC prog w A s κ r P a b) (hk:kindOf st=κ) (M:MI r a b out ia ib) (h1:ia+1<a.size) (h2:ib<b.size) (hN:N<=ia+ib) (D:∀ st',Mg st st'->∀ c,HS r a b c->Q (.done c) st')
  (Y:∀ st',Mg st st'->∀ out ia ib mg,MI r a b out ia ib->ia+1<a.size->ib<b.size->N+1<=ia+ib->Q (.yield (none,out,ia,ib,mg)) st'):wpS (model prog w) A E s (loO a b x (none,out,ia,ib,mg)) Q st:=by
 refine wpS_bind (wpS_mono (wpS_forRange (I:=fun y c st'=>st'=st/\LI r a b (N+y) c) (Q:=fun c st'=>st'=st/\(HS r a b c\/LI r a b (N+1) c)) ?step ?fin ⟨rfl,_,_,_,_,_,rfl,M,h1,h2,hN⟩) ?post)
 case fin =>
  rintro c st' ⟨rfl,o,ia',ib',ac,bc,rfl,M',q1,q2,q3⟩
  exact ⟨rfl,.inr ⟨_,_,_,_,_,rfl,M',q1,q2,by lia⟩⟩
 case step =>
  rintro y c1 st1 _ hy ⟨rfl,o,ia',ib',ac,bc,rfl,M',q1,q2,q3⟩
  exact zz (N:=N+y+1) c hk M' q1 q2 (by lia) (fun c q=>⟨rfl,.inl q⟩) fun c q=>by
   obtain ⟨o,ia,ib,ac,bc,rfl,M,h1,h2,h3⟩:=q
   exact ⟨⟨rfl,.inr ⟨_,_,_,_,_,rfl,M,h1,h2,by lia⟩⟩,rfl,_,_,_,_,_,rfl,M,h1,h2,by lia⟩
 case post =>
  rintro c1 st' ⟨rfl,⟨o,rest,rfl,hM⟩ | ⟨o,ia,ib,ac,bc,rfl,M',q1,q2,q3⟩⟩
  ·exact wpS_pure (D _ (.refl _) _ ⟨_,_,rfl,hM⟩)
  ·exact zQ c hk M' q1 q2 q3 D Y
theorem oG {st:SortSt} {a b:Array Keyed} {Q:Array Keyed->SortSt->Prop} (C:Cmp prog w A s κ r P) (hk:kindOf st=κ) (hPa:AllP P a) (hPb:AllP P b) (hA:Up r a 0 a.size) (hB:Up r b 0 b.size) (na:1<=a.size) (nb:1<=b.size)
  (h0:R r b 0<=R r a 0) (hg:∀ j,j<b.size->R r b j<=R r a (a.size - 1)) (h:∀ out st',bN r a b out->Mg st st'->Q out st'):wpS (model prog w) A E s (pG a b) Q st:=by
 have c:MC prog w A s κ r P a b:=⟨C,hPa,hPb,hA,hB,fun i hi=>xaU h0 (hA 0 i (xae _) (xao _) hi),hg⟩
 rw [qM]
 refine wpS_bind (wpS_lift (wpAny_rule ⟨rfl,?_⟩))
 refine wpS_bind (aB nb fun y0 e0=>?_)
 have M1:MI r a b #[y0] 0 1:=(MI.start hA hB).lZ hA hB e0 fun _=>h0
 by_cases c1:1=b.size
 ·rw [if_pos (by simpa using c1)]
  exact wpS_pure (h _ _ (M1.endB hA hB c1) (.refl st))
 ·rw [if_neg (by simpa using c1)]
  by_cases c2:0+1=a.size
  ·rw [if_pos (by simpa using c2)]
   exact wpS_pure (h _ _ (c.last M1 c2) (.refl st))
  ·rw [if_neg (by simpa using c2)]
   refine wpS_bind (wpS_get ?_)
   refine wpS_bind (wpS_mono (wpS_forRange (I:=fun x c st'=>Mg st st'/\∃ out ia ib mg,c=(none,out,ia,ib,mg)/\MI r a b out ia ib/\ia+1<a.size/\ib<b.size/\x+1<=ia+ib)
    (Q:=fun c st'=>Mg st st'/\HS r a b c) ?step ?fin ⟨.refl st,_,_,_,_,rfl,M1,by lia,by lia,by exact xbj _⟩) ?post)
   case fin =>
    rintro c st' ⟨_,out,ia,ib,mg,rfl,M,h1,h2,h3⟩
    lia
   case post =>
    rintro c st' ⟨hm,out,rest,rfl,hM⟩
    exact wpS_pure (h out st' hM hm)
   case step =>
    rintro x c1 st1 _ hx ⟨hm1,out,ia,ib,mg,rfl,M,h1,h2,h3⟩
    exact zB (N:=x+1) c (hm1.kind.trans hk) M h1 h2 h3 (fun st' g c q=>⟨hm1.trans g,q⟩) fun st' g out ia ib mg M h1 h2 h3=>⟨hm1.trans g,_,_,_,_,rfl,M,h1,h2,h3⟩
end
abbrev Ge (r:Value->Int) (x y:Keyed):Prop:=r y.1<=r x.1
structure MH (r:Value->Int) (a b out:Array Keyed) (na nb:Nat):Prop where
 ha:na<=a.size
 hb:nb<=b.size
 perm:out.toList.Perm (a.toList.drop na++b.toList.drop nb)
 down:out.toList.Pairwise (Ge r)
 ga:∀ x∈out.toList,∀ i,i<na->R r a i<=r x.1
 gb:∀ x∈out.toList,∀ j,j<nb->R r b j<=r x.1
section
variable {r:Value->Int} {a b out:Array Keyed} {na nb:Nat}
theorem mZ {α:Type} {l:List α} {i:Nat} {x:α} (h0:0<i) (h:l[i - 1]? = some x):l.drop (i - 1)=x :: l.drop i:=by
 obtain ⟨hi,e⟩:=xas.mp h
 rw [xaL hi,e,show i - 1+1=i by exact Nat.sub_add_cancel ‹_›]
theorem MH.mK (M:MH r a b out na nb) (hA:Up r a 0 a.size) (hB:Up r b 0 b.size) (h0:0<na) (e:a[na - 1]? = some y) (hl:0<nb->R r b (nb - 1)<=R r a (na - 1)):MH r a b (out.push y) (na - 1) nb:=by
 have ey:=R_at (r:=r) e
 have ha:=M.ha
 have hb:=M.hb
 refine ⟨by lia,M.hb,?_,?_,?_,?_⟩
 ·rw [xaC,mZ (x:=y) h0 (by simpa using e)]
  refine (M.perm.append_right [y]).trans ?_
  exact xbV
 ·rw [xaC,xby]
  refine ⟨M.down,by simp,fun x hx z hz=>?_⟩
  have:z=y:=by simpa using hz
  subst this
  show r z.1<=r x.1
  rw [<- ey]
  exact M.ga x hx (na - 1) (by lia)
 ·intro x hx i hi
  rw [xaC] at hx
  rcases xag.mp hx with hx | hx
  ·exact M.ga x hx i (by lia)
  ·have:x=y:=by simpa using hx
   subst this
   rw [<- ey]
   exact hA i (na - 1) (xao _) (by lia) (by lia)
 ·intro x hx j hj
  rw [xaC] at hx
  rcases xag.mp hx with hx | hx
  ·exact M.gb x hx j hj
  ·have:x=y:=by simpa using hx
   subst this
   rw [<- ey]
   exact xaU (hB j (nb - 1) (xao _) (by lia) (by lia)) (hl (by lia))
theorem MH.lZ (M:MH r a b out na nb) (hA:Up r a 0 a.size) (hB:Up r b 0 b.size) (h0:0<nb) (e:b[nb - 1]? = some y) (hl:0<na->R r a (na - 1)<=R r b (nb - 1)):MH r a b (out.push y) na (nb - 1):=by
 have ey:=R_at (r:=r) e
 have ha:=M.ha
 have hb:=M.hb
 refine ⟨M.ha,by lia,?_,?_,?_,?_⟩
 ·rw [xaC,mZ (x:=y) h0 (by simpa using e)]
  refine (M.perm.append_right [y]).trans ?_
  rw [xaO]
  exact List.Perm.append_left _ xbV
 ·rw [xaC,xby]
  refine ⟨M.down,by simp,fun x hx z hz=>?_⟩
  have:z=y:=by simpa using hz
  subst this
  show r z.1<=r x.1
  rw [<- ey]
  exact M.gb x hx (nb - 1) (by lia)
 ·intro x hx i hi
  rw [xaC] at hx
  rcases xag.mp hx with hx | hx
  ·exact M.ga x hx i hi
  ·have:x=y:=by simpa using hx
   subst this
   rw [<- ey]
   exact xaU (hA i (na - 1) (xao _) (by lia) (by lia)) (hl (by lia))
 ·intro x hx j hj
  rw [xaC] at hx
  rcases xag.mp hx with hx | hx
  ·exact M.gb x hx j (by lia)
  ·have:x=y:=by simpa using hx
   subst this
   rw [<- ey]
   exact hB j (nb - 1) (xao _) (by lia) (by lia)
theorem ik {xs:Array Keyed} {i n:Nat} (h:i<n) (hn:n<=xs.size):(xs.extract i n).reverse = #[xs[n - 1]'(by lia)]++(xs.extract i (n - 1)).reverse:=by
 obtain ⟨k,rfl⟩:∃ k,n=i+(k+1):=⟨n - 1 - i,by lia⟩
 have e3:i+(k+1) - 1=i+k:=by rfl
 simp only [e3]
 rw [dN (by assumption),Array.reverse_push]
theorem MH.addA (hA:Up r a 0 a.size) (hB:Up r b 0 b.size):∀ (k:Nat) {out:Array Keyed} {na p:Nat},MH r a b out na nb->p+k=na->(0<nb->∀ i,p<=i->i<na->R r b (nb - 1)<=R r a i)->MH r a b (out++(a.extract p na).reverse) p nb
 | 0,out,na,p,M,h1,h2=>by
  have:a.extract p na = #[]:=xaS (by simp only [xa4]; lia)
  have e:na=p:=by walk_at "s1"
  subst e
  rw [this]
  simpa using M
 | k+1,out,na,p,M,h1,h2=>by
  have ha:=M.ha
  have e:a[na - 1]? = some (a[na - 1]'(by lia)):=getElem?_pos a (na - 1) (by lia)
  have q:=M.mK hA hB (by lia) e fun hb=>h2 hb _ (by lia) (by lia)
  have z:=MH.addA hA hB k (p:=p) q (by lia) fun hb i hi1 hi2=>h2 hb i hi1 (by walk_at "s4")
  rw [ik (by lia) ha,<- xbf]
  simpa using z
theorem MH.addB (hA:Up r a 0 a.size) (hB:Up r b 0 b.size):∀ (k:Nat) {out:Array Keyed} {nb p:Nat},MH r a b out na nb->p+k=nb->(0<na->∀ i,p<=i->i<nb->R r a (na - 1)<=R r b i)->MH r a b (out++(b.extract p nb).reverse) na p
 | 0,out,nb,p,M,h1,h2=>by
  have:b.extract p nb = #[]:=xaS (by simp only [xa4]; lia)
  have e:nb=p:=by walk_at "s1"
  subst e
  rw [this]
  simpa using M
 | k+1,out,nb,p,M,h1,h2=>by
  have hb:=M.hb
  have e:b[nb - 1]? = some (b[nb - 1]'(by lia)):=getElem?_pos b (nb - 1) (by lia)
  have q:=M.lZ hA hB (by lia) e fun ha=>h2 ha _ (by lia) (by lia)
  have z:=MH.addB hA hB k (p:=p) q (by lia) fun ha i hi1 hi2=>h2 ha i hi1 (by walk_at "s4")
  rw [ik (by lia) hb,<- xbf]
  simpa using z
theorem MH.whole (M:MH r a b out 0 0):bN r a b out.reverse:=by
 refine ⟨?_,?_⟩
 ·have h:=M.perm
  rw [List.drop_zero,List.drop_zero] at h
  rw [Array.toList_reverse]
  exact (List.reverse_perm _).trans h
 ·rw [Array.toList_reverse,List.pairwise_reverse]
  exact M.down
theorem lL (x y:Array Keyed):(x++y.reverse).reverse=y++x.reverse:=by
 apply xbW.mp
 simp
theorem MH.endA (M:MH r a b out na nb) (hA:Up r a 0 a.size) (hB:Up r b 0 b.size) (e:na=0):bN r a b (a.extract 0 na++b.extract 0 nb++out.reverse):=by
 subst e
 have z:=MH.addB hA hB nb (p:=0) M (by exact xb8 ..) fun ha=>absurd ha (xaT _)
 have q:=z.whole
 rw [lL] at q
 have e2:a.extract 0 0 = #[]:=by simp
 rw [e2,Array.empty_append]
 exact q
theorem MH.endB (M:MH r a b out na nb) (hA:Up r a 0 a.size) (hB:Up r b 0 b.size) (e:nb=0):bN r a b (a.extract 0 na++b.extract 0 nb++out.reverse):=by
 subst e
 have z:=MH.addA hA hB na (p:=0) M (by exact xb8 ..) fun hb=>absurd hb (xaT _)
 have q:=z.whole
 rw [lL] at q
 have e2:b.extract 0 0 = #[]:=by simp
 rw [e2,xcd]
 exact q
theorem MH.o_ (M:MH r a b out na nb) (hA:Up r a 0 a.size) (hB:Up r b 0 b.size) (e:nb=1) (hl:∀ i,i<a.size->R r b 0<=R r a i):bN r a b (b.extract 0 nb++a.extract 0 na++out.reverse):=by
 subst e
 have ha:=M.ha
 have z:=MH.addA hA hB na (p:=0) M (by exact xb8 ..) fun _ i _ hi=>hl i (by walk_at "s1")
 have z2:=MH.addB hA hB 1 (p:=0) z (by exact xb8 ..) fun h=>absurd h (xaT _)
 have q:=z2.whole
 rw [lL,lL] at q
 rw [xbf]
 exact q
theorem MH.start:MH r a b #[] a.size b.size:=⟨xae _,xae _,by simp,by simp,fun x hx=>by simp at hx,fun x hx=>by simp at hx⟩
end
abbrev S1:=Option (Array Keyed) × Nat × Nat × Array Keyed × Nat
abbrev S2:=Option (Array Keyed) × Nat × Nat × Array Keyed × Nat × Nat
abbrev S3:=Option (Array Keyed) × Nat × Nat × Array Keyed × Nat × Nat × Nat
def hiE (a b out:Array Keyed) (na nb:Nat):Array Keyed:=a.extract 0 na++b.extract 0 nb++out.reverse
def hiF (a b out:Array Keyed) (na nb:Nat):Array Keyed:=b.extract 0 nb++a.extract 0 na++out.reverse
def hi3 (a b:Array Keyed) (mg ac bc na nb:Nat) (out:Array Keyed):SM (ForInStep S3):=elem' a (na - 1) >>= fun p =>
 if (na - 1 == 0)=true then pure (.done (some (hiE a b (out.push p) (na - 1) nb),na - 1,nb,out.push p,mg,ac,bc))
 else if (decide (ac<7) && decide (bc<7))=true then pure (.done (none,na - 1,nb,out.push p,mg,ac,bc)) else pure (.yield (none,na - 1,nb,out.push p,mg,ac,bc))
def hi2 (a b:Array Keyed) (mg ac bc na nb:Nat) (out:Array Keyed):SM (ForInStep S3):=elem' a (na - 1) >>= fun p=>iC true p b 0 nb (nb - 1) >>= fun x=>match x with
 | some k=>if nb - k>0 then
   if (k == 1)=true then pure (.done (some (hiF a b (out++(b.extract k nb).reverse) na k),na,k,out++(b.extract k nb).reverse,mg,ac,nb - k))
   else if (k == 0)=true then pure (.done (some (hiE a b (out++(b.extract k nb).reverse) na k),na,k,out++(b.extract k nb).reverse,mg,ac,nb - k))
   else hi3 a b mg ac (nb - k) na k (out++(b.extract k nb).reverse)
  else hi3 a b mg ac (nb - k) na nb out
 | _=>pure (.done (some (hiE a b out na nb),na,nb,out,mg,ac,bc))
def hi1 (a b:Array Keyed) (mg ac bc na nb:Nat) (out:Array Keyed):SM (ForInStep S3):=elem' b (nb - 1) >>= fun p =>
 if (nb - 1 == 1)=true then pure (.done (some (hiF a b (out.push p) na (nb - 1)),na,nb - 1,out.push p,mg,ac,bc)) else hi2 a b mg ac bc na (nb - 1) (out.push p)
def hi0 (a b:Array Keyed) (mg ac bc na nb:Nat) (out:Array Keyed):SM (ForInStep S3):=bC mg >>= fun _=>elem' b (nb - 1) >>= fun p=>iC false p a 0 na (na - 1) >>= fun x=>match x with
 | some k=>if na - k>0 then
   if (k == 0)=true then pure (.done (some (hiE a b (out++(a.extract k na).reverse) k nb),k,nb,out++(a.extract k na).reverse,mg,na - k,bc))
   else hi1 a b mg (na - k) bc k nb (out++(a.extract k na).reverse)
  else hi1 a b mg (na - k) bc na nb out
 | _=>pure (.done (some (hiE a b out na nb),na,nb,out,mg,ac,bc))
def hiG (a b:Array Keyed) (_:Nat) (s:S3):SM (ForInStep S3) :=
 if s.2.2.2.2.1>1 then hi0 a b (s.2.2.2.2.1 - 1) s.2.2.2.2.2.1 s.2.2.2.2.2.2 s.2.1 s.2.2.1 s.2.2.2.1 else hi0 a b s.2.2.2.2.1 s.2.2.2.2.2.1 s.2.2.2.2.2.2 s.2.1 s.2.2.1 s.2.2.2.1
def hiA (a b:Array Keyed) (mg ac na nb:Nat) (out:Array Keyed):SM (ForInStep S2):=elem' a (na - 1) >>= fun p =>
 if (na - 1 == 0)=true then pure (.done (some (hiE a b (out.push p) (na - 1) nb),na - 1,nb,out.push p,ac+1,0))
 else if ac+1 >= mg then pure (.done (none,na - 1,nb,out.push p,ac+1,0)) else pure (.yield (none,na - 1,nb,out.push p,ac+1,0))
def hiB (a b:Array Keyed) (mg bc na nb:Nat) (out:Array Keyed):SM (ForInStep S2):=elem' b (nb - 1) >>= fun p =>
 if (nb - 1 == 1)=true then pure (.done (some (hiF a b (out.push p) na (nb - 1)),na,nb - 1,out.push p,0,bc+1))
 else if bc+1 >= mg then pure (.done (none,na,nb - 1,out.push p,0,bc+1)) else pure (.yield (none,na,nb - 1,out.push p,0,bc+1))
def hiI (a b:Array Keyed) (mg:Nat) (_:Nat) (s:S2):SM (ForInStep S2):=elem' b (s.2.2.1 - 1) >>= fun pb=>elem' a (s.2.1 - 1) >>= fun pa=>lt' pb pa >>= fun x=>match x with
 | some w=>if w=true then hiA a b mg s.2.2.2.2.1 s.2.1 s.2.2.1 s.2.2.2.1 else hiB a b mg s.2.2.2.2.2 s.2.1 s.2.2.1 s.2.2.2.1
 | _=>pure (.done (some (hiE a b s.2.2.2.1 s.2.1 s.2.2.1),s.2.1,s.2.2.1,s.2.2.2.1,s.2.2.2.2.1,s.2.2.2.2.2))
def hiP (a b:Array Keyed) (mg:Nat) (t:S2):SM (ForInStep S1):=(liftM (rule "list.sort.gallop"):SM Unit) >>= fun _ =>
 forIn [:a.size+b.size] ((none,t.2.1,t.2.2.1,t.2.2.2.1,mg+1,t.2.2.2.2.1,t.2.2.2.2.2):S3) (hiG a b) >>= fun u=>match u.1 with
 | some r=>pure (.done (some r,u.2.1,u.2.2.1,u.2.2.2.1,u.2.2.2.2.1))
 | none=>bC (u.2.2.2.2.1+1) >>= fun _=>pure (.yield (none,u.2.1,u.2.2.1,u.2.2.2.1,u.2.2.2.2.1+1))
def hiO (a b:Array Keyed) (_:Nat) (s:S1):SM (ForInStep S1):=forIn [:a.size+b.size] ((none,s.2.1,s.2.2.1,s.2.2.2.1,0,0):S2) (hiI a b s.2.2.2.2) >>= fun t=>match t.1 with
 | some r=>pure (.done (some r,t.2.1,t.2.2.1,t.2.2.2.1,s.2.2.2.2))
 | none=>hiP a b s.2.2.2.2 t
def hiM (a b:Array Keyed):SM (Array Keyed):=(liftM (rule "list.sort.merge-hi"):SM Unit) >>= fun _=>elem' a (a.size - 1) >>= fun y =>
 if (a.size - 1 == 0)=true then pure (hiE a b #[y] (a.size - 1) b.size)
 else if (b.size == 1)=true then pure (hiF a b #[y] (a.size - 1) b.size)
 else get >>= fun st=>forIn [:a.size+b.size] ((none,a.size - 1,b.size,#[y],gallopOf st):S1) (hiO a b) >>= fun t=>match t.1 with
 | some r=>pure r
 | none=>(liftM (unsupported (α:=Array Keyed) "internal:list.sort.merge-bound"):SM (Array Keyed))
set_option smartUnfolding false in
theorem qG:pB=hiM:=rfl
section
variable {prog:Program} {w:World} {A:Around} {E:Value->Shared->Prop} {s:Shared} {κ:SortKind} {r:Value->Int} {P:Value->Prop} {a b out:Array Keyed} {mg ac bc na nb N:Nat} {st:SortSt} {Q:ForInStep S3->SortSt->Prop}
def HD (r:Value->Int) (a b:Array Keyed) (Q:ForInStep S3->SortSt->Prop) (st:SortSt):Prop:=∀ o rest,bN r a b o->Q (.done (some o,rest)) st
def HY (r:Value->Int) (a b:Array Keyed) (N:Nat) (Q:ForInStep S3->SortSt->Prop) (st:SortSt):Prop :=
 ∀ o na nb mg ac bc,MH r a b o na nb->1<=na->2<=nb->na+nb<=N->Q (.done (none,na,nb,o,mg,ac,bc)) st/\Q (.yield (none,na,nb,o,mg,ac,bc)) st
theorem wj (c:MC prog w A s κ r P a b) (M:MH r a b out na nb) (h1:0<na) (lt:R r b (nb - 1)<=R r a (na - 1)) (h2:2<=nb) (hN:na+nb<=N) (D:HD r a b Q st) (Y:HY r a b N Q st):wpS (model prog w) A E s (hi3 a b mg ac bc na nb out) Q st:=by
 have ha:=M.ha
 refine wpS_bind (aB (by lia) fun p e=>?_)
 have M2:=M.mK c.hA c.hB h1 e fun _=>lt
 by_cases z:na - 1=0
 ·rw [if_pos (by simpa using z)]
  exact wpS_pure (D _ _ (M2.endA c.hA c.hB z))
 ·rw [if_neg (by simpa using z)]
  have y:=Y _ _ _ mg ac bc M2 (by lia) h2 (by lia)
  split
  ·exact wpS_pure y.1
  ·exact wpS_pure y.2
theorem Ac (c:MC prog w A s κ r P a b) (hk:kindOf st=κ) (M:MH r a b out na nb) (h1:0<na) (h2:2<=nb) (hN:na+nb<=N) (D:HD r a b Q st) (Y:HY r a b N Q st):wpS (model prog w) A E s (hi2 a b mg ac bc na nb out) Q st:=by
 have ha:=M.ha
 have hb:=M.hb
 refine wpS_bind (aB (by lia) fun p e=>wpS_bind (b_ c.C hk c.pb (c.pa.at e) (by lia) (by lia) (fun i j u v w=>c.hB i j u v (by lia)) fun l hl1 hl2 hl3=>?_))
 have ra:=R_at (r:=r) e
 dsimp only
 have lt:0<l->R r b (l - 1)<=R r a (na - 1):=fun z=>by have:=yU (hl2 (l - 1) (by exact xca ‹_› xbX)); rw [xck] at this; lia
 by_cases l0:nb - l>0
 ·have M5:=MH.addB c.hA c.hB (nb - l) (p:=l) M (by exact xa8 ‹_›) fun _ i hi1 hi2=>by have:=qb (hl3 i hi1 hi2); rw [xck] at this; lia
  rw [if_pos l0]
  by_cases z4:l=1
  ·rw [if_pos (by simpa using z4)]
   exact wpS_pure (D _ _ (M5.o_ c.hA c.hB z4 c.hl))
  ·rw [if_neg (by simpa using z4)]
   by_cases z6:l=0
   ·rw [if_pos (by simpa using z6)]
    exact wpS_pure (D _ _ (M5.endB c.hA c.hB z6))
   ·rw [if_neg (by simpa using z6)]
    exact wj c M5 h1 (lt (by lia)) (by lia) (by lia) D Y
 ·rw [if_neg l0]
  obtain rfl:l=nb:=by lia
  exact wj c M h1 (lt (by exact xbM ‹_›)) h2 hN D Y
theorem wY (c:MC prog w A s κ r P a b) (hk:kindOf st=κ) (M:MH r a b out na nb) (h1:0<na) (h2:2<=nb) (lt:R r a (na - 1)<=R r b (nb - 1)) (hN:na+nb<=N) (D:HD r a b Q st) (Y:HY r a b N Q st):wpS (model prog w) A E s (hi1 a b mg ac bc na nb out) Q st:=by
 have hb:=M.hb
 refine wpS_bind (aB (by lia) fun p e=>?_)
 have M4:=M.lZ c.hA c.hB (by exact xbM ‹_›) e fun _=>lt
 by_cases z:nb - 1=1
 ·rw [if_pos (by simpa using z)]
  exact wpS_pure (D _ _ (M4.o_ c.hA c.hB z c.hl))
 ·rw [if_neg (by simpa using z)]
  exact Ac c hk M4 h1 (by lia) (by lia) D Y
theorem Av (c:MC prog w A s κ r P a b) (hk:kindOf st=κ) (M:MH r a b out na nb) (h1:0<na) (h2:2<=nb) (hN:na+nb<=N) (D:∀ st',Mg st st'->HD r a b Q st') (Y:∀ st',Mg st st'->HY r a b N Q st'):wpS (model prog w) A E s (hi0 a b mg ac bc na nb out) Q st:=by
 have ha:=M.ha
 have hb:=M.hb
 have g:=(Mg.refl st).set mg
 refine wpS_bind (fO ?_)
 refine wpS_bind (aB (by lia) fun p e=>wpS_bind (b_ c.C (g.kind.trans hk) c.pa (c.pb.at e) (by lia) (by exact xca ‹_› xbX) (fun i j u v w=>c.hA i j u v (by lia)) fun k hk1 hk2 hk3=>?_))
 have rb:=R_at (r:=r) e
 dsimp only
 have lt:0<k->R r a (k - 1)<=R r b (nb - 1):=fun z=>by have:=vQ (hk2 (k - 1) (by exact xca ‹_› xbX)); rw [xck] at this; lia
 by_cases k0:na - k>0
 ·have M3:=MH.addA c.hA c.hB (na - k) (p:=k) M (by exact xa8 ‹_›) fun _ i hi1 hi2=>by have:=rH (hk3 i hi1 hi2); rw [xck] at this; lia
  rw [if_pos k0]
  by_cases z:k=0
  ·rw [if_pos (by simpa using z)]
   exact wpS_pure (D _ g _ _ (M3.endA c.hA c.hB z))
  ·rw [if_neg (by simpa using z)]
   exact wY c (g.kind.trans hk) M3 (by lia) h2 (lt (by lia)) (by lia) (D _ g) (Y _ g)
 ·rw [if_neg k0]
  obtain rfl:k=na:=by lia
  exact wY c (g.kind.trans hk) M h1 h2 (lt h1) hN (D _ g) (Y _ g)
def HI (r:Value->Int) (a b:Array Keyed) (N:Nat) (c:S2):Prop:=∃ na nb out ac bc,c=(none,na,nb,out,ac,bc)/\MH r a b out na nb/\1<=na/\2<=nb/\na+nb<=N
theorem z9 {Q:ForInStep S2->SortSt->Prop} (c:MC prog w A s κ r P a b) (M:MH r a b out na nb) (h1:0<na) (lt:R r b (nb - 1)<=R r a (na - 1)) (h2:2<=nb) (hN:na+nb<=N+1) (D:∀ c,HS r a b c->Q (.done c) st) (Y:∀ c,HI r a b N c->Q (.done c) st/\Q (.yield c) st):wpS (model prog w) A E s (hiA a b mg ac na nb out) Q st:=by
 have ha:=M.ha
 refine wpS_bind (aB (by lia) fun p e=>?_)
 have M2:=M.mK c.hA c.hB h1 e fun _=>lt
 by_cases z:na - 1=0
 ·rw [if_pos (by simpa using z)]
  exact wpS_pure (D _ ⟨_,_,rfl,M2.endA c.hA c.hB z⟩)
 ·rw [if_neg (by simpa using z)]
  have y:=Y _ ⟨_,_,_,ac+1,0,rfl,M2,by lia,h2,by lia⟩
  split
  ·exact wpS_pure y.1
  ·exact wpS_pure y.2
theorem Aq {Q:ForInStep S2->SortSt->Prop} (c:MC prog w A s κ r P a b) (M:MH r a b out na nb) (h1:0<na) (lt:R r a (na - 1)<=R r b (nb - 1)) (h2:2<=nb) (hN:na+nb<=N+1) (D:∀ c,HS r a b c->Q (.done c) st) (Y:∀ c,HI r a b N c->Q (.done c) st/\Q (.yield c) st):wpS (model prog w) A E s (hiB a b mg bc na nb out) Q st:=by
 have hb:=M.hb
 refine wpS_bind (aB (by lia) fun p e=>?_)
 have M2:=M.lZ c.hA c.hB (by exact xbM ‹_›) e fun _=>lt
 by_cases z:nb - 1=1
 ·rw [if_pos (by simpa using z)]
  exact wpS_pure (D _ ⟨_,_,rfl,M2.o_ c.hA c.hB z c.hl⟩)
 ·rw [if_neg (by simpa using z)]
  have y:=Y _ ⟨_,_,_,0,bc+1,rfl,M2,h1,by lia,by lia⟩
  split
  ·exact wpS_pure y.1
  ·exact wpS_pure y.2
theorem zL {Q:ForInStep S2->SortSt->Prop} {x:Nat} (c:MC prog w A s κ r P a b) (hk:kindOf st=κ) (M:MH r a b out na nb) (h1:0<na) (h2:2<=nb) (hN:na+nb<=N+1) (D:∀ c,HS r a b c->Q (.done c) st) (Y:∀ c,HI r a b N c->Q (.done c) st/\Q (.yield c) st):wpS (model prog w) A E s (hiI a b mg x (none,na,nb,out,ac,bc)) Q st:=by
 have ha:=M.ha
 have hb:=M.hb
 refine wpS_bind (aB (show nb - 1<b.size by lia) fun pb eb=>wpS_bind (aB (show na - 1<a.size by lia) fun pa ea=>wpS_bind (m7 c.C hk (c.pb.at eb) (c.pa.at ea) ?_)))
 have rb:R r b (nb - 1)=r pb.1:=R_at eb
 have ra:R r a (na - 1)=r pa.1:=R_at ea
 dsimp only
 by_cases hw:r pb.1<r pa.1
 ·rw [if_pos (decide_eq_true hw)]
  exact z9 c M h1 (by lia) h2 hN D Y
 ·rw [if_neg (by simpa using hw)]
  exact Aq c M h1 (by lia) h2 hN D Y
theorem Ax {Q:ForInStep S1->SortSt->Prop} (c:MC prog w A s κ r P a b) (hk:kindOf st=κ) (M:MH r a b out na nb) (h1:0<na) (h2:2<=nb) (hN:na+nb<=N) (D:∀ st',Mg st st'->∀ c,HS r a b c->Q (.done c) st')
  (Y:∀ st',Mg st st'->∀ out na nb mg,MH r a b out na nb->1<=na->2<=nb->na+nb<=N->Q (.yield (none,na,nb,out,mg)) st'):wpS (model prog w) A E s (hiP a b mg (none,na,nb,out,ac,bc)) Q st:=by
 refine wpS_bind (wpS_lift (wpAny_rule ⟨rfl,?_⟩))
 refine wpS_bind (wpS_mono (wpS_forRange (I:=fun _ c st'=>Mg st st'/\∃ na nb out mg ac bc,c=(none,na,nb,out,mg,ac,bc)/\MH r a b out na nb/\1<=na/\2<=nb/\na+nb<=N)
  (Q:=fun c st'=>Mg st st'/\(HS r a b c\/∃ na nb out mg ac bc,c=(none,na,nb,out,mg,ac,bc)/\MH r a b out na nb/\1<=na/\2<=nb/\na+nb<=N)) ?step ?fin ⟨.refl st,_,_,_,_,_,_,rfl,M,h1,h2,hN⟩) ?post)
 case fin =>
  rintro c st' ⟨hm,q⟩
  exact ⟨hm,.inr q⟩
 case step =>
  rintro y c1 st1 _ _ ⟨hm,na,nb,out,mg,ac,bc,rfl,M,h1,h2,hN⟩
  unfold hiG
  dsimp only
  split <;> exact Av c (hm.kind.trans hk) M h1 h2 hN (fun st' g o rest hM=>⟨hm.trans g,.inl ⟨o,rest,rfl,hM⟩⟩) fun st' g o na nb mg ac bc M h1 h2 hN=>⟨⟨hm.trans g,.inr ⟨_,_,_,_,_,_,rfl,M,h1,h2,hN⟩⟩,hm.trans g,_,_,_,_,_,_,rfl,M,h1,h2,hN⟩
 case post =>
  rintro c st' ⟨hm,⟨o,rest,rfl,hM⟩ | ⟨na,nb,out,mg,ac,bc,rfl,M,h1,h2,hN⟩⟩
  ·exact wpS_pure (D _ hm _ ⟨_,_,rfl,hM⟩)
  ·exact wpS_bind (fO (wpS_pure (Y _ (hm.set _) _ _ _ _ M h1 h2 hN)))
theorem A_ {Q:ForInStep S1->SortSt->Prop} {x:Nat} (c:MC prog w A s κ r P a b) (hk:kindOf st=κ) (M:MH r a b out na nb) (h1:0<na) (h2:2<=nb) (hN:na+nb<=N+1) (D:∀ st',Mg st st'->∀ c,HS r a b c->Q (.done c) st')
  (Y:∀ st',Mg st st'->∀ out na nb mg,MH r a b out na nb->1<=na->2<=nb->na+nb<=N->Q (.yield (none,na,nb,out,mg)) st'):wpS (model prog w) A E s (hiO a b x (none,na,nb,out,mg)) Q st:=by
 have ha:=M.ha
 have hb:=M.hb
 refine wpS_bind (wpS_mono (wpS_forRange (I:=fun y c st'=>st'=st/\HI r a b (N+1 - y) c) (Q:=fun c st'=>st'=st/\(HS r a b c\/HI r a b N c)) ?step ?fin ⟨rfl,_,_,_,_,_,rfl,M,h1,h2,hN⟩) ?post)
 case fin =>
  rintro c st' ⟨rfl,na',nb',o,ac,bc,rfl,M',q1,q2,q3⟩
  exact ⟨rfl,.inr ⟨_,_,_,_,_,rfl,M',q1,q2,by lia⟩⟩
 case step =>
  rintro y c1 st1 _ hy ⟨rfl,na',nb',o,ac,bc,rfl,M',q1,q2,q3⟩
  exact zL (N:=N - y) c hk M' q1 q2 (by lia) (fun c q=>⟨rfl,.inl q⟩) fun c q=>by
   obtain ⟨na,nb,o,ac,bc,rfl,M,h1,h2,h3⟩:=q
   exact ⟨⟨rfl,.inr ⟨_,_,_,_,_,rfl,M,h1,h2,by walk_at "s4"⟩⟩,rfl,_,_,_,_,_,rfl,M,h1,h2,by lia⟩
 case post =>
  rintro c1 st' ⟨rfl,⟨o,rest,rfl,hM⟩ | ⟨na,nb,o,ac,bc,rfl,M',q1,q2,q3⟩⟩
  ·exact wpS_pure (D _ (.refl _) _ ⟨_,_,rfl,hM⟩)
  ·exact Ax c hk M' q1 q2 q3 D Y
theorem nj {st:SortSt} {a b:Array Keyed} {Q:Array Keyed->SortSt->Prop} (C:Cmp prog w A s κ r P) (hk:kindOf st=κ) (hPa:AllP P a) (hPb:AllP P b) (hA:Up r a 0 a.size) (hB:Up r b 0 b.size) (na:1<=a.size) (nb:1<=b.size)
  (h0:R r b 0<=R r a 0) (hg:∀ j,j<b.size->R r b j<=R r a (a.size - 1)) (h:∀ out st',bN r a b out->Mg st st'->Q out st'):wpS (model prog w) A E s (pB a b) Q st:=by
 have c:MC prog w A s κ r P a b:=⟨C,hPa,hPb,hA,hB,fun i hi=>xaU h0 (hA 0 i (xae _) (xao _) hi),hg⟩
 rw [qG]
 refine wpS_bind (wpS_lift (wpAny_rule ⟨rfl,?_⟩))
 refine wpS_bind (aB (by exact xca ‹_› xbX) fun y0 e0=>?_)
 have M1:MH r a b #[y0] (a.size - 1) b.size:=MH.start.mK hA hB na e0 fun _=>hg _ (by exact xca ‹_› xbX)
 by_cases c1:a.size - 1=0
 ·rw [if_pos (by simpa using c1)]
  exact wpS_pure (h _ _ (M1.endA hA hB c1) (.refl st))
 ·rw [if_neg (by simpa using c1)]
  by_cases c2:b.size=1
  ·rw [if_pos (by simpa using c2)]
   exact wpS_pure (h _ _ (M1.o_ hA hB c2 c.hl) (.refl st))
  ·rw [if_neg (by simpa using c2)]
   refine wpS_bind (wpS_get ?_)
   refine wpS_bind (wpS_mono (wpS_forRange (I:=fun x c st'=>Mg st st'/\∃ na nb out mg,c=(none,na,nb,out,mg)/\MH r a b out na nb/\1<=na/\2<=nb/\na+nb<=a.size+b.size - x)
    (Q:=fun c st'=>Mg st st'/\HS r a b c) ?step ?fin ⟨.refl st,_,_,_,_,rfl,M1,by lia,by lia,by lia⟩) ?post)
   case fin =>
    rintro c st' ⟨_,na,nb,out,mg,rfl,M,h1,h2,h3⟩
    lia
   case post =>
    rintro c st' ⟨hm,out,rest,rfl,hM⟩
    exact wpS_pure (h out st' hM hm)
   case step =>
    rintro x c1 st1 _ hx ⟨hm1,na,nb,out,mg,rfl,M,h1,h2,h3⟩
    exact A_ (N:=a.size+b.size - (x+1)) c (hm1.kind.trans hk) M h1 h2 (by lia) (fun st' g c q=>⟨hm1.trans g,q⟩) fun st' g out na nb mg M h1 h2 h3=>⟨hm1.trans g,_,_,_,_,rfl,M,h1,h2,h3⟩
end
def wr (p:Nat) (m:List Keyed) (n:Nat) (xs:Array Keyed):Array Keyed:=(m.zipIdx n).foldl (fun a (q:Keyed × Nat)=>a.setIfInBounds (p+q.2) q.1) xs
theorem rJ (p:Nat):∀ (m:List Keyed) (n:Nat) (xs:Array Keyed),p+n+m.length<=xs.size->∀ k:Nat,(wr p m n xs)[k]? = if p+n<=k/\k<p+n+m.length then m[k - (p+n)]? else xs[k]?
 | [],n,xs,h,k=>by
  rw [if_neg (by simp only [List.length_nil]; lia)]; rfl
 | q :: m,n,xs,h,k=>by
  have ih:=rJ p m (n+1) (xs.setIfInBounds (p+n) q) (by rw [Array.size_setIfInBounds]; simp only [xaH] at h; lia) k
  have e:wr p (q :: m) n xs=wr p m (n+1) (xs.setIfInBounds (p+n) q):=by unfold wr; rw [List.zipIdx_cons,List.foldl_cons]
  simp only [xaH] at h ⊢
  rw [e,ih]
  by_cases h1:p+(n+1)<=k/\k<p+(n+1)+m.length
  ·rw [if_pos h1,if_pos (by lia),show k - (p+n)=(k - (p+(n+1)))+1 by lia,List.getElem?_cons_succ]
  ·rw [if_neg h1]
   by_cases h2:k=p+n
   ·subst h2
    rw [if_pos (by walk_at "s4"),Nat.sub_self,List.getElem?_cons_zero,Array.getElem?_setIfInBounds_self_of_lt (by lia)]
   ·rw [if_neg (by lia),Array.getElem?_setIfInBounds_ne (by walk_at "s1")]
theorem zf (h:p+m.length<=xs.size):(wr p m 0 xs).toList=xs.toList.take p++m++xs.toList.drop (p+m.length):=by
 have hl:xs.toList.length=xs.size:=by simp
 apply xbP
 intro k
 have e:=rJ p m 0 xs h k
 rw [Nat.add_zero] at e
 rw [xaF,e]
 by_cases h1:k<p
 ·rw [if_neg (by lia),xaO,xbk (by rw [xaG]; lia),List.getElem?_take_of_lt h1,xaF]
 ·by_cases h2:k<p+m.length
  ·rw [if_pos (by lia),xaO,xaR (by rw [xaG]; lia),xaG,show min p xs.toList.length=p by lia,xbk (by lia)]
  ·rw [if_neg (by lia),xaO,xaR (by rw [xaG]; lia),xaG,show min p xs.toList.length=p by lia,xaR (by lia),List.getElem?_drop,
    show p+m.length+(k - p - m.length)=k by lia,xaF]
theorem zq {p q:Nat} {xs:Array Keyed} (h:p<=q) (h2:q<=xs.size):xs.toList=xs.toList.take p++(xs.extract p q).toList++xs.toList.drop q:=by
 rw [xb3,xbG]
 have e1:xs.toList.take p++(xs.toList.drop p).take (q - p)=xs.toList.take q:=by
  rw [<- xbi p (xs.toList.take q),List.take_take,List.drop_take,Nat.min_eq_left h]
 rw [e1,xbi]
theorem yV {p q:Nat} {m:List Keyed} {xs:Array Keyed} (h:p<=q) (h2:q<=xs.size) (hm:m.Perm (xs.extract p q).toList):(wr p m 0 xs).Perm xs:=by
 have hl:m.length=q - p:=by rw [hm.length_eq]; simp; lia
 rw [xbC,zf (by lia),show p+m.length=q by lia]
 have e:=zq (xs:=xs) h h2
 exact (List.Perm.append_right _ (List.Perm.append_left _ hm)).trans (by rw [<- e])
def Runs (r:Value->Int) (xs:Array Keyed):List (Nat × Nat × Nat)->Nat->Nat->Prop
 | [],a,b=>a=b
 | (s,n,_) :: rest,a,b=>s=a/\1<=n/\Up r xs s (s+n)/\Runs r xs rest (s+n) b
section
variable {r:Value->Int} {xs ys:Array Keyed}
theorem Runs.le:∀ {ps:List (Nat × Nat × Nat)} {a b:Nat},Runs r xs ps a b->a+ps.length<=b
 | [],a,b,h=>by simp only [Runs] at h; simp; lia
 | (s,n,p) :: rest,a,b,h=>by
  obtain ⟨rfl,h1,_,h3⟩:=h
  have:=Runs.le h3
  simp only [xaH]; lia
theorem Runs.append:∀ {ps qs:List (Nat × Nat × Nat)} {a b:Nat},Runs r xs (ps++qs) a b↔∃ c,Runs r xs ps a c/\Runs r xs qs c b
 | [],qs,a,b=>by simp [Runs]
 | (s,n,p) :: rest,qs,a,b=>by
  simp only [xbU,Runs]
  constructor
  ·rintro ⟨h1,h2,h3,h4⟩
   obtain ⟨c,h5,h6⟩:=Runs.append.mp h4
   exact ⟨c,⟨h1,h2,h3,h5⟩,h6⟩
  ·rintro ⟨c,⟨h1,h2,h3,h5⟩,h6⟩
   exact ⟨h1,h2,h3,Runs.append.mpr ⟨c,h5,h6⟩⟩
theorem Up.congr (h:Up r xs a b) (e:∀ k,a<=k->k<b->ys[k]? = xs[k]?):Up r ys a b:=fun i j h1 h2 h3=>by
 rw [cu (e i h1 (by lia)),cu (e j (by lia) h3)]; exact h i j h1 h2 h3
theorem Runs.congr:∀ {ps:List (Nat × Nat × Nat)} {a b:Nat},Runs r xs ps a b->(∀ k,a<=k->k<b->ys[k]? = xs[k]?)->Runs r ys ps a b
 | [],a,b,h,_=>h
 | (s,n,p) :: rest,a,b,h,e=>by
  obtain ⟨rfl,h1,h2,h3⟩:=h
  have l:=h3.le
  exact ⟨rfl,h1,h2.congr fun k u v=>e k u (by lia),Runs.congr h3 fun k u v=>e k (by walk_at "s4") v⟩
theorem Up.glue (h1:Up r xs a b) (h2:Up r xs b c) (h:∀ i j,a<=i->i<b->b<=j->j<c->R r xs i<=R r xs j):Up r xs a c:=fun i j u v w=>by
 by_cases hj:j<b
 ·exact h1 i j u v hj
 ·by_cases hi:i<b
  ·exact h i j u hi (by lia) w
  ·exact h2 i j (by lia) v w
end
section
variable {prog:Program} {w:World} {A:Around} {E:Value->Shared->Prop} {s:Shared} {κ:SortKind} {r:Value->Int} {P:Value->Prop}
theorem AllP.extract (h:AllP P xs) (i j:Nat):AllP P (xs.extract i j):=fun p hp=>h p (by
 rw [xb3,xbG] at hp
 exact xb4 (xbz hp))
theorem cQ (h:i+k<j) (hj:j<=xs.size):R r (xs.extract i j) k=R r xs (i+k):=by
 apply cu
 rw [xbt,if_pos (by lia)]
theorem Up.extract (h:Up r xs i j) (hij:i<=j) (hj:j<=xs.size):Up r (xs.extract i j) 0 (xs.extract i j).size:=fun a b _ h2 h3=>by
 have e:(xs.extract i j).size=j - i:=by simp only [xa4]; lia
 rw [e] at h3
 rw [cQ (by lia) hj,cQ (by lia) hj]
 exact h _ _ (by lia) (by lia) (by lia)
theorem rZ (hz:sa+na+nb<=xs.size) (hk:k<na) (hnb:nb'<=nb) (hA:Up r xs sa (sa+na)) (hB:Up r xs (sa+na) (sa+na+nb))
  (lo1:∀ i,i<k->R r xs (sa+i)<=R r xs (sa+na)) (lo2:R r xs (sa+na)<R r xs (sa+k)) (hi1:∀ i,i<nb'->R r xs (sa+na+i)<R r xs (sa+na - 1)) (hi2:∀ i,nb'<=i->i<nb->R r xs (sa+na - 1)<=R r xs (sa+na+i))
  (hm:bN r (xs.extract (sa+k) (sa+na)) (xs.extract (sa+na) (sa+na+nb')) m) :
  Up r (wr (sa+k) m.toList 0 xs) sa (sa+na+nb)/\(wr (sa+k) m.toList 0 xs).Perm xs/\∀ j,j<sa\/sa+na+nb<=j->(wr (sa+k) m.toList 0 xs)[j]? = xs[j]? := by
 obtain ⟨mp,mu⟩:=hm
 have eab:(xs.extract (sa+k) (sa+na)).toList++(xs.extract (sa+na) (sa+na+nb')).toList=(xs.extract (sa+k) (sa+na+nb')).toList:=by
  rw [<- Array.toList_append,Array.extract_append_extract,show min (sa+k) (sa+na)=sa+k by lia,show max (sa+na) (sa+na+nb')=sa+na+nb' by lia]
 rw [eab] at mp
 have ml:m.toList.length=na+nb' - k:=by rw [mp.length_eq]; simp; lia
 have hw:sa+k+m.toList.length<=xs.size:=by lia
 have get:=rJ (sa+k) m.toList 0 xs (by lia)
 rw [Nat.add_zero,ml] at get
 -- every merged item is one of the window's
 have mem:∀ (j:Nat) (p:Keyed),m.toList[j]? = some p->∃ i,sa+k<=i/\i<sa+na+nb'/\r p.1=R r xs i:=fun j p e=>by
  have hp:p∈(xs.extract (sa+k) (sa+na+nb')).toList:=mp.mem_iff.mp (xa6 e)
  obtain ⟨i,hi⟩:=List.getElem?_of_mem hp
  rw [xaF,xbt] at hi
  split at hi
  ·exact ⟨sa+k+i,by lia,by lia,(R_at hi).symm⟩
  ·cases hi
 have low:∀ i,sa+k<=i->i<sa+na+nb'->R r xs (sa+na)<=R r xs i:=fun i h1 h2=>by
  by_cases h3:i<sa+na
  ·exact xaU (xa9 lo2) (hA (sa+k) i (by lia) h1 h3)
  ·exact hB (sa+na) i (xae _) (by lia) (by lia)
 have high:∀ i,sa+k<=i->i<sa+na+nb'->R r xs i<=R r xs (sa+na - 1):=fun i h1 h2=>by
  by_cases h3:i<sa+na
  ·exact hA i (sa+na - 1) (by lia) (by lia) (by lia)
  ·have:=hi1 (i - (sa+na)) (by lia)
   rw [show sa+na+(i - (sa+na))=i by lia] at this
   lia
 have Rin:∀ j,j<na+nb' - k->∃ i,sa+k<=i/\i<sa+na+nb'/\R r (wr (sa+k) m.toList 0 xs) (sa+k+j)=R r xs i:=fun j hj=>by
  have e:=get (sa+k+j)
  rw [if_pos (by lia),show sa+k+j - (sa+k)=j by lia] at e
  have hj':j<m.toList.length:=by lia
  obtain ⟨i,h1,h2,h3⟩:=mem j m.toList[j] (xaX hj')
  rw [xaX hj'] at e
  exact ⟨i,h1,h2,(R_at e).trans h3⟩
 have Rout:∀ j,j<sa+k\/sa+na+nb'<=j->(wr (sa+k) m.toList 0 xs)[j]? = xs[j]? := fun j hj=>by
  have e:=get j
  rw [if_neg (by lia)] at e
  exact e
 refine ⟨?_,yV (by lia) (by lia) mp,fun j hj=>Rout j (by lia)⟩
 have U1:Up r (wr (sa+k) m.toList 0 xs) sa (sa+k):=Up.congr (xs:=xs) (fun i j h1 h2 h3=>hA i j h1 h2 (by lia)) fun j h1 h2=>Rout j (.inl h2)
 have U2:Up r (wr (sa+k) m.toList 0 xs) (sa+k) (sa+na+nb'):=fun i j h1 h2 h3=>by
  have ei:=get i
  have ej:=get j
  rw [if_pos (by lia)] at ei ej
  have li:i - (sa+k)<m.toList.length:=by lia
  have lj:j - (sa+k)<m.toList.length:=by lia
  rw [xaX li] at ei
  rw [xaX lj] at ej
  rw [R_at ei,R_at ej]
  by_cases hij:i=j
  ·subst hij; exact xa1 _
  ·exact (List.pairwise_iff_getElem.mp mu) _ _ li lj (by lia)
 have U3:Up r (wr (sa+k) m.toList 0 xs) (sa+na+nb') (sa+na+nb):=Up.congr (xs:=xs) (fun i j h1 h2 h3=>hB i j (by lia) h2 h3) fun j h1 h2=>Rout j (.inr h1)
 refine (U1.glue U2 fun i j h1 h2 h3 h4=>?_).glue U3 fun i j h1 h2 h3 h4=>?_
 ·obtain ⟨q,q1,q2,q3⟩:=Rin (j - (sa+k)) (by lia)
  rw [show sa+k+(j - (sa+k))=j by lia] at q3
  rw [q3,cu (Rout i (.inl h2))]
  have:=lo1 (i - sa) (by lia)
  rw [show sa+(i - sa)=i by lia] at this
  exact xaU this (low q q1 q2)
 ·have e2:=hi2 (j - (sa+na)) (by lia) (by lia)
  rw [show sa+na+(j - (sa+na))=j by lia] at e2
  rw [cu (Rout j (.inr h3))]
  by_cases hi:i<sa+k
  ·rw [cu (Rout i (.inl hi))]
   have:=lo1 (i - sa) (by lia)
   rw [show sa+(i - sa)=i by lia] at this
   have:=low (sa+na - 1) (by lia) (by lia)
   lia
  ·obtain ⟨q,q1,q2,q3⟩:=Rin (i - (sa+k)) (by lia)
   rw [show sa+k+(i - (sa+k))=i by lia] at q3
   rw [q3]
   exact xaU (high q q1 q2) e2
structure St (r:Value->Int) (κ:SortKind) (a₀:Array Keyed) (st:SortSt) (ps:List (Nat × Nat × Nat)) (lo:Nat):Prop where
 kind:kindOf st=κ
 failed:failedOf st=none
 perm:(arrOf st).Perm a₀
 pend:pendingOf st=ps.toArray
 runs:Runs r (arrOf st) ps 0 lo
theorem St.size {a₀:Array Keyed} {st:SortSt} {ps:List (Nat × Nat × Nat)} {lo:Nat} (h:St r κ a₀ st ps lo):(arrOf st).size=a₀.size:=h.perm.size_eq
theorem vI {ps:List (Nat × Nat × Nat)} (h:i+1<ps.length):∃ pre x y post,ps=pre++x :: y :: post/\pre.length=i:=by
 refine ⟨ps.take i,ps[i],ps[i+1],ps.drop (i+2),?_,by rw [xaG]; lia⟩
 rw [<- xaL (by lia),<- xaL (by lia),xbi]
theorem g_ {st:SortSt} {a₀:Array Keyed} {ps:List (Nat × Nat × Nat)} {lo i:Nat} {Q:Bool->SortSt->Prop} (C:Cmp prog w A s κ r P) (hP:AllP P a₀) (H:St r κ a₀ st ps lo) (hlo:lo<=a₀.size) (hi:i+1<ps.length)
  (h:∀ st' ps',St r κ a₀ st' ps' lo->ps'.length+1=ps.length->ps'≠[]->(∀ k,lo<=k->(arrOf st')[k]? = (arrOf st)[k]?)->Q true st'):wpS (model prog w) A E s (mergeAt' i) Q st:=by
 obtain ⟨pre,⟨sa,na,pa⟩,⟨sb,nb,pb⟩,post,rfl,hpre⟩:=vI hi
 have hz:=H.size
 have hP':AllP P (arrOf st):=hP.perm H.perm
 obtain ⟨c,hr1,hr2⟩:=Runs.append.mp H.runs
 obtain ⟨rfl,n1,u1,rfl,n2,u2,hr3⟩:=hr2
 have le3:=hr3.le
 have le1:=hr1.le
 -- the new pending list
 have epend:((pendingOf st).setIfInBounds i (sa,na+nb,pa)).eraseIdxIfInBounds (i+1)=(pre++(sa,na+nb,pa) :: post).toArray:=by
  rw [H.pend]
  apply xbW.mp
  simp [<- hpre,List.eraseIdx_append_of_length_le]
 have new:∀ (xs:Array Keyed) (g:Nat),xs.Perm (arrOf st)->(∀ j,j<sa\/sa+na+nb<=j->xs[j]? = (arrOf st)[j]?)->Up r xs sa (sa+(na+nb)) ->
   St r κ a₀ (SortSt.mk' (kindOf st) xs (pre++(sa,na+nb,pa) :: post).toArray g (failedOf st)) (pre++(sa,na+nb,pa) :: post) lo:=fun xs g hp ho hu =>
  ⟨H.kind,H.failed,hp.trans H.perm,rfl,Runs.append.mpr ⟨sa,hr1.congr fun k _ hk=>ho k (.inl hk),rfl,by walk_at "s4",hu,by
   rw [show sa+(na+nb)=sa+na+nb by exact (xbE ..).symm]
   exact hr3.congr fun k hk _=>ho k (.inr hk)⟩⟩
 have len:(pre++(sa,na+nb,pa) :: post).length+1=(pre++(sa,na,pa) :: (sa+na,nb,pb) :: post).length:=by simp; exact xbE ..
 have e0:(pendingOf st)[i]? = some (sa,na,pa):=by rw [H.pend,<- hpre]; simp
 have e1:(pendingOf st)[i+1]? = some (sa+na,nb,pb):=by rw [H.pend,<- hpre]; simp
 refine wpS_bind (wpS_get ?_)
 rw [e0,e1]
 dsimp only
 refine wpS_bind (wpS_modify (f:=fun _=>SortSt.mk' (kindOf st) (arrOf st) (((pendingOf st).setIfInBounds i (sa,na+nb,pa)).eraseIdxIfInBounds (i+1)) (gallopOf st) (failedOf st)) ?_)
 rw [epend]
 refine wpS_bind (aB (xs:=arrOf st) (by lia) fun kb ekb=>wpS_bind (b_ (arr:=arrOf st) C H.kind hP' (hP'.at ekb) (by lia) (by assumption) u1 fun k hk1 hk2 hk3=>?_))
 have rkb:=R_at (r:=r) ekb
 dsimp only
 by_cases z:na - k=0
 ·rw [if_pos (by simpa using z)]
  refine wpS_pure (h _ _ (new (arrOf st) (gallopOf st) (Array.Perm.refl _) (fun _ _=>rfl) ?_) len (by simp) fun _ _=>rfl)
  rw [show sa+(na+nb)=sa+na+nb by exact (xbE ..).symm]
  refine u1.glue u2 fun i j h1 h2 h3 h4=>?_
  have:=vQ (hk2 (i - sa) (by lia))
  rw [show sa+(i - sa)=i by exact xa8 ‹_›] at this
  have:=u2 (sa+na) j (xae _) h3 h4
  lia
 ·rw [if_neg (by simpa using z)]
  refine wpS_bind (aB (xs:=arrOf st) (by lia) fun ka eka=>wpS_bind (b_ (arr:=arrOf st) C H.kind hP' (hP'.at eka) (by lia) (by exact xca ‹_› xbX) u2 fun l hl1 hl2 hl3=>?_))
  have rka:=R_at (r:=r) eka
  rw [show sa+k+(na - k) - 1=sa+na - 1 by lia] at rka
  dsimp only
  by_cases z2:l=0
  ·rw [if_pos (by simpa using z2)]
   refine wpS_pure (h _ _ (new (arrOf st) (gallopOf st) (Array.Perm.refl _) (fun _ _=>rfl) ?_) len (by simp) fun _ _=>rfl)
   rw [show sa+(na+nb)=sa+na+nb by exact (xbE ..).symm]
   refine u1.glue u2 fun i j h1 h2 h3 h4=>?_
   have:=qb (hl3 (j - (sa+na)) (by lia) (by lia))
   rw [show sa+na+(j - (sa+na))=j by exact xa8 ‹_›] at this
   have:=u1 i (sa+na - 1) h1 (by lia) (by lia)
   lia
  ·rw [if_neg (by simpa using z2)]
   have lo1:∀ i,i<k->R r (arrOf st) (sa+i)<=R r (arrOf st) (sa+na):=fun i hi=>by have:=vQ (hk2 i hi); lia
   have lo2:R r (arrOf st) (sa+na)<R r (arrOf st) (sa+k):=by have:=rH (hk3 k (xae _) (by lia)); lia
   have hi1:∀ i,i<l->R r (arrOf st) (sa+na+i)<R r (arrOf st) (sa+na - 1):=fun i hi=>by have:=yU (hl2 i hi); lia
   have hi2:∀ i,l<=i->i<nb->R r (arrOf st) (sa+na - 1)<=R r (arrOf st) (sa+na+i):=fun i h1 h2=>by have:=qb (hl3 i h1 h2); lia
   have sx:((arrOf st).extract (sa+k) (sa+na)).size=na - k:=by simp only [xa4]; lia
   have sy:((arrOf st).extract (sa+na) (sa+na+l)).size=l:=by simp only [xa4]; lia
   have ux:Up r ((arrOf st).extract (sa+k) (sa+na)) 0 ((arrOf st).extract (sa+k) (sa+na)).size:=Up.extract (fun i j h1 h2 h3=>u1 i j (by lia) h2 h3) (by lia) (by lia)
   have uy:Up r ((arrOf st).extract (sa+na) (sa+na+l)) 0 ((arrOf st).extract (sa+na) (sa+na+l)).size:=Up.extract (fun i j h1 h2 h3=>u2 i j h1 h2 (by walk_at "s4")) (by exact xbb _ _) (by lia)
   have h00:R r ((arrOf st).extract (sa+na) (sa+na+l)) 0<=R r ((arrOf st).extract (sa+k) (sa+na)) 0:=by
    rw [cQ (by lia) (by lia),cQ (by lia) (by lia)]
    exact xa9 lo2
   have hgg:∀ j,j<((arrOf st).extract (sa+na) (sa+na+l)).size->R r ((arrOf st).extract (sa+na) (sa+na+l)) j<=R r ((arrOf st).extract (sa+k) (sa+na)) (((arrOf st).extract (sa+k) (sa+na)).size - 1):=fun j hj=>by
    rw [sx,cQ (by lia) (by lia),cQ (by lia) (by lia),show sa+k+(na - k - 1)=sa+na - 1 by lia]
    exact xa9 (hi1 j (by lia))
   have fin:∀ out st',bN r ((arrOf st).extract (sa+k) (sa+na)) ((arrOf st).extract (sa+na) (sa+na+l)) out->Mg (SortSt.mk' (kindOf st) (arrOf st) (pre++(sa,na+nb,pa) :: post).toArray (gallopOf st) (failedOf st)) st' ->
     Q true (SortSt.mk' (kindOf st') (wr (sa+k) out.toList 0 (arrOf st')) (pendingOf st') (gallopOf st') (failedOf st')):=fun out st' hm hg=>by
    obtain ⟨g,rfl⟩:=hg
    obtain ⟨m1,m2,m3⟩:=rZ (by lia) (by lia) hl1 u1 u2 lo1 lo2 hi1 hi2 hm
    exact h _ _ (new _ g m2 m3 (by rw [show sa+(na+nb)=sa+na+nb by exact (xbE ..).symm]; exact m1)) len (by simp) fun k hk=>m3 k (.inr (by lia))
   have fin2:∀ out st',bN r ((arrOf st).extract (sa+k) (sa+na)) ((arrOf st).extract (sa+na) (sa+na+l)) out->Mg (SortSt.mk' (kindOf st) (arrOf st) (pre++(sa,na+nb,pa) :: post).toArray (gallopOf st) (failedOf st)) st' ->
     failedOf st'=none:=fun out st' _ hg=>by
    obtain ⟨g,rfl⟩:=hg
    exact H.failed
   by_cases z3:na - k<=l
   ·rw [if_pos z3]
    refine wpS_bind (oG (a:=(arrOf st).extract (sa+k) (sa+na)) (b:=(arrOf st).extract (sa+na) (sa+na+l)) C H.kind (hP'.extract _ _) (hP'.extract _ _) ux uy (by lia) (by lia) h00 hgg fun out st' hm hg=>?_)
    refine wpS_bind (wpS_modify (wpS_bind (wpS_get ?_)))
    have f:=fin out st' hm hg
    have f2:=fin2 out st' hm hg
    refine wpS_pure ?_
    show Q (failedOf st').isNone _
    rw [f2]
    exact f
   ·rw [if_neg z3]
    refine wpS_bind (nj (a:=(arrOf st).extract (sa+k) (sa+na)) (b:=(arrOf st).extract (sa+na) (sa+na+l)) C H.kind (hP'.extract _ _) (hP'.extract _ _) ux uy (by lia) (by lia) h00 hgg fun out st' hm hg=>?_)
    refine wpS_bind (wpS_modify (wpS_bind (wpS_get ?_)))
    have f:=fin out st' hm hg
    have f2:=fin2 out st' hm hg
    refine wpS_pure ?_
    show Q (failedOf st').isNone _
    rw [f2]
    exact f
end
section
variable {prog:Program} {w:World} {A:Around} {E:Value->Shared->Prop} {s:Shared} {κ:SortKind} {r:Value->Int} {P:Value->Prop}
theorem Runs.modify (hf:∀ x,(f x).1=x.1/\(f x).2.1=x.2.1):∀ {ps:List (Nat × Nat × Nat)} {i a b:Nat},Runs r xs ps a b->Runs r xs (ps.modify i f) a b
 | [],_,_,_,h=>by simpa using h
 | (s,n,p) :: rest,0,a,b,h=>by
  obtain ⟨h1,h2⟩:=hf (s,n,p)
  rw [List.modify_zero_cons]
  have e:f (s,n,p)=(s,n,(f (s,n,p)).2.2):=Prod.ext h1 (Prod.ext h2 rfl)
  rw [e]
  exact h
 | (s,n,p) :: rest,i+1,a,b,h=>by
  rw [List.modify_succ_cons]
  obtain ⟨h1,h2,h3,h4⟩:=h
  exact ⟨h1,h2,h3,Runs.modify hf h4⟩
theorem St.win {a₀:Array Keyed} {st st':SortSt} {ps:List (Nat × Nat × Nat)} {lo hi:Nat} (H:St r κ a₀ st ps lo) (hw:Win lo hi st st'):St r κ a₀ st' ps lo :=
 ⟨hw.kind.trans H.kind,hw.failed.trans H.failed,hw.perm.trans H.perm,hw.pend.trans H.pend,H.runs.congr fun k _ hk=>hw.out k (.inl hk)⟩
theorem wpS_sortRuns {st:SortSt} {Q:Unit->SortSt->Prop} (C:Cmp prog w A s κ r P) (hk:kindOf st=κ) (hP:AllP P (arrOf st)) (hp:pendingOf st = #[]) (hf:failedOf st=none)
  (h:∀ st',(arrOf st').Perm (arrOf st)->failedOf st'=none->Up r (arrOf st') 0 (arrOf st).size->Q () st'):wpS (model prog w) A E s sortRuns' Q st:=by
 rw [sortRuns'_eq]
 refine wpS_bind (wpS_get ?_)
 dsimp only
 generalize ha:arrOf st=a₀ at *
 have H0:St r κ a₀ st [] 0:=⟨hk,hf,by rw [ha],by rw [hp],rfl⟩
 refine wpS_bind (wpS_mono (wpS_forRange (I:=fun x c st'=>∃ ps lo,c=(none,lo)/\St r κ a₀ st' ps lo/\lo<=a₀.size/\x<=lo)
  (Q:=fun c st'=>∃ ps,c=(none,a₀.size)/\St r κ a₀ st' ps a₀.size) ?step ?fin ⟨[],0,rfl,H0,xao _,xae _⟩) ?post)
 case fin =>
  rintro c st' ⟨ps,lo,rfl,H,h1,h2⟩
  have:lo=a₀.size:=by lia
  subst this
  exact ⟨ps,rfl,H⟩
 case post =>
  rintro c st' ⟨ps,rfl,H⟩
  dsimp only
  have l0:=H.runs.le
  refine wpS_bind (wpS_mono (wpS_forRange (I:=fun y c st'=>c=(none,())/\∃ ps',St r κ a₀ st' ps' a₀.size/\ps'.length+y<=a₀.size)
   (Q:=fun c st'=>c=(none,())/\∃ ps',St r κ a₀ st' ps' a₀.size/\ps'.length<=1) ?step3 ?fin3 ⟨rfl,ps,H,by lia⟩) ?post3)
  case fin3 =>
   rintro c st' ⟨rfl,ps',H',hl⟩
   exact ⟨rfl,ps',H',by lia⟩
  case post3 =>
   rintro c st' ⟨rfl,ps',H',hl⟩
   refine wpS_pure (h st' H'.perm H'.failed ?_)
   have q:=H'.runs
   match ps',hl,q with
   | [],_,q =>
    have q:0=a₀.size:=q
    intro i j _ _ hj
    lia
   | [(s',n',p')],_,q =>
    obtain ⟨rfl,_,hu,e⟩:=q
    have e:0+n'=a₀.size:=e
    rw [<- e]
    exact hu
  case step3 =>
   rintro y c st1 _ hy ⟨rfl,ps',H',hl⟩
   refine wpS_bind (wpS_get ?_)
   have ep:(pendingOf st1).size=ps'.length:=by rw [H'.pend]; simp
   by_cases z:(pendingOf st1).size<=1
   ·rw [if_pos z]
    exact wpS_pure ⟨rfl,ps',H',by lia⟩
   ·rw [if_neg z]
    refine wpS_bind (g_ C hP H' (xae _) (by (repeat' split) <;> lia) fun st2 ps2 H2 hlen _ _=>?_)
    rw [if_neg (by simp)]
    exact wpS_pure ⟨rfl,ps2,H2,by lia⟩
 case step =>
  rintro x c st1 _ hx ⟨ps,lo,rfl,H,h1,h2⟩
  dsimp only
  by_cases z:lo >= a₀.size
  ·rw [if_pos z]
   have:lo=a₀.size:=by lia
   subst this
   exact wpS_pure ⟨ps,rfl,H⟩
  ·rw [if_neg z]
   have hz:=H.size
   refine wpS_bind (wpS_countRun C H.kind (hP.perm H.perm) (by lia) (by lia) fun m st2 hw hm1 hm2 hu=>?_)
   have H2:=H.win hw
   dsimp only
   refine xO (K:=?K) ?pk fun key=>?main
   case main =>
    by_cases z2:m<minRun' a₀.size a₀.size 0
    ·rw [if_pos z2]
     refine wpS_bind (wpS_lift (wpAny_rule ⟨rfl,?_⟩))
     refine wpS_bind (wpS_binarySort C H2.kind (hP.perm H2.perm) (by clear key; have:=H2.size; lia) (by clear key; lia) hu fun st3 hw3 hu3=>?_)
     have H3:=H2.win hw3
     rw [if_neg (by simp)]
     have b1:1<=min (a₀.size - lo) (minRun' a₀.size a₀.size 0):=by clear key; lia
     have b2:lo+min (a₀.size - lo) (minRun' a₀.size a₀.size 0)<=a₀.size:=by clear key; lia
     clear hw3
     generalize min (a₀.size - lo) (minRun' a₀.size a₀.size 0)=nn at *
     revert nn st3
     exact key
    ·rw [if_neg z2]
     exact key _ H2 _ hu hm1 (by lia)
   intro st3 H3 nn hu3 b1 b2
   refine wpS_bind (wpS_get ?_)
   have push:∀ (st':SortSt) (ps':List (Nat × Nat × Nat)),St r κ a₀ st' ps' lo->Up r (arrOf st') lo (lo+nn)->∃ ps lo',((none:Option Unit),lo+nn)=(none,lo')/\St r κ a₀ (setPending st' ((pendingOf st').push (lo,nn,0))) ps lo'/\lo'<=a₀.size/\x+1<=lo':=fun st' ps' G u =>
    ⟨ps'++[(lo,nn,0)],lo+nn,rfl,⟨G.kind,G.failed,G.perm,by show (pendingOf st').push _=_; rw [G.pend]; simp,Runs.append.mpr ⟨lo,G.runs,rfl,b1,u,rfl⟩⟩,b2,by lia⟩
   cases hb:(pendingOf st3).back? with
   | none =>
    dsimp only
    exact wpS_bind (wpS_modify (wpS_pure (push st3 ps H3 hu3)))
   | some t =>
    obtain ⟨s1,n1,p1⟩:=t
    dsimp only
    generalize power' a₀.size (2 * s1+n1) (2 * s1+n1+n1+nn) a₀.size=pw
    refine wpS_bind (wpS_mono (wpS_forRange (I:=fun y c st'=>c=(none,())/\∃ ps',St r κ a₀ st' ps' lo/\Up r (arrOf st') lo (lo+nn))
     (Q:=fun c st'=>c=(none,())/\∃ ps',St r κ a₀ st' ps' lo/\Up r (arrOf st') lo (lo+nn)) ?_ (fun _ _ q=>q) ⟨rfl,ps,H3,hu3⟩) ?_)
    ·rintro y c st4 _ hy ⟨rfl,ps',H4,hu4⟩
     refine wpS_bind (wpS_get ?_)
     have ep:(pendingOf st4).size=ps'.length:=by rw [H4.pend]; simp
     by_cases z3:(pendingOf st4).size>1
     ·rw [if_pos z3]
      have e4:(pendingOf st4)[(pendingOf st4).size - 2]? = some ((pendingOf st4)[(pendingOf st4).size - 2]'(by lia)):=getElem?_pos _ _ (by lia)
      rw [e4]
      generalize (pendingOf st4)[(pendingOf st4).size - 2]'(by lia)=tt
      obtain ⟨t1,t2,older⟩:=tt
      dsimp only
      by_cases z4:older<=pw
      ·rw [if_pos z4]
       exact wpS_pure ⟨rfl,ps',H4,hu4⟩
      ·rw [if_neg z4]
       refine wpS_bind (g_ C hP H4 h1 (by lia) fun st5 ps5 H5 hlen _ hout=>?_)
       rw [if_neg (by simp)]
       exact wpS_pure ⟨rfl,ps5,H5,hu4.congr fun k hk _=>hout k hk⟩
     ·rw [if_neg z3]
      exact wpS_pure ⟨rfl,ps',H4,hu4⟩
    ·rintro c st4 ⟨rfl,ps',H4,hu4⟩
     dsimp only
     refine wpS_bind (wpS_modify (wpS_bind (wpS_modify (wpS_pure ?_))))
     refine push _ (ps'.modify (ps'.length - 1) fun x=>(x.1,x.2.1,pw)) ⟨H4.kind,H4.failed,H4.perm,?_,Runs.modify (f:=fun x=>(x.1,x.2.1,pw)) (fun _=>⟨rfl,rfl⟩) H4.runs⟩ hu4
     show (pendingOf st4).modify ((pendingOf st4).size - 1) (fun x=>(x.1,x.2.1,pw))=_
     rw [H4.pend]
     simp
end
section
variable {prog:Program} {w:World} {A:Around} {E:Value->Shared->Prop} {s:Shared} {κ:SortKind} {r:Value->Int} {P:Value->Prop}
def dq (h:Heap) (a:Addr) (vs:List Value):Heap:=((h.update a (Obj.mapSeq fun _=>#[])).push (seqObj "tuple" vs.toArray 0)).push (seqObj "list" #[] 0)
theorem nT (hb:b≠a) (hlt:b<h.objs.size):(dq h a vs).get? b=h.get? b:=by
 unfold dq
 rw [xbm _ _ _ (by rw [size_push',xbp]; exact xav (xa7 hlt)),
  xbm _ _ _ (by rw [xbp]; exact xav hlt),Heap.get?_update_ne _ _ _ _ hb]
theorem nu (hp:xs.Perm (pairsOf vs)) (hs:Up r xs 0 vs.length):(xs.map (·.2)).toList.Perm vs/\(xs.map (·.2)).toList.Pairwise fun x y=>r x<=r y:=by
 have hl:xs.toList.Perm (vs.zip vs):=by rw [<- pairsOf_toList]; exact xbC.mp hp
 have hmem:∀ p,p∈xs.toList->p.1=p.2:=fun p hp'=>(mem_zip_self (hl.mem_iff.mp hp')).1
 have e:(xs.map (·.2)).toList=xs.toList.map (·.1):=by
  rw [Array.toList_map]; exact xbH fun p hp'=>(hmem p hp').symm
 have hsz:xs.size=vs.length:=by rw [hp.size_eq,pairsOf_size]
 rw [e]
 refine ⟨?_,?_⟩
 ·have h1:=hl.map (·.1)
  rwa [xbY (xae _)] at h1
 ·rw [List.pairwise_iff_getElem]
  intro i j hi hj hij
  have hi':i<xs.size:=by simpa using hi
  have hj':j<xs.size:=by simpa using hj
  have h1:=hs i j (xao _) (xaP hij) (by lia)
  rw [Bj hi',Bj hj'] at h1
  simpa using h1
theorem mq {F:PySem.Fin->Shared->Prop} (ho:s.heap.get? a=some (seqObj "list" vs.toArray n)) (hsz:vs.length<=sizeLine) (hP:∀ v∈vs,P v)
  (hk:2<=vs.length->∀ (Q:SortKind->Shared->Prop),Q κ { s with heap:=dq s.heap a vs }->wpAny (model prog w) A (keyKind' vs.toArray) Q E { s with heap:=dq s.heap a vs })
  (C:2<=vs.length->Cmp prog w A { s with heap:=dq s.heap a vs } κ r P)
  (h:∀ out:Array Value,out.toList.Perm vs->(out.toList.Pairwise fun x y=>r x<=r y)->F (.done (.ret .none)) { s with heap:=sortedHeap s.heap a vs out }) :
  wpAny (model prog w) A (Builtin.«list.sort» ⟨[.ref a],[]⟩) F E s:=by
 rw [list_sort_plain]
 have ha:a<s.heap.objs.size:=xan ho
 refine xaa (listItems_at ho rfl ?_)
 refine xaa (listUpdate_at ho rfl ?_ (by simpa using hsz) (xao _))
 obtain ⟨e1,ho1⟩:∃ e1,(s.heap.update a (Obj.mapSeq fun _=>#[])).get? a=some (seqObj "list" #[] e1):=⟨_,get?_update_seq ho (fun _=>#[])⟩
 refine xaa (seqEpoch_at ho1 rfl ?_)
 refine xaa (wpAny_newTuple ?_ (by simpa using hsz))
 refine xaa (wpAny_newList ?_ (xao _))
 refine wpAny_holding ?_
 have ho6:(dq s.heap a vs).get? a=some (seqObj "list" #[] e1):=by
  unfold dq
  rw [xbm _ _ _ (by rw [size_push',xbp]; exact xav (xa7 ha)),xbm _ _ _ (by rw [xbp]; exact xav ha)]
  exact ho1
 show wpAny (model prog w) A _ F E { s with heap:=dq s.heap a vs }
 dsimp only
 have hvz:vs.toArray.size=vs.length:=by simp
 have fin:∀ st':SortSt,(arrOf st').Perm (pairsOf vs)->Up r (arrOf st') 0 vs.length->F (.done (.ret .none)) { s with heap:=sortedHeap s.heap a vs ((arrOf st').map (·.2)) }:=by
  intro st' hp hs
  obtain ⟨h1,h2⟩:=nu hp hs
  exact h _ h1 h2
 by_cases h2:vs.toArray.size<2
 ·rw [if_pos h2,if_pos h2]
  refine xaa (xah ?_)
  rw [StateT.run_pure]
  refine xaa (xah ?_)
  dsimp only
  refine xaa (seqEpoch_at ho6 rfl ?_)
  refine xaa (listUpdate_at ho6 rfl ?_ (xao _) (by rw [Array.size_map]; show (pairsOf vs).size<=_; rw [pairsOf_size]; lia))
  simp only [bne_self_eq_false,xar,if_false]
  refine xah (fin (SortSt.mk' general' (vs.toArray.zip vs.toArray) #[] 7 none) (Array.Perm.refl _) ?_)
  intro i j _ hij hj
  have:i=j:=by lia
  subst this; exact xa1 _
 ·rw [if_neg h2,if_neg h2]
  refine xaa (hk (by lia) _ ?_)
  refine xaa (xaZ (wpS_sortRuns (st:=SortSt.mk' κ (vs.toArray.zip vs.toArray) #[] 7 none)
   (Q:=fun _ st'=>(arrOf st').Perm (pairsOf vs)/\failedOf st'=none/\Up r (arrOf st') 0 vs.length)
   (C (by lia)) rfl (fun p hp=>?_) rfl rfl fun st' a1 a2 a3=>⟨a1,a2,?_⟩) ?_ fun _ _ e=>e)
  ·have hp':p∈(pairsOf vs).toList:=hp
   rw [pairsOf_toList] at hp'
   exact hP _ (mem_zip_self hp').2
  ·have e:(arrOf (SortSt.mk' κ (vs.toArray.zip vs.toArray) #[] 7 none)).size=vs.length:=pairsOf_size vs
   rw [e] at a3
   exact a3
  ·rintro ⟨⟨⟩,st'⟩ s' ⟨rfl,hp,hf,hs⟩
   dsimp only
   refine xaa (seqEpoch_at ho6 rfl ?_)
   refine xaa (listUpdate_at ho6 rfl ?_ (xao _) (by refine xaA (xb9 ((Array.size_map ..).trans (hp.size_eq.trans (pairsOf_size _)))) ?_; lia))
   rw [hf]
   simp only [bne_self_eq_false,xar,if_false]
   exact xah (fin st' hp hs)
def eY (h:Heap) (vs:List Value):Heap:=((h.push (seqObj "list" #[] 0)).update h.objs.size (Obj.mapSeq (· ++ vs.toArray))).push (seqObj "list" vs.toArray 0)
theorem iG (hb:h.get? b=some o):(dq (eY h vs) (h.objs.size+1) vs).get? b=some o:=by
 have hlt:b<h.objs.size:=xan hb
 have e:(eY h vs).get? b=some o:=by
  unfold eY
  rw [xbm _ _ _ (by rw [xbp,size_push']; exact xav (xa7 hlt)),Heap.get?_update_ne _ _ _ _ (xav hlt),xbm _ _ _ (xav hlt)]
  exact hb
 rw [nT (xav (xa7 hlt)) (xan e)]
 exact e
theorem ur (hl:s.heap.IsList l vs.toArray) (hsz:vs.length<=sizeLine) (hP:∀ v∈vs,P v)
  (hk:2<=vs.length->∀ (A':Around) (E':Value->Shared->Prop) (s':Shared),(∀ b o,s.heap.get? b=some o->s'.heap.get? b=some o)->∀ (Q:SortKind->Shared->Prop),Q κ s'->wpAny (model prog w) A' (keyKind' vs.toArray) Q E' s')
  (C:2<=vs.length->∀ (s':Shared),(∀ b o,s.heap.get? b=some o->s'.heap.get? b=some o)->Cmp prog w A.in1.in1 s' κ r P)
  (h:∀ (h':Heap) (out:List Value) (n:Nat),out.Perm vs->(out.Pairwise fun x y=>r x<=r y)->(∀ b o,s.heap.get? b=some o->h'.get? b=some o)->h'.get? (s.heap.objs.size+1)=some (seqObj "list" out.toArray n)->Q (.ref (s.heap.objs.size+1)) { s with heap:=h' }) :
  wpAny (model prog w) A (call (.builtin "sorted") [.ref l]) Q E s:=by
 refine Calls.call_function_entry kind_sorted plain_sorted entry_sorted (args_sorted1 _) ?_
 unfold Builtin.«sorted»
 refine xaa (m:=checkCount "sorted" 1 1 _) (xah ?_)
 refine xaa (collect_list hl ?_ hsz)
 refine xaa (wpAny_newList ?_ (by simpa using hsz))
 have hsz2:((s.heap.push (seqObj "list" #[] 0)).update s.heap.objs.size (Obj.mapSeq (· ++ vs.toArray))).objs.size=s.heap.objs.size+1:=by
  rw [xbp,size_push']
 have hoL:(eY s.heap vs).get? (s.heap.objs.size+1)=some (seqObj "list" vs.toArray 0):=by
  unfold eY
  rw [<- hsz2]; exact xaw _ rfl
 show wpAny _ _ _ _ _ { s with heap:=eY s.heap vs }
 rw [hsz2]
 refine xaa (wpAny_holding (wpAny_call_entry slot_list_sort ⟨_,hoL,rfl⟩ entry_list_sort (mq (r:=r) (s:={ s with heap:=eY s.heap vs }) hoL hsz hP
  (fun h2=>hk h2 _ _ _ fun b o e=>iG e) (fun h2=>?_) fun out a1 a2=>⟨_,rfl,?_⟩) (args_list_sort _)))
 ·exact C h2 _ fun b o e=>iG e
 ·obtain ⟨n,e⟩:=sortedAll_at s.heap vs out
  refine xah ⟨_,rfl,h (sortedAll s.heap vs out) out.toList n a1 a2 (fun b o e=>sortedAll_old e) (by rw [xb2]; exact e)⟩
end
end Tim
namespace L2
open PySem PySem.Spec PyProof.Rows
def lt1:Key->Key->Bool
 | .inl i,.inl j=>decide (i<j)
 | .inr x,.inr y=>ltS x y
 | _,_=>false
def ltK:List Key->List Key->Bool
 | a :: as,b :: bs=>if a=b then ltK as bs else lt1 a b
 | _,_=>false
def isI:Key->Bool
 | .inl _=>true
 | .inr _=>false
def shOf (k:List Key):List Bool:=k.map isI
theorem yh (x:Str):ltS x x=false:=by unfold ltS; simp [List.lt_irrefl]
theorem Ba (h:ltS x y=true) (g:ltS y z=true):ltS x z=true:=by
 unfold ltS at *
 simp only [decide_eq_true_eq] at *
 exact List.lt_trans h g
theorem rA {x y:Str} (h:x.cps.toList=y.cps.toList):x=y:=by
 cases x; cases y
 simp only at h
 rw [xbW.mp h]
theorem yz {x y:Str} (h:ltS x y=false) (g:ltS y x=false):x=y:=by
 unfold ltS at *
 simp only [decide_eq_false_iff_not] at *
 apply rA
 exact List.le_antisymm (List.not_lt.mp g) (List.not_lt.mp h)
theorem xx (a:Key):lt1 a a=false:=by cases a with | inl i=>simp [lt1] | inr x=>exact yh x
theorem Ab (h:lt1 a b=true) (g:lt1 b c=true):lt1 a c=true:=by
 cases a <;> cases b <;> cases c <;> simp only [lt1,decide_eq_true_eq] at * <;> first | lia | contradiction | exact Ba h g
theorem yF (e:isI a=isI b) (h:lt1 a b=false) (g:lt1 b a=false):a=b:=by
 cases a <;> cases b <;> simp only [lt1,isI,decide_eq_false_iff_not] at *
 ·congr 1; lia
 ·cases e
 ·cases e
 ·congr 1; exact yz h g
theorem q_:∀ a:List Key,ltK a a=false
 | []=>rfl
 | a :: as=>by unfold ltK; rw [if_pos rfl]; exact q_ as
theorem uI:∀ {a b c:List Key},ltK a b=true->ltK b c=true->ltK a c=true
 | [],_,_,h,_=>by simp [ltK] at h
 | _ :: _,[],_,h,_=>by simp [ltK] at h
 | _ :: _,_ :: _,[],_,g=>by simp [ltK] at g
 | a :: as,b :: bs,c :: cs,h,g=>by
  unfold ltK at h g ⊢
  by_cases e1:a=b
  ·subst e1
   rw [if_pos rfl] at h
   by_cases e2:a=c
   ·subst e2
    rw [if_pos rfl] at g ⊢
    exact uI h g
   ·rw [if_neg e2] at g ⊢
    exact g
  ·rw [if_neg e1] at h
   by_cases e2:b=c
   ·subst e2
    rw [if_neg e1]
    exact h
   ·rw [if_neg e2] at g
    have t:=Ab h g
    have ne:a≠c:=fun e=>by subst e; rw [xx] at t; cases t
    rw [if_neg ne]
    exact t
theorem oJ:∀ {a b:List Key},shOf a=shOf b->ltK a b=false->ltK b a=false->a=b
 | [],[],_,_,_=>rfl
 | [],_ :: _,e,_,_=>by simp [shOf] at e
 | _ :: _,[],e,_,_=>by simp [shOf] at e
 | a :: as,b :: bs,e,h,g=>by
  simp only [shOf,xat,List.cons.injEq] at e
  unfold ltK at h g
  by_cases e1:a=b
  ·subst e1
   rw [if_pos rfl] at h g
   rw [oJ (show shOf as=shOf bs from e.2) h g]
  ·rw [if_neg e1] at h
   rw [if_neg (Ne.symm e1)] at g
   exact absurd (yF e.1 h g) e1
theorem count_le {α:Type} (p q:α->Bool):∀ (l:List α),(∀ x∈l,p x=true->q x=true)->l.countP p<=l.countP q
 | [],_=>xae _
 | x :: l,h=>by
  have ih:=count_le p q l fun y hy=>h y (xac _ hy)
  have h1:=h x xad
  rw [xbZ,xbZ]
  cases hp:p x <;> cases hq:q x <;> simp_all <;> exact Nat.le_succ_of_le ‹_›
theorem pZ {α:Type} (p q:α->Bool) (a:α) (ha:p a=false) (hb:q a=true):∀ (l:List α),a∈l->(∀ x∈l,p x=true->q x=true)->l.countP p<l.countP q
 | [],m,_=>by cases m
 | x :: l,m,h=>by
  rw [xbZ,xbZ]
  rcases xam.mp m with rfl | m
  ·have:=count_le p q l fun y hy=>h y (xac _ hy)
   rw [ha,hb]; simp; exact Nat.lt_succ_of_le ‹_›
  ·have ih:=pZ p q a ha hb l m fun y hy=>h y (xac _ hy)
   have h1:=h x xad
   cases hp:p x <;> cases hq:q x <;> simp_all <;> exact xa7 ‹_›
def rkK (L:List (List Key)) (k:List Key):Int:=(L.countP fun j=>ltK j k:Nat)
theorem wJ (e:shOf a=shOf b) (ma:a∈L):decide (rkK L a<rkK L b)=ltK a b:=by
 unfold rkK
 cases h:ltK a b with
 | true =>
  have:=pZ (fun j=>ltK j a) (fun j=>ltK j b) a (q_ a) h L ma fun x _ hx=>uI hx h
  exact decide_eq_true (by lia)
 | false =>
  apply decide_eq_false
  cases g:ltK b a with
  | false=>rw [oJ e h g]; lia
  | true =>
   have:=count_le (fun j=>ltK j b) (fun j=>ltK j a) L fun x _ hx=>uI hx g
   lia
def unV:V->Option Key
 | .int i=>some (.inl i)
 | .str x=>some (.inr x)
 | _=>none
theorem CJ (k:Key):unV (kV k)=some k:=by cases k <;> rfl
theorem wL:∀ k:List Key,(k.map kV).filterMap unV=k
 | []=>rfl
 | a :: as=>by rw [xat,xaN,CJ,wL as]
def nY (H:Hp):Value->List Key
 | .ref b=>match H b with
  | some (.tup xs)=>xs.filterMap unV
  | _=>[]
 | _=>[]
theorem dY (h:H b=some (.tup (k.map kV))):nY H (.ref b)=k:=by
 simp only [nY,h]; exact wL k
section
variable {prog:Program} {w:World} {A:Around} {E:Value->Shared->Prop} {s:Shared} {Q:Bool->Shared->Prop}
theorem Ah (ru:RelV (kV a) u) (rv:RelV (kV b) v) (e:isI a=isI b) (q:Q (lt1 a b) s):wpAny (model prog w) A (oneLt' false u v) Q E s:=by
 refine PySem.W.kat_one u v ?_
 cases a with
 | inl i =>
  cases b with
  | inr x=>cases e
  | inl j =>
   obtain ⟨t,rfl⟩:=ru
   obtain ⟨t',rfl⟩:=rv
   exact lt_int q
 | inr x =>
  cases b with
  | inl j=>cases e
  | inr y =>
   obtain ⟨t,rfl⟩:=ru
   obtain ⟨t',rfl⟩:=rv
   exact PySem.P.lt_str q
theorem Ao (ru:RelV (kV a) u) (rv:RelV (kV b) v) (e:isI a=isI b) (q:Q (decide (a=b)) s):wpAny (model prog w) A (eqBool u v) Q E s:=by
 cases a with
 | inl i =>
  cases b with
  | inr x=>cases e
  | inl j =>
   obtain ⟨t,rfl⟩:=ru
   obtain ⟨t',rfl⟩:=rv
   refine wpAny_eqBool_int ?_
   rw [<- key_ll]; exact q
 | inr x =>
  cases b with
  | inl j=>cases e
  | inr y =>
   obtain ⟨t,rfl⟩:=ru
   obtain ⟨t',rfl⟩:=rv
   refine wpAny_eqBool_str ?_
   rw [<- key_rr]; exact q
theorem vN (k m:List Key) (us vs:List Value) (i:Nat) (ha:Vals (k.map kV) us) (hb:Vals (m.map kV) vs) (e:shOf k=shOf m) (hf:fin=false) (q:Q (ltK k m) s) :
  PySem.W.KatLex prog w A true fin Q (us.zip vs) i s:=by
 induction k generalizing m us vs i with
 | nil =>
  cases m with
  | cons b m=>simp [shOf] at e
  | nil =>
   rw [Paired.n0 ha,Paired.n0 hb]
   subst hf
   exact PySem.W.kat_nil q
 | cons a k ih =>
  cases m with
  | nil=>simp [shOf] at e
  | cons b m =>
   obtain ⟨u,us,rfl,ra,rk⟩:=Paired.c ha
   obtain ⟨v,vs,rfl,rb,rm⟩:=Paired.c hb
   simp only [shOf,xat,List.cons.injEq] at e
   rw [xbg]
   refine PySem.W.kat_cons (Ao ra rb e.1 (PySem.W.kat_go (fun h=>PySem.W.kat_yes ?_) (fun h=>PySem.W.kat_no ?_)))
   ·have h:=of_decide_eq_true h
    subst h
    unfold ltK at q
    rw [if_pos rfl] at q
    exact ih m _ _ (i+1) rk rm e.2 q
   ·have h:=of_decide_eq_false h
    unfold ltK at q
    rw [if_neg h] at q
    by_cases h0:i=0
    ·subst h0
     cases a with
     | inr x =>
      cases b with
      | inl j=>cases e.1
      | inr y =>
       obtain ⟨t,rfl⟩:=ra
       obtain ⟨t',rfl⟩:=rb
       exact oneLt_str q
     | inl i =>
      cases b with
      | inr x=>cases e.1
      | inl j =>
       obtain ⟨t,rfl⟩:=ra
       obtain ⟨t',rfl⟩:=rb
       exact oneLt_int q
    ·rw [show (true && i == 0)=false by simp [h0]]
     exact Ah ra rb e.1 q
end
section
variable {X:Cx} {pins:List (Addr × Obj)} {σ:St} {H:Hp} {s:Shared}
theorem Inv.tup (I:Inv X pins σ H s) (h:H b=some (.tup xs)):∃ its:List Value,Vals xs its/\IsTup s.heap b its.toArray:=(I.hok b _ h).2
theorem uU (I:Inv X pins σ H s) (kp:∀ b o,s.heap.get? b=some o->s'.heap.get? b=some o) :
  Tim.Cmp X.prog X.w A s' (tuples' true) (fun v=>rkK L (nY H v)) (fun v=>∃ b k,v=.ref b/\H b=some (.tup (k.map kV))/\shOf k=b0 :: sh/\k∈L):=by
 rintro x y ⟨b,k,rfl,hb,hk,mk⟩ ⟨c,m,rfl,hc,hm,mm⟩ Q E q
 obtain ⟨us,ru,o,e1,c1,n1,d1⟩:=I.tup hb
 obtain ⟨vs,rv,o',e2,c2,n2,d2⟩:=I.tup hc
 have sh':shOf k=shOf m:=hk.trans hm.symm
 simp only [dY hb,dY hc] at q
 rw [wJ sh' mk] at q
 refine PySem.W.kat_lt (kp _ _ e1) d1 (kp _ _ e2) d2 (vN k m us vs 0 ru rv sh' ?_ q)
 ·have h1:=ru.length
  have h2:=rv.length
  have h3:k.length=m.length:=by
   have:=congrArg List.length sh'
   simpa [shOf] using this
  simp only [xab] at h1 h2
  exact decide_eq_false (by simp only [xal]; lia)
theorem kat_tups (I:Inv X pins σ H s) {s':Shared} (kp:∀ b o,s.heap.get? b=some o->s'.heap.get? b=some o) {b0:Bool} {sh:List Bool} {ys:List V} {ks:List (List Key)} {vs:List Value} (ht:cC H ys ks) (hv:Vals ys vs) (hs:∀ k∈ks,shOf k=b0 :: sh) :
  ∃ fs:List Value,PySem.W.KatTups s'.heap vs fs/\fs.length=vs.length/\∀ f∈fs,(b0=true->∃ i t,f=Value.int i t)/\(b0=false->∃ x t,f=Value.str x t):=by
 induction ys generalizing ks vs with
 | nil =>
  rw [Paired.n0 hv]
  exact ⟨[],.nil,rfl,by simp⟩
 | cons y ys ih =>
  obtain ⟨k,ks,rfl,⟨b,rfl,hb⟩,t⟩:=Paired.c ht
  obtain ⟨v,vs,rfl,rfl,rs⟩:=Paired.c hv
  obtain ⟨fs,f1,f2,f3⟩:=ih t rs fun j hj=>hs j (xac _ hj)
  have hk:=hs k xad
  obtain ⟨us,ru,o,e1,c1,n1,d1⟩:=I.tup hb
  cases k with
  | nil=>simp [shOf] at hk
  | cons a k =>
   obtain ⟨u,us,rfl,ra,rr⟩:=Paired.c ru
   simp only [shOf,xat,List.cons.injEq] at hk
   refine ⟨u :: fs,.cons (kp _ _ e1) c1 d1 rfl f1,by simp [f2],fun f hf=>?_⟩
   rcases xam.mp hf with rfl | hf
   ·cases a with
    | inr x =>
     obtain ⟨tk,rfl⟩:=ra
     exact ⟨(fun z=>by rw [<- hk.1] at z; cases z),fun _=>⟨_,_,rfl⟩⟩
    | inl i =>
     obtain ⟨tk,rfl⟩:=ra
     exact ⟨fun _=>⟨_,_,rfl⟩,fun z=>by rw [<- hk.1] at z; cases z⟩
   ·exact f3 f hf
end
def pK (K:PySem.W.Frag):List V->Hp->VK->Prop:=fun xs H Q=>match xs with
 | [.ref p]=>∃ ys ks sh,SqL K H p ys/\cC H ys ks/\(∀ k∈ks,shOf k=true :: sh) /\
   ∀ zs ms l,cC H zs ms->ms.Perm ks->(ms.Pairwise fun a b=>ltK b a=false)->H l=none->Q (.ref l) (upd H l (.lst zs))
 | _=>False
theorem cC.keys (h:cC H ys ks) (hv:Vals ys vs):vs.map (nY H)=ks/\∀ v∈vs,∃ b k,v=.ref b/\H b=some (.tup (k.map kV))/\k∈ks:=by
 induction ys generalizing ks vs with
 | nil=>rw [Paired.n0 hv,show ks=[] from Paired.n0 h]; exact ⟨rfl,by simp⟩
 | cons y ys ih =>
  obtain ⟨k,ks,rfl,⟨b,rfl,g⟩,t⟩:=Paired.c h
  obtain ⟨v,vs,rfl,rfl,rs⟩:=Paired.c hv
  obtain ⟨e,m⟩:=ih t rs
  refine ⟨by rw [xat,dY g,e],fun v hv=>?_⟩
  rcases xam.mp hv with rfl | hv
  ·exact ⟨b,k,rfl,g,xad⟩
  ·obtain ⟨b',k',e1,e2,e3⟩:=m v hv
   exact ⟨b',k',e1,e2,xac _ e3⟩
theorem cC.of {H:Hp} {ks:List (List Key)} (vs:List Value) (h:∀ v∈vs,∃ b k,v=Value.ref b/\H b=some (.tup (k.map kV))/\k∈ks):∃ zs,cC H zs (vs.map (nY H))/\Vals zs vs:=by
 induction vs with
 | nil=>exact ⟨[],.nil,.nil⟩
 | cons v vs ih =>
  obtain ⟨zs,a,c⟩:=ih fun u hu=>h u (xac _ hu)
  obtain ⟨b,k,rfl,e,_⟩:=h v xad
  exact ⟨.ref b :: zs,.cons ⟨b,rfl,by rw [dY e]; exact e⟩ a,.cons rfl c⟩
section
variable {X:Cx}
theorem qK:CallR X (.builtin "sorted") (pK X.K):=by
 intro pins s σ H xs us Q I r h
 unfold pK at h
 split at h
 ·rename_i p
  obtain ⟨ys,ks,sh,hl,ht,hs,q⟩:=h
  obtain ⟨u,rfl,ru⟩:=Vals.one r
  cases ru
  obtain ⟨vs,rv,pl,hz⟩:=I.list hl
  obtain ⟨ek,mem⟩:=ht.keys rv
  have hlen:=rv.length
  refine Tim.ur (κ:=tuples' true) (r:=fun v=>rkK ks (nY H v)) (P:=fun v=>∃ b k,v=.ref b/\H b=some (.tup (k.map kV))/\shOf k=true :: sh/\k∈ks) pl.isList (by lia) (fun v hv=>?_) (fun h2 A' E' s' kp Q' q'=>?_) (fun h2 s' kp=>uU I kp) fun h' out n pm pw kp eo=>?_
  ·obtain ⟨b,k,e1,e2,e3⟩:=mem v hv
   exact ⟨b,k,e1,e2,hs k e3,e3⟩
  ·obtain ⟨fs,f1,f2,f3⟩:=kat_tups I kp ht rv hs
   refine PySem.W.kat_kind (T:=.type "int") f1 (by lia) (fun f hf=>?_) (by decide) q'
   obtain ⟨i,t,rfl⟩:=(f3 f hf).1 rfl
   exact .now
  ·obtain ⟨zs,z1,z2⟩:=cC.of (H:=H) (ks:=ks) out fun v hv=>mem v (pm.mem_iff.mp hv)
   have zl:=z2.length
   have ol:=pm.length_eq
   have pms:(out.map (nY H)).Perm ks:=by rw [<- ek]; exact pm.map _
   refine ⟨.ref (s.heap.objs.size+1),_,I.laid (a:=s.heap.objs.size+1) (t':=s.toks) kp (Nat.le_succ _) (show ObjOk X.prog X.w _ h' _ (.lst zs) from ⟨by lia,out,n,z2,eo⟩),rfl,
    q zs _ _ z1 pms ?_ (I.hok.fresh (Nat.le_succ _))⟩
   rw [xbQ]
   refine pw.imp_of_mem fun {x y} mx my hle=>?_
   obtain ⟨b,k,rfl,hb,kk⟩:=mem x (pm.mem_iff.mp mx)
   obtain ⟨c,m,rfl,hc,km⟩:=mem y (pm.mem_iff.mp my)
   rw [dY hb,dY hc] at *
   have:=wJ (L:=ks) ((hs m km).trans (hs k kk).symm) km
   rw [<- this]
   exact decide_eq_false (by lia)
 ·exact h.elim
end
end L2
namespace Tim
open PySem PyProof.Rows
end Tim
namespace L2
open PySem PySem.Spec PyProof.Rows
def gJ:HO->Prop
 | .dK _=>True
 | .dT _=>True
 | _=>False
section
variable {X:Cx} {pins:List (Addr × Obj)} {σ:St} {H:Hp} {s:Shared}
theorem Inv.mW (I:Inv X pins σ H s) (e:H p=some u) (nt:∀ xs,u≠.tup xs) (no:∀ y,u≠.own y) (nf:∀ o w,X.H₀ p≠some (.frz o w)) (nb:∀ ps,X.H₀ p≠some (.tbl ps)) (new:ObjOk X.prog X.w (upd H p v) s.heap p v):Inv X pins σ (upd H p v) s:=by
 have ne:∀ {b:Addr},H b=none->b≠p:=fun h z=>by subst z; rw [e] at h; cases h
 have ht:∀ b xs,H b=some (.tup xs)->upd H p v b=some (.tup xs):=fun b xs q=>by
  rw [upd_ne fun z=>by subst z; rw [e] at q; cases q; exact nt _ rfl]; exact q
 refine ⟨I.ok,I.os,I.bare,⟨I.base.keep,I.base.slot,fun b o q n hx=>?_,I.base.there,fun b xs q=>ht b xs (I.base.tups b xs q),fun b o w q=>?_,fun b ps q=>?_⟩,I.loc,I.cell,?_,fun x c q=>?_,fun q hq=>?_,fun b o q=>?_,I.len⟩
 ·have:=I.base.free b o q n hx
  rw [upd_ne (ne this)]; exact this
 ·rw [upd_ne fun z=>by subst z; exact nf _ _ q]; exact I.base.frzs b o w q
 ·rw [upd_ne fun z=>by subst z; exact nb _ q]; exact I.base.tbls b ps q
 ·rw [upd_ne (ne I.free)]; exact I.free
 ·rw [upd_ne (ne (I.freeC x c q))]; exact I.freeC x c q
 ·obtain ⟨a,b,c⟩:=I.pin q hq
  exact ⟨a,by rw [upd_ne (ne b)]; exact b,c⟩
 ·by_cases z:b=p
  ·subst z; rw [upd_same] at q; cases q; exact new
  ·rw [upd_ne z] at q
   refine (I.hok b o q).stay (fun _ _ _ h=>h) (fun c h=>?_) ht
   rw [upd_ne fun z=>by subst z; rw [e] at h; cases h; exact no _ rfl]; exact h
theorem Inv.zP (I:Inv X pins σ H s) (e:H p=some u) (hu:gJ u):(∀ o w,X.H₀ p≠some (.frz o w))/\∀ ps,X.H₀ p≠some (.tbl ps) :=
 ⟨fun o w z=>by have:=I.base.frzs p o w z; rw [e] at this; cases this; exact hu,fun ps z=>by obtain ⟨m,this⟩:=I.base.tbls p ps z; rw [e] at this; cases this; exact hu⟩
theorem Inv.freeze (I:Inv X pins σ H s) (e:H p=some u) (hu:gJ u) (ho:s.heap.get? p=some o):Inv X pins σ (upd H p (.frz o u)) s:=by
 obtain ⟨nf,nb⟩:=I.zP e hu
 refine I.mW e (fun xs z=>by subst z; exact hu) (fun y z=>by subst z; exact hu) nf nb ⟨ho,(I.hok p u e).stay (fun _ _ _ h=>h) (fun c h=>?_) fun c xs h=>?_⟩
 ·rw [upd_ne fun z=>by subst z; rw [e] at h; cases h; exact hu]; exact h
 ·rw [upd_ne fun z=>by subst z; rw [e] at h; cases h; exact hu]; exact h
theorem Inv.thaw (I:Inv X pins σ H s) (e:H p=some (.frz o u)) (nf:∀ o w,X.H₀ p≠some (.frz o w)) (nb:∀ ps,X.H₀ p≠some (.tbl ps)):Inv X pins σ (upd H p u) s:=by
 have ob:ObjOk X.prog X.w H s.heap p (.frz o u):=I.hok p _ e
 refine I.mW e (fun xs z=>nomatch z) (fun y z=>nomatch z) nf nb (ob.2.stay (fun _ _ _ h=>h) (fun c h=>?_) fun c xs h=>?_)
 ·rw [upd_ne fun z=>by subst z; rw [e] at h; cases h]; exact h
 ·rw [upd_ne fun z=>by subst z; rw [e] at h; cases h]; exact h
def thwN (X:Cx) (N:St->Hp->Prop):St->Hp->Prop:=fun σ H=>N σ H\/∃ p u o,H p=some (.frz o u)/\(∀ o w,X.H₀ p≠some (.frz o w))/\(∀ ps,X.H₀ p≠some (.tbl ps))/\N σ (upd H p u)
def thwR (X:Cx) (N:V->Hp->Prop):V->Hp->Prop:=fun v H=>N v H\/∃ p u o,H p=some (.frz o u)/\(∀ o w,X.H₀ p≠some (.frz o w))/\(∀ ps,X.H₀ p≠some (.tbl ps))/\N v (upd H p u)
theorem yH {st:Stmt} (h:PS X st t):PS X st (fun D σ H=>t { D with nx:=thwN X D.nx,bk:=thwN X D.bk,ct:=thwN X D.ct,rt:=thwR X D.rt } σ H):=by
 intro pins s σ H D I q
 refine thn (h pins s σ H _ I q) fun f s1 z=>?_
 cases f with
 | next =>
  obtain ⟨σ1,H1,I1,n | ⟨p,u,o,e,nf,nb,n⟩⟩:=z
  ·exact ⟨σ1,H1,I1,n⟩
  ·exact ⟨σ1,_,I1.thaw e nf nb,n⟩
 | cont =>
  obtain ⟨σ1,H1,I1,n | ⟨p,u,o,e,nf,nb,n⟩⟩:=z
  ·exact ⟨σ1,H1,I1,n⟩
  ·exact ⟨σ1,_,I1.thaw e nf nb,n⟩
 | brk =>
  obtain ⟨σ1,H1,I1,n | ⟨p,u,o,e,nf,nb,n⟩⟩:=z
  ·exact ⟨σ1,H1,I1,n⟩
  ·exact ⟨σ1,_,I1.thaw e nf nb,n⟩
 | ret v =>
  obtain ⟨x1,σ1,H1,I1,r1,n | ⟨p,u,o,e,nf,nb,n⟩⟩:=z
  ·exact ⟨x1,σ1,H1,I1,r1,n⟩
  ·exact ⟨x1,σ1,_,I1.thaw e nf nb,r1,n⟩
end
def Itd (p:Addr) (o:Obj) (ks:List V):It :=
 ⟨fun i H=>i<ks.length/\∃ u,H p=some (.frz o u),fun i H x H'=>H'=H/\ks[i]? = some x,fun i H=>i=ks.length/\∃ u,H p=some (.frz o u)⟩
theorem rB {P:Program} {K:PySem.W.Frag} (p it:Addr) (hx:o.ExactDict) (hd:o.data=.dict es ep) (hl:es.size=ks.length)
  (hk:∀ (i:Nat) x,ks[i]? = some x->∃ e,es[i]? = some e/\RelV x e.key):Turn P w K tg (Itd p o ks) [it] it (fun i h=>h.IsKeyIter it p i es.size ep) where
 mem:=by simp
 obj:=fun i h st b hb=>by
  have e:b=it:=by simpa using hb
  subst e
  obtain ⟨o,e,c,d⟩:=st
  exact ⟨o,e,fun v z=>by rw [d] at z; cases z⟩
 keep:=fun i h h' st k=>st.at fun o e=>k it (by simp) o e
 item:=by
  intro X hP hw hK hc i pins s σ H E I hf st hg
  subst hP hw hK
  obtain ⟨hi,u,hfz⟩:=hg
  have ob:ObjOk X.prog X.w H s.heap p (.frz o u):=I.hok p _ hfz
  obtain ⟨e,he,rk⟩:=hk i ks[i] (xaX hi)
  obtain ⟨f0,f1,f2,f3,f4,f5⟩:=hf it (by simp)
  have hi':i<es.size:=by lia
  have he':es[i]=e:=by rw [xbF hi'] at he; exact Option.some.inj he
  refine pD st ⟨o,ob.1,hx,hd⟩ hi' fun h' st' sb=>?_
  have I1:Inv X pins σ H { s with heap:=h' }:=I.turned (t':=s.toks) (fun b o hb e=>(sb.2 b hb).trans e) f0 f1 f3 f4 f5
  obtain ⟨o2,e2,c2,d2⟩:=id st'
  exact ⟨_,rfl,go_of (s:={ s with heap:=h' }) e2 c2 d2 (by decide) ⟨ks[i],H,I1,by rw [he']; exact rk,⟨rfl,xaX hi⟩,st',fun b hb=>(hf b hb).1⟩⟩
 done:=by
  intro X hP hw hK hc i pins s σ H E I hf st hg
  subst hP hw hK
  obtain ⟨hi,u,hfz⟩:=hg
  have ob:ObjOk X.prog X.w H s.heap p (.frz o u):=I.hok p _ hfz
  obtain ⟨f0,f1,f2,f3,f4,f5⟩:=hf it (by simp)
  have hi':i=es.size:=by lia
  subst hi'
  exact oO (I.ok.hd hc) st ⟨o,ob.1,hx,hd⟩ fun h' eb=>⟨rfl,I.turned (t':=s.toks) (fun b o hb e=>eb b o hb e) f0 f1 f3 f4 f5⟩
 self:=fun _ _ _ _ _ st h=>wpAny_pyIter_keyiter st h
theorem qQ:∀ {el:List DictEntry} {vs:List (Key × Value)},Pairs (mixKind prog w) el vs->∀ {kvs:List (Key × V)},KV kvs vs->el.length=kvs.length/\∀ (i:Nat) x,(kvs.map fun kv=>kV kv.1)[i]? = some x->∃ e,el[i]? = some e/\RelV x e.key:=by
 intro el vs h
 induction h with
 | nil =>
  intro kvs r
  cases r
  exact ⟨rfl,fun i x hx=>by simp at hx⟩
 | @cons e kv es vs hk hv _ ih =>
  intro kvs r
  cases r with
  | @cons p q l1 l2 r1 rs =>
   obtain ⟨a,b⟩:=ih rs
   refine ⟨by rw [xaH,xaH,a],fun i x hx=>?_⟩
   cases i with
   | zero =>
    simp only [xat,List.getElem?_cons_zero,Option.some.injEq] at hx
    subst hx
    refine ⟨e,rfl,?_⟩
    rw [r1.1]
    rcases keyIs_shape hk with ⟨i,t,e1,e2⟩ | ⟨x,t,e1,e2⟩ <;> rw [e1,e2] <;> exact ⟨t,rfl⟩
   | succ i=>exact b i x (by simpa using hx)
def jJ (H:Hp) (u:HO) (ks:List V):Prop:=match u with
 | .dK kvs=>ks=kvs.map fun kv=>kV kv.1
 | .dT kvs=>cC H ks (kvs.map (·.1))
 | _=>False
def Cq (X:Cx) (tl:TE):TI:=fun σ H R=>tl σ H fun x H1=>∃ p u,x=.ref p/\gJ u /\
 ((H1 p=some u/\∀ o ks,(∀ o' w,X.H₀ p≠some (.frz o' w))->(∀ ps,X.H₀ p≠some (.tbl ps))->jJ H1 u ks->R (Itd p o ks) (upd H1 p (.frz o u)))\/∃ o,H1 p=some (.frz o u)/\∀ ks,jJ H1 u ks->R (Itd p o ks) H1)
theorem oU {P:Program} (hu:gJ u) (ob:ObjOk P w H h p u):∃ o es ep ks,h.get? p=some o/\o.ExactDict/\o.data=.dict es ep/\(p == sysModules)=false/\es.size=ks.length/\(∀ (i:Nat) x,ks[i]? = some x->∃ e,es[i]? = some e/\RelV x e.key)/\jJ H u ks:=by
 cases u with
 | dK kvs =>
  obtain ⟨z,y,vs,rel,o,es,ep,h1,h2,h3,h4,h5,h6⟩:=ob
  obtain ⟨a,b⟩:=qQ h5 rel
  refine ⟨o,es,ep,_,h1,h2,h3,y,?_,fun i x hx=>?_,rfl⟩
  ·rw [xab,<- a,xaI]
  ·obtain ⟨e,he,r⟩:=b i x hx
   exact ⟨e,by rw [<- xaF]; exact he,r⟩
 | dT kvs =>
  obtain ⟨z,y,ps,rel,o,es,ep,h1,h2,h3,h4,h5⟩:=ob
  obtain ⟨ta,va⟩:=qT (prog:=P) (w:=w) rel
  refine ⟨o,es,ep,_,h1,h2,h3,y,?_,fun i x hx=>?_,ta⟩
  ·have:=congrArg List.length h4
   rw [xaI,xab] at this
   rw [this,xab]
  ·obtain ⟨w,hw,rw'⟩:=va.get hx
   rw [xaK,<- h4,xaF] at hw
   obtain ⟨e,he,rfl⟩:=xbr.mp hw
   exact ⟨e,he,rw'⟩
 | _=>exact hu.elim
theorem yX {X:Cx} (he:PE X e tl):PI X tg e (Cq X tl):=by
 intro pins s σ H R I h
 refine thn (he pins s σ H _ I h) fun v s1 hx5=>L2.ex2 hx5 fun x H1 I1 r1 q1=>?_
 obtain ⟨p,u,e,hu,q⟩:=q1
 subst e
 cases r1
 have fin:∀ {H2:Hp} {o:Obj} {es:Ents} {ep:Nat} {ks:List V},s1.heap.get? p=some o->o.ExactDict->o.data=.dict es ep->(p == sysModules)=false->es.size=ks.length->(∀ (i:Nat) x,ks[i]? = some x->∃ e,es[i]? = some e/\RelV x e.key)->Inv X pins σ H2 s1->R (Itd p o ks) H2 ->
   wpAny (model X.prog X.w) X.A (pyIter (.ref p)) (PIE X pins σ tg R) X.xe s1:=by
  intro H2 o es ep ks ho hx hd lo hl hk I2 q
  refine pN lo ⟨o,ho,hx,hd⟩ ?_
  refine ⟨s1.heap.objs.size,[s1.heap.objs.size],_,_,_,rfl,I2.kept (t':=s1.toks) fun b o e=>xaj _ e,rB p _ hx hd hl hk,⟨_,xaw _ rfl,rfl,rfl⟩,fun b hb=>?_,q⟩
  have e:b=s1.heap.objs.size:=by simpa using hb
  subst e
  exact I2.fpOk (xae _) (I2.hok.fresh (xae _))
 rcases q with ⟨hp,q⟩ | ⟨o,hp,q⟩
 ·obtain ⟨o,es,ep,ks,ho,hx,hd,lo,hl,hk,hks⟩:=oU hu (I1.hok p u hp)
  obtain ⟨nf,nb⟩:=I1.zP hp hu
  exact fin ho hx hd lo hl hk (I1.freeze hp hu ho) (q o ks nf nb hks)
 ·have ob:ObjOk X.prog X.w H1 s1.heap p (.frz o u):=I1.hok p _ hp
  obtain ⟨o',es,ep,ks,ho,hx,hd,lo,hl,hk,hks⟩:=oU hu ob.2
  have e:o'=o:=by have:=ob.1; rw [ho] at this; exact Option.some.inj this
  subst e
  exact fin ho hx hd lo hl hk I1 (q ks hks)
end L2
namespace L2.Q
open PySem PySem.Spec PyProof.Rows
inductive D where
 | non | bl (b:Bool) | int (i:Int) | str (x:Str)
 | list (xs:List D) | tup (xs:List D) | dK (kvs:List (Key × D)) | dT (kvs:List (List Key × D))
mutual
/-- nothing in it can be changed -/
def D.flat:D->Bool
 | .list _=>false
 | .dK _=>false
 | .dT _=>false
 | .tup xs=>flats xs
 | _=>true
def flats:List D->Bool
 | []=>true
 | x :: xs=>x.flat && flats xs
end
theorem jk:∀ {xs:List D},flats xs=true↔∀ x∈xs,x.flat=true
 | []=>by simp [flats]
 | x :: xs=>by simp [flats,jk (xs:=xs)]
theorem gq:flats (xs++ys)=(flats xs && flats ys):=by
 induction xs with
 | nil=>simp [flats]
 | cons x xs ih=>simp [flats,ih,Bool.and_assoc]
def kOk:Key->Bool
 | .inl _=>true
 | .inr x=>decide (x.length<=sizeLine)
def KsOk (kvs:List (Key × D)):Prop:=kvs.length<=sizeLine/\∀ p∈kvs,kOk p.1=true
def KtOk (kvs:List (List Key × D)):Prop:=kvs.length<=sizeLine/\∀ p∈kvs,p.1.length<=sizeLine/\∀ k∈p.1,kOk k=true
mutual
inductive Rep (K:PySem.W.Frag) (H:Hp):D->V->Prop
 | non:Rep K H .non .non
 | bl (b:Bool):Rep K H (.bl b) (.bl b)
 | int (i:Int):Rep K H (.int i) (.int i)
 | str {x:Str}:x.length<=sizeLine->Rep K H (.str x) (.str x)
 | list {a:Addr} {vs:List V} {ds:List D}:vs.length<=sizeLine->SqL K H a vs->Reps K H ds vs->Rep K H (.list ds) (.ref a)
 | tup {a:Addr} {vs:List V} {ds:List D}:vs.length<=sizeLine->H a=some (.tup vs)->Reps K H ds vs->Rep K H (.tup ds) (.ref a)
 | dK {a:Addr} {vs:List V} {kvs:List (Key × D)}:KsOk kvs->Rd H a (.dK ((kvs.map (·.1)).zip vs))->Reps K H (kvs.map (·.2)) vs->Rep K H (.dK kvs) (.ref a)
 | dT {a:Addr} {vs:List V} {kvs:List (List Key × D)}:KtOk kvs->Rd H a (.dT ((kvs.map (·.1)).zip vs))->Reps K H (kvs.map (·.2)) vs->Rep K H (.dT kvs) (.ref a)
inductive Reps (K:PySem.W.Frag) (H:Hp):List D->List V->Prop
 | nil:Reps K H [] []
 | cons {d:D} {v:V} {ds:List D} {vs:List V}:Rep K H d v->Reps K H ds vs->Reps K H (d :: ds) (v :: vs)
end
theorem Rep.ind {K:PySem.W.Frag} {H:Hp} {m1:D->V->Prop} {m2:List D->List V->Prop} (h0:m1 .non .non) (hb:∀ b,m1 (.bl b) (.bl b)) (hi:∀ i,m1 (.int i) (.int i)) (hs:∀ x,x.length<=sizeLine->m1 (.str x) (.str x))
  (hl:∀ a vs ds,vs.length<=sizeLine->SqL K H a vs->Reps K H ds vs->m2 ds vs->m1 (.list ds) (.ref a)) (ht:∀ a vs ds,vs.length<=sizeLine->H a=some (.tup vs)->Reps K H ds vs->m2 ds vs->m1 (.tup ds) (.ref a))
  (hk:∀ a vs kvs,KsOk kvs->Rd H a (.dK ((kvs.map (·.1)).zip vs))->Reps K H (kvs.map (·.2)) vs->m2 (kvs.map (·.2)) vs->m1 (.dK kvs) (.ref a)) (hT:∀ a vs kvs,KtOk kvs->Rd H a (.dT ((kvs.map (·.1)).zip vs))->Reps K H (kvs.map (·.2)) vs->m2 (kvs.map (·.2)) vs->m1 (.dT kvs) (.ref a))
  (hn:m2 [] []) (hc:∀ d v ds vs,Rep K H d v->Reps K H ds vs->m1 d v->m2 ds vs->m2 (d :: ds) (v :: vs)):(∀ {d v},Rep K H d v->m1 d v)/\∀ {ds vs},Reps K H ds vs->m2 ds vs :=
 ⟨fun r=>Rep.rec (motive_1:=fun d v _=>m1 d v) (motive_2:=fun ds vs _=>m2 ds vs) h0 hb hi (fun h=>hs _ h) (fun z s r ih=>hl _ _ _ z s r ih) (fun z s r ih=>ht _ _ _ z s r ih) (fun z s r ih=>hk _ _ _ z s r ih) (fun z s r ih=>hT _ _ _ z s r ih) hn (fun r s a b=>hc _ _ _ _ r s a b) r,
  fun r=>Reps.rec (motive_1:=fun d v _=>m1 d v) (motive_2:=fun ds vs _=>m2 ds vs) h0 hb hi (fun h=>hs _ h) (fun z s r ih=>hl _ _ _ z s r ih) (fun z s r ih=>ht _ _ _ z s r ih) (fun z s r ih=>hk _ _ _ z s r ih) (fun z s r ih=>hT _ _ _ z s r ih) hn (fun r s a b=>hc _ _ _ _ r s a b) r⟩
theorem DGet.k' (e:Rd H a (.dK kvs)):DGet H a (kV k) (valV kvs k):=.inl ⟨kvs,k,e,rfl,rfl⟩
theorem DGet.t' (e:Rd H a (.dT kvs)) (eb:H b=some (.tup (k.map kV))):DGet H a (.ref b) (valV kvs k):=.inr ⟨kvs,k,b,e,rfl,eb,rfl⟩
theorem Same.rd (s:Same H H') (h:Rd H a u):Rd H' a u:=h.imp (s _ _) fun ⟨o,e⟩=>⟨o,s _ _ e⟩
theorem Rep.Bt {K:PySem.W.Frag} (s:Same H H'):(∀ {d:D} {v:V},Rep K H d v->Rep K H' d v)/\∀ {ds:List D} {vs:List V},Reps K H ds vs->Reps K H' ds vs :=
 Rep.ind .non .bl .int (fun _ h=>.str h) (fun _ _ _ z h _ ih=>.list z (s.lst h) ih) (fun _ _ _ z h _ ih=>.tup z (s _ _ h) ih) (fun _ _ _ kk h _ ih=>.dK kk (Same.rd s h) ih) (fun _ _ _ kk h _ ih=>.dT kk (Same.rd s h) ih) .nil fun _ _ _ _ _ _ a b=>.cons a b
theorem Rep.same {K:PySem.W.Frag} (s:Same H H') (r:Rep K H d v):Rep K H' d v:=(Rep.Bt s).1 r
theorem Reps.same {K:PySem.W.Frag} (s:Same H H') (r:Reps K H ds vs):Reps K H' ds vs:=(Rep.Bt s).2 r
theorem Reps.ind {K:PySem.W.Frag} {H:Hp} {m:List D->List V->Prop} (hn:m [] []) (hc:∀ d v ds vs,Rep K H d v->Reps K H ds vs->m ds vs->m (d :: ds) (v :: vs)):∀ {ds vs},Reps K H ds vs->m ds vs :=
 fun r=>(Rep.ind (m1:=fun _ _=>True) (m2:=m) trivial (fun _=>trivial) (fun _=>trivial) (fun _ _=>trivial) (fun _ _ _ _ _ _ _=>trivial) (fun _ _ _ _ _ _ _=>trivial) (fun _ _ _ _ _ _ _=>trivial) (fun _ _ _ _ _ _ _=>trivial) hn fun d v ds vs r s _ b=>hc d v ds vs r s b).2 r
theorem Reps.length {K:PySem.W.Frag} (r:Reps K H ds vs):ds.length=vs.length :=
 Reps.ind (m:=fun ds vs=>ds.length=vs.length) rfl (fun _ _ _ _ _ _ ih=>by rw [xaH,xaH,ih]) r
theorem Reps.append {K:PySem.W.Frag} (r:Reps K H ds vs) (t:Reps K H es ws):Reps K H (ds++es) (vs++ws) :=
 Reps.ind (m:=fun ds vs=>Reps K H (ds++es) (vs++ws)) t (fun _ _ _ _ h _ ih=>.cons h ih) r
theorem Reps.get {K:PySem.W.Frag} {H:Hp} {ds:List D} {vs:List V} {i:Nat} {d:D} (r:Reps K H ds vs) (e:ds[i]? = some d):∃ v,vs[i]? = some v/\Rep K H d v :=
 Reps.ind (m:=fun ds vs=>∀ i d,ds[i]? = some d->∃ v,vs[i]? = some v/\Rep K H d v) (fun i d e=>by simp at e) (fun _ _ _ _ h _ ih i d e=>by
  cases i with
  | zero=>simp at e; subst e; exact ⟨_,rfl,h⟩
  | succ i =>
   obtain ⟨v,e1,r⟩:=ih i d (by simpa using e)
   exact ⟨v,by simpa using e1,r⟩) r i d e
theorem Reps.getV {K:PySem.W.Frag} {H:Hp} {ds:List D} {vs:List V} {i:Nat} {v:V} (r:Reps K H ds vs) (e:vs[i]? = some v):∃ d,ds[i]? = some d/\Rep K H d v :=
 Reps.ind (m:=fun ds vs=>∀ i v,vs[i]? = some v->∃ d,ds[i]? = some d/\Rep K H d v) (fun i d e=>by simp at e) (fun _ _ _ _ h _ ih i d e=>by
  cases i with
  | zero=>simp at e; subst e; exact ⟨_,rfl,h⟩
  | succ i =>
   obtain ⟨v,e1,r⟩:=ih i d (by simpa using e)
   exact ⟨v,by simpa using e1,r⟩) r i v e
theorem Reps.drop {K:PySem.W.Frag} (n:Nat) (r:Reps K H ds vs):Reps K H (ds.drop n) (vs.drop n) :=
 Reps.ind (m:=fun ds vs=>∀ n,Reps K H (ds.drop n) (vs.drop n)) (fun n=>by rw [List.drop_nil,List.drop_nil]; exact .nil) (fun _ _ _ _ h hs ih n=>by
  cases n with
  | zero=>exact .cons h hs
  | succ n=>exact ih n) r n
theorem Reps.n0 {K:PySem.W.Frag} (h:Reps K H [] vs):vs=[]:=by cases h; rfl
theorem Reps.c {K:PySem.W.Frag} (h:Reps K H (d :: ds) vs):∃ u us,vs=u :: us/\Rep K H d u/\Reps K H ds us:=by
 cases h with
 | cons r rs=>exact ⟨_,_,rfl,r,rs⟩
theorem Reps.take {K:PySem.W.Frag} (n:Nat) (r:Reps K H ds vs):Reps K H (ds.take n) (vs.take n) :=
 Reps.ind (m:=fun ds vs=>∀ n,Reps K H (ds.take n) (vs.take n)) (fun n=>by rw [List.take_nil,List.take_nil]; exact .nil) (fun _ _ _ _ h hs ih n=>by
  cases n with
  | zero=>exact .nil
  | succ n=>exact .cons h (ih n)) r n
mutual
/-- what is owned: a tree whose lists and dicts stand at As,nobody else's; its leaves shared (fl: and flat) -/
inductive RepO (K:PySem.W.Frag) (Hs H:Hp) (fl:Bool):D->V->List Addr->Prop
 | sh {d:D} {v:V}:(fl=true->d.flat=true)->Rep K Hs d v->RepO K Hs H fl d v []
 | list {a:Addr} {vs:List V} {ds:List D} {As:List Addr}:vs.length<=sizeLine->H a=some (.lst vs)->aq K Hs H fl ds vs As->RepO K Hs H fl (.list ds) (.ref a) (a :: As)
 | tup {a:Addr} {vs:List V} {ds:List D} {As:List Addr}:vs.length<=sizeLine->Hs a=some (.tup vs)->flats ds=false->aq K Hs H fl ds vs As->RepO K Hs H fl (.tup ds) (.ref a) As
 | dK {a:Addr} {vs:List V} {kvs:List (Key × D)} {As:List Addr}:KsOk kvs->H a=some (.dK ((kvs.map (·.1)).zip vs))->aq K Hs H fl (kvs.map (·.2)) vs As->RepO K Hs H fl (.dK kvs) (.ref a) (a :: As)
 | dT {a:Addr} {vs:List V} {kvs:List (List Key × D)} {As:List Addr}:KtOk kvs->H a=some (.dT ((kvs.map (·.1)).zip vs))->aq K Hs H fl (kvs.map (·.2)) vs As->RepO K Hs H fl (.dT kvs) (.ref a) (a :: As)
inductive aq (K:PySem.W.Frag) (Hs H:Hp) (fl:Bool):List D->List V->List Addr->Prop
 | nil:aq K Hs H fl [] [] []
 | cons {d:D} {v:V} {ds:List D} {vs:List V} {As Bs:List Addr}:RepO K Hs H fl d v As->aq K Hs H fl ds vs Bs->aq K Hs H fl (d :: ds) (v :: vs) (As++Bs)
end
def Own (H:Hp) (a:Addr):Prop:=(∃ vs,H a=some (.lst vs))\/(∃ kvs,H a=some (.dK kvs))\/∃ kvs,H a=some (.dT kvs)
section
variable {K:PySem.W.Frag} {Hs Hs' H H':Hp} {fl:Bool}
theorem Own.ne (h:Own H a):H a≠none:=by
 rcases h with ⟨_,e⟩ | ⟨_,e⟩ | ⟨_,e⟩ <;> rw [e] <;> exact fun z=>nomatch z
theorem Own.v_ (h:Own H a):H a≠some (.tup vs):=by
 rcases h with ⟨_,e⟩ | ⟨_,e⟩ | ⟨_,e⟩ <;> rw [e] <;> exact fun z=>nomatch z
theorem RepO.ind {m1:D->V->List Addr->Prop} {m2:List D->List V->List Addr->Prop} (hs:∀ d v,(fl=true->d.flat=true)->Rep K Hs d v->m1 d v [])
  (hl:∀ a vs ds As,vs.length<=sizeLine->H a=some (.lst vs)->aq K Hs H fl ds vs As->m2 ds vs As->m1 (.list ds) (.ref a) (a :: As)) (ht:∀ a vs ds As,vs.length<=sizeLine->Hs a=some (.tup vs)->flats ds=false->aq K Hs H fl ds vs As->m2 ds vs As->m1 (.tup ds) (.ref a) As)
  (hk:∀ a vs kvs As,KsOk kvs->H a=some (.dK ((kvs.map (·.1)).zip vs))->aq K Hs H fl (kvs.map (·.2)) vs As->m2 (kvs.map (·.2)) vs As->m1 (.dK kvs) (.ref a) (a :: As)) (hT:∀ a vs kvs As,KtOk kvs->H a=some (.dT ((kvs.map (·.1)).zip vs))->aq K Hs H fl (kvs.map (·.2)) vs As->m2 (kvs.map (·.2)) vs As->m1 (.dT kvs) (.ref a) (a :: As))
  (hn:m2 [] [] []) (hc:∀ d v ds vs As Bs,RepO K Hs H fl d v As->aq K Hs H fl ds vs Bs->m1 d v As->m2 ds vs Bs->m2 (d :: ds) (v :: vs) (As++Bs)):(∀ {d v As},RepO K Hs H fl d v As->m1 d v As)/\∀ {ds vs As},aq K Hs H fl ds vs As->m2 ds vs As :=
 ⟨fun r=>RepO.rec (motive_1:=fun d v As _=>m1 d v As) (motive_2:=fun ds vs As _=>m2 ds vs As) (fun f r=>hs _ _ f r) (fun z s r ih=>hl _ _ _ _ z s r ih) (fun z s n r ih=>ht _ _ _ _ z s n r ih) (fun z s r ih=>hk _ _ _ _ z s r ih) (fun z s r ih=>hT _ _ _ _ z s r ih) hn (fun r s a b=>hc _ _ _ _ _ _ r s a b) r,
  fun r=>aq.rec (motive_1:=fun d v As _=>m1 d v As) (motive_2:=fun ds vs As _=>m2 ds vs As) (fun f r=>hs _ _ f r) (fun z s r ih=>hl _ _ _ _ z s r ih) (fun z s n r ih=>ht _ _ _ _ z s n r ih) (fun z s r ih=>hk _ _ _ _ z s r ih) (fun z s r ih=>hT _ _ _ _ z s r ih) hn (fun r s a b=>hc _ _ _ _ _ _ r s a b) r⟩
theorem mem0 {a:Addr} {p:Prop} (h:a∈([]:List Addr)):p:=absurd h xbo
theorem RepO.own2:(∀ {d:D} {v:V} {As:List Addr},RepO K Hs H fl d v As->∀ a∈As,Own H a)/\∀ {ds:List D} {vs:List V} {As:List Addr},aq K Hs H fl ds vs As->∀ a∈As,Own H a :=
 RepO.ind (m1:=fun _ _ As=>∀ a∈As,Own H a) (m2:=fun _ _ As=>∀ a∈As,Own H a) (fun _ _ _ _ a h=>mem0 h) (fun _ _ _ _ _ e _ ih a h=>(xam.mp h).elim (fun z=>z ▸ .inl ⟨_,e⟩) (ih a)) (fun _ _ _ _ _ _ _ _ ih=>ih)
  (fun _ _ _ _ _ e _ ih a h=>(xam.mp h).elim (fun z=>z ▸ .inr (.inl ⟨_,e⟩)) (ih a)) (fun _ _ _ _ _ e _ ih a h=>(xam.mp h).elim (fun z=>z ▸ .inr (.inr ⟨_,e⟩)) (ih a)) (fun a h=>mem0 h) fun _ _ _ _ _ _ _ _ i1 i2 a h=>(xag.mp h).elim (i1 a) (i2 a)
theorem RepO.own (r:RepO K Hs H fl d v As):∀ a∈As,Own H a:=RepO.own2.1 r
theorem aq.own (r:aq K Hs H fl ds vs As):∀ a∈As,Own H a:=RepO.own2.2 r
theorem RepO.zK (s:Same Hs Hs'):(∀ {d:D} {v:V} {As:List Addr},RepO K Hs H fl d v As->(∀ a∈As,H' a=H a)->RepO K Hs' H' fl d v As)/\∀ {ds:List D} {vs:List V} {As:List Addr},aq K Hs H fl ds vs As->(∀ a∈As,H' a=H a)->aq K Hs' H' fl ds vs As :=
 RepO.ind (m1:=fun d v As=>(∀ a∈As,H' a=H a)->RepO K Hs' H' fl d v As) (m2:=fun ds vs As=>(∀ a∈As,H' a=H a)->aq K Hs' H' fl ds vs As) (fun _ _ f r _=>.sh f (r.same s))
  (fun _ _ _ _ z e _ ih k=>.list z ((k _ xad).trans e) (ih fun a h=>k a (xac _ h))) (fun _ _ _ _ z e n _ ih k=>.tup z (s _ _ e) n (ih k)) (fun _ _ _ _ z e _ ih k=>.dK z ((k _ xad).trans e) (ih fun a h=>k a (xac _ h)))
  (fun _ _ _ _ z e _ ih k=>.dT z ((k _ xad).trans e) (ih fun a h=>k a (xac _ h))) (fun _=>.nil) fun _ _ _ _ _ _ _ _ i1 i2 k=>.cons (i1 fun a h=>k a (xai _ h)) (i2 fun a h=>k a (xaf _ h))
theorem RepO.stay (s:Same Hs Hs') (r:RepO K Hs H fl d v As) (k:∀ a∈As,H' a=H a):RepO K Hs' H' fl d v As:=(RepO.zK s).1 r k
theorem aq.stay (s:Same Hs Hs') (r:aq K Hs H fl ds vs As) (k:∀ a∈As,H' a=H a):aq K Hs' H' fl ds vs As:=(RepO.zK s).2 r k
theorem RepO.grow (s:Same Hs Hs') (t:Same H H') (r:RepO K Hs H fl d v As):RepO K Hs' H' fl d v As :=
 r.stay s fun a h=>by
  cases e:H a with
  | none=>exact absurd e (r.own a h).ne
  | some o=>exact t a o e
theorem aq.grow (s:Same Hs Hs') (t:Same H H') (r:aq K Hs H fl ds vs As):aq K Hs' H' fl ds vs As :=
 r.stay s fun a h=>by
  cases e:H a with
  | none=>exact absurd e (r.own a h).ne
  | some o=>exact t a o e
theorem RepO.rep2 {G:Hp} (s:Same Hs G):(∀ {d:D} {v:V} {As:List Addr},RepO K Hs H fl d v As->(∀ a∈As,G a=H a)->Rep K G d v)/\∀ {ds:List D} {vs:List V} {As:List Addr},aq K Hs H fl ds vs As->(∀ a∈As,G a=H a)->Reps K G ds vs :=
 RepO.ind (m1:=fun d v As=>(∀ a∈As,G a=H a)->Rep K G d v) (m2:=fun ds vs As=>(∀ a∈As,G a=H a)->Reps K G ds vs) (fun _ _ _ r _=>r.same s)
  (fun _ _ _ _ z e _ ih k=>.list z (.inl (.inl ((k _ xad).trans e))) (ih fun a h=>k a (xac _ h))) (fun _ _ _ _ z e n _ ih k=>.tup z (s _ _ e) (ih k)) (fun _ _ _ _ z e _ ih k=>.dK z (.inl ((k _ xad).trans e)) (ih fun a h=>k a (xac _ h)))
  (fun _ _ _ _ z e _ ih k=>.dT z (.inl ((k _ xad).trans e)) (ih fun a h=>k a (xac _ h))) (fun _=>.nil) fun _ _ _ _ _ _ _ _ i1 i2 k=>.cons (i1 fun a h=>k a (xai _ h)) (i2 fun a h=>k a (xaf _ h))
theorem RepO.rep (s:Same Hs G) (r:RepO K Hs H fl d v As) (k:∀ a∈As,G a=H a):Rep K G d v:=(RepO.rep2 s).1 r k
theorem aq.reps (s:Same Hs G) (r:aq K Hs H fl ds vs As) (k:∀ a∈As,G a=H a):Reps K G ds vs:=(RepO.rep2 s).2 r k
theorem Rep.rP (t:∀ a vs,H a=some (.tup vs)->G a=some (.tup vs)):(∀ {d:D} {v:V},Rep K H d v->d.flat=true->Rep K G d v)/\∀ {ds:List D} {vs:List V},Reps K H ds vs->flats ds=true->Reps K G ds vs :=
 Rep.ind (m1:=fun d v=>d.flat=true->Rep K G d v) (m2:=fun ds vs=>flats ds=true->Reps K G ds vs) (fun _=>.non) (fun b _=>.bl b) (fun i _=>.int i) (fun _ h _=>.str h) (fun _ _ _ _ _ _ _ f=>by simp [D.flat] at f) (fun _ _ _ z e _ ih f=>.tup z (t _ _ e) (ih (by simpa [D.flat] using f)))
  (fun _ _ _ _ _ _ _ f=>by simp [D.flat] at f) (fun _ _ _ _ _ _ _ f=>by simp [D.flat] at f) (fun _=>.nil) fun _ _ _ _ _ _ i1 i2 f=>by
   simp only [flats,xaz] at f
   exact .cons (i1 f.1) (i2 f.2)
theorem Rep.e_ (t:∀ a vs,H a=some (.tup vs)->G a=some (.tup vs)) (r:Rep K H d v) (f:d.flat=true):Rep K G d v:=(Rep.rP t).1 r f
theorem Reps.e_ (t:∀ a vs,H a=some (.tup vs)->G a=some (.tup vs)) (r:Reps K H ds vs) (f:flats ds=true):Reps K G ds vs:=(Rep.rP t).2 r f
theorem Reps.owned (r:Reps K Hs ds vs) (f:flats ds=true):aq K Hs H fl ds vs [] :=
 Reps.ind (m:=fun ds vs=>flats ds=true->aq K Hs H fl ds vs []) (fun _=>.nil) (fun _ _ _ _ h _ ih f=>by
  simp only [flats,xaz] at f
  exact .cons (As:=[]) (.sh (fun _=>f.1) h) (ih f.2)) r f
theorem Reps.zF (r:Reps K Hs ds vs):aq K Hs H false ds vs [] :=
 Reps.ind (m:=fun ds vs=>aq K Hs H false ds vs []) .nil (fun _ _ _ _ h _ ih=>.cons (As:=[]) (.sh (fun z=>Bool.noConfusion z) h) ih) r
theorem RepO.fls2:(∀ {d:D} {v:V} {As:List Addr},RepO K Hs H fl d v As->RepO K Hs H false d v As)/\∀ {ds:List D} {vs:List V} {As:List Addr},aq K Hs H fl ds vs As->aq K Hs H false ds vs As :=
 RepO.ind (fun _ _ _ r=>.sh (fun z=>Bool.noConfusion z) r) (fun _ _ _ _ z e _ ih=>.list z e ih) (fun _ _ _ _ z e n _ ih=>.tup z e n ih) (fun _ _ _ _ z e _ ih=>.dK z e ih) (fun _ _ _ _ z e _ ih=>.dT z e ih) .nil fun _ _ _ _ _ _ _ _ a b=>.cons a b
theorem RepO.fls (r:RepO K Hs H fl d v As):RepO K Hs H false d v As:=RepO.fls2.1 r
theorem aq.fls (r:aq K Hs H fl ds vs As):aq K Hs H false ds vs As:=RepO.fls2.2 r
theorem RepO.zb (t:∀ a vs,Hs a=some (.tup vs)->G a=some (.tup vs)):(∀ {d:D} {v:V} {As:List Addr},RepO K Hs H true d v As->RepO K G H true d v As)/\∀ {ds:List D} {vs:List V} {As:List Addr},aq K Hs H true ds vs As->aq K G H true ds vs As :=
 RepO.ind (fun _ _ f r=>.sh f (r.e_ t (f rfl))) (fun _ _ _ _ z e _ ih=>.list z e ih) (fun _ _ _ _ z e n _ ih=>.tup z (t _ _ e) n ih) (fun _ _ _ _ z e _ ih=>.dK z e ih) (fun _ _ _ _ z e _ ih=>.dT z e ih) .nil fun _ _ _ _ _ _ _ _ a b=>.cons a b
theorem RepO.leaves (t:∀ a vs,Hs a=some (.tup vs)->G a=some (.tup vs)) (r:RepO K Hs H true d v As):RepO K G H true d v As:=(RepO.zb t).1 r
theorem aq.ind {m:List D->List V->List Addr->Prop} (hn:m [] [] []) (hc:∀ d v ds vs As Bs,RepO K Hs H fl d v As->aq K Hs H fl ds vs Bs->m ds vs Bs->m (d :: ds) (v :: vs) (As++Bs)):∀ {ds vs As},aq K Hs H fl ds vs As->m ds vs As :=
 fun r=>(RepO.ind (m1:=fun _ _ _=>True) (m2:=m) (fun _ _ _ _=>trivial) (fun _ _ _ _ _ _ _ _=>trivial) (fun _ _ _ _ _ _ _ _ _=>trivial) (fun _ _ _ _ _ _ _ _=>trivial) (fun _ _ _ _ _ _ _ _=>trivial) hn fun d v ds vs As Bs r s _ b=>hc d v ds vs As Bs r s b).2 r
theorem aq.append (r:aq K Hs H fl ds vs As) (t:aq K Hs H fl es ws Bs):aq K Hs H fl (ds++es) (vs++ws) (As++Bs) :=
 aq.ind (m:=fun ds vs As=>aq K Hs H fl (ds++es) (vs++ws) (As++Bs)) t (fun _ _ _ _ _ _ h _ ih=>by
  rw [xaO]
  exact .cons h ih) r
theorem aq.n0 (h:aq K Hs H fl [] vs As):vs=[]/\As=[]:=by cases h; exact ⟨rfl,rfl⟩
theorem aq.c (h:aq K Hs H fl (d :: ds) vs As):∃ u us A B,vs=u :: us/\As=A++B/\RepO K Hs H fl d u A/\aq K Hs H fl ds us B:=by
 cases h with
 | cons r rs=>exact ⟨_,_,_,_,rfl,rfl,r,rs⟩
theorem aq.length (r:aq K Hs H fl ds vs As):ds.length=vs.length :=
 aq.ind (m:=fun ds vs _=>ds.length=vs.length) rfl (fun _ _ _ _ _ _ _ _ ih=>by rw [xaH,xaH,ih]) r
end
inductive Sl where
 /-- shared; owned; owned and walked by a loop just now (at a) -/
 | sh (d:D) | ow (fl:Bool) (d:D) | lk (a:Addr) (fl:Bool) (d:D)
 /-- an exception,at a -/
 | xc (a:Addr)
abbrev Env:=List (Option Sl)
inductive SR (K:PySem.W.Frag) (Hs H:Hp):Env->St->List Addr->Prop
 | nil:SR K Hs H [] [] []
 | non {ρ:Env} {σ:St} {tot:List Addr} {o:Option V}:SR K Hs H ρ σ tot->SR K Hs H (none :: ρ) (o :: σ) tot
 | sh {ρ:Env} {σ:St} {tot:List Addr} {d:D} {v:V}:Rep K Hs d v->SR K Hs H ρ σ tot->SR K Hs H (some (.sh d) :: ρ) (some v :: σ) tot
 | xc {ρ:Env} {σ:St} {tot:List Addr} {a:Addr}:SR K Hs H ρ σ tot->SR K Hs H (some (.xc a) :: ρ) (some (.ref a) :: σ) tot
 | ow {ρ:Env} {σ:St} {tot As:List Addr} {fl:Bool} {d:D} {v:V}:As≠[]->RepO K Hs H fl d v As->SR K Hs H ρ σ tot->SR K Hs H (some (.ow fl d) :: ρ) (some v :: σ) (As++tot)
 | lk {ρ:Env} {σ:St} {tot As:List Addr} {a:Addr} {fl:Bool} {d:D}:As≠[]->RepO K Hs H fl d (.ref a) As->SR K Hs H ρ σ tot->SR K Hs H (some (.lk a fl d) :: ρ) (some (.ref a) :: σ) (As++tot)
structure Wf (Hs H:Hp):Prop where
 sub:Same Hs H
 tups:∀ a vs,H a=some (.tup vs)->Hs a=some (.tup vs)
structure SRel (K:PySem.W.Frag) (Hs:Hp) (ρ:Env) (σ:St) (H:Hp) (tot:List Addr):Prop where
 sr:SR K Hs H ρ σ tot
 wf:Wf Hs H
 nod:tot.Nodup
 own:∀ a∈tot,Hs a=none
structure Grow (Hs H Hs' H':Hp):Prop where
 all:Same H H'
 sh:Same Hs Hs'
 wf:Wf Hs' H'
 new:∀ a,Hs' a≠none->Hs a≠none\/H a=none
section
variable {K:PySem.W.Frag} {Hs H Hs' H' Hs'' H'':Hp}
theorem Grow.refl (w:Wf Hs H):Grow Hs H Hs H:=⟨Same.refl _,Same.refl _,w,fun _ h=>.inl h⟩
theorem Grow.trans (a:Grow Hs H Hs' H') (b:Grow Hs' H' Hs'' H''):Grow Hs H Hs'' H'' :=
 ⟨a.all.trans b.all,a.sh.trans b.sh,b.wf,fun c h=>by
  rcases b.new c h with h | h
  ·exact a.new c h
  ·exact .inr (a.all.free h)⟩
theorem Grow.hsn (g:Grow Hs H Hs' H') (h:Hs a=none) (h':H a≠none):Hs' a=none:=by
 cases e:Hs' a with
 | none=>rfl
 | some o =>
  rcases g.new a (by rw [e]; exact fun z=>nomatch z) with z | z
  ·exact absurd h z
  ·exact absurd z h'
theorem SR.own {ρ:Env} {σ:St} {tot:List Addr} (s:SR K Hs H ρ σ tot):∀ a∈tot,Own H a:=by
 induction s with
 | nil=>exact fun a h=>mem0 h
 | non _ ih=>exact ih
 | sh _ _ ih=>exact ih
 | xc _ ih=>exact ih
 | ow _ r _ ih=>exact fun a h=>(xag.mp h).elim (r.own a) (ih a)
 | lk _ r _ ih=>exact fun a h=>(xag.mp h).elim (r.own a) (ih a)
theorem SR.stay (s:Same Hs Hs') (r:SR K Hs H ρ σ tot):(∀ a∈tot,H' a=H a)->SR K Hs' H' ρ σ tot:=by
 induction r with
 | nil=>exact fun _=>.nil
 | non _ ih=>exact fun k=>.non (ih k)
 | sh h _ ih=>exact fun k=>.sh (h.same s) (ih k)
 | xc _ ih=>exact fun k=>.xc (ih k)
 | ow ne h _ ih=>exact fun k=>.ow ne (h.stay s fun a m=>k a (xai _ m)) (ih fun a m=>k a (xaf _ m))
 | lk ne h _ ih=>exact fun k=>.lk ne (h.stay s fun a m=>k a (xai _ m)) (ih fun a m=>k a (xaf _ m))
theorem SRel.grow (r:SRel K Hs ρ σ H tot) (g:Grow Hs H Hs' H'):SRel K Hs' ρ σ H' tot :=
 ⟨r.sr.stay g.sh fun a h=>by
  cases e:H a with
  | none=>exact absurd e (r.sr.own a h).ne
  | some o=>exact g.all a o e,g.wf,r.nod,fun a h=>g.hsn (r.own a h) (r.sr.own a h).ne⟩
theorem SR.length (s:SR K Hs H ρ σ tot):ρ.length=σ.length:=by
 induction s with
 | nil=>rfl
 | non _ ih=>exact congrArg (· + 1) ih
 | sh _ _ ih=>exact congrArg (· + 1) ih
 | xc _ ih=>exact congrArg (· + 1) ih
 | ow _ _ _ ih=>exact congrArg (· + 1) ih
 | lk _ _ _ ih=>exact congrArg (· + 1) ih
def vG (K:PySem.W.Frag) (Hs H:Hp) (tot:List Addr) (sl:Sl) (v:V):Prop:=match sl with
 | .sh d=>Rep K Hs d v
 | .ow fl d=>∃ As,As≠[]/\RepO K Hs H fl d v As/\∀ a∈As,a∈tot
 | .lk a fl d=>∃ As,As≠[]/\RepO K Hs H fl d v As/\v=.ref a/\∀ a∈As,a∈tot
 | .xc a=>v=.ref a
theorem vG.mono (h:vG K Hs H tot sl v) (m:∀ a∈tot,a∈tot'):vG K Hs H tot' sl v:=by
 cases sl with
 | sh d=>exact h
 | xc a=>exact h
 | ow fl d =>
  obtain ⟨As,ne,r,q⟩:=h
  exact ⟨As,ne,r,fun a ha=>m a (q a ha)⟩
 | lk a fl d =>
  obtain ⟨As,ne,r,e,q⟩:=h
  exact ⟨As,ne,r,e,fun a ha=>m a (q a ha)⟩
theorem SR.get {ρ:Env} {σ:St} {tot:List Addr} {i:Nat} {sl:Sl} (s:SR K Hs H ρ σ tot) (e:ρ[i]? = some (some sl)):∃ v,σ[i]? = some (some v)/\vG K Hs H tot sl v:=by
 induction s generalizing i with
 | nil=>simp at e
 | non s ih =>
  cases i with
  | zero=>simp at e
  | succ i=>exact ih e
 | sh r s ih =>
  cases i with
  | zero=>simp at e; subst e; exact ⟨_,rfl,r⟩
  | succ i=>exact ih e
 | xc s ih =>
  cases i with
  | zero=>simp at e; subst e; exact ⟨_,rfl,rfl⟩
  | succ i=>exact ih e
 | ow ne r s ih =>
  cases i with
  | zero=>simp at e; subst e; exact ⟨_,rfl,_,ne,r,fun a m=>xai _ m⟩
  | succ i =>
   obtain ⟨v,e1,h⟩:=ih e
   exact ⟨v,e1,h.mono fun a m=>xaf _ m⟩
 | lk ne r s ih =>
  cases i with
  | zero=>simp at e; subst e; exact ⟨_,rfl,_,ne,r,rfl,fun a m=>xai _ m⟩
  | succ i =>
   obtain ⟨v,e1,h⟩:=ih e
   exact ⟨v,e1,h.mono fun a m=>xaf _ m⟩
end
inductive Md where
 | sh | ow (fl:Bool) | bo
def RM (K:PySem.W.Frag) (Hs H:Hp):Md->D->V->List Addr->Prop
 | .sh,d,v,As=>As=[]/\Rep K Hs d v
 | .ow fl,d,v,As=>RepO K Hs H fl d v As/\As≠[]
 | .bo,d,v,As=>As=[]/\Rep K H d v
inductive RMs (K:PySem.W.Frag) (Hs H:Hp):List (Md × D)->List V->List Addr->Prop
 | nil:RMs K Hs H [] [] []
 | cons {m:Md} {d:D} {v:V} {ps:List (Md × D)} {vs:List V} {As Bs:List Addr}:RM K Hs H m d v As->RMs K Hs H ps vs Bs->RMs K Hs H ((m,d) :: ps) (v :: vs) (As++Bs)
section
variable {K:PySem.W.Frag} {Hs H Hs' H':Hp}
theorem RM.own {m:Md} {d:D} {v:V} {As:List Addr} (r:RM K Hs H m d v As):∀ a∈As,Own H a:=by
 cases m with
 | sh=>obtain ⟨rfl,_⟩:=r; exact fun a h=>mem0 h
 | ow fl=>exact RepO.own r.1
 | bo=>obtain ⟨rfl,_⟩:=r; exact fun a h=>mem0 h
theorem RM.grow (r:RM K Hs H m d v As) (g:Grow Hs H Hs' H'):RM K Hs' H' m d v As:=by
 cases m with
 | sh=>exact ⟨r.1,r.2.same g.sh⟩
 | ow fl=>exact ⟨RepO.grow g.sh g.all r.1,r.2⟩
 | bo=>exact ⟨r.1,r.2.same g.all⟩
theorem RM.rep (w:Wf Hs H) (r:RM K Hs H m d v As):Rep K H d v:=by
 cases m with
 | sh=>exact r.2.same w.sub
 | ow fl=>exact RepO.rep w.sub r.1 fun _ _=>rfl
 | bo=>exact r.2
theorem RM.flat (w:Wf Hs H) (r:RM K Hs H m d v As) (f:d.flat=true):Rep K Hs d v:=(r.rep w).e_ w.tups f
theorem RMs.reps (w:Wf Hs H) {ps:List (Md × D)} (r:RMs K Hs H ps vs As):Reps K H (ps.map (·.2)) vs:=by
 induction r with
 | nil=>exact .nil
 | cons r _ ih=>exact .cons (r.rep w) ih
end
abbrev WE:=Env->(Md->D->Prop)->Prop
abbrev WT:=Env->(Bool->Prop)->Prop
abbrev WA:=Env->(List (Md × D)->Prop)->Prop
structure nF where
 nx:Env->Prop
 rt:Md->D->Prop
 bk:Env->Prop:=fun _=>False
 ct:Env->Prop:=fun _=>False
abbrev WS:=nF->Env->Prop
def bZ (Hs' H:Hp) (As:List Addr):Prop:=As.Nodup/\∀ a∈As,Hs' a=none/\H a=none
def tpE (K:PySem.W.Frag) (t:WE):TE:=fun σ H Qv=>∃ Hs ρ tot Q,SRel K Hs ρ σ H tot/\t ρ Q /\
 ∀ v H' Hs' m d As,Grow Hs H Hs' H'->RM K Hs' H' m d v As->bZ Hs' H As->Q m d->Qv v H'
def tpT (K:PySem.W.Frag) (t:WT):TT:=fun σ H Qv=>∃ Hs ρ tot Q,SRel K Hs ρ σ H tot/\t ρ Q/\∀ b H' Hs',Grow Hs H Hs' H'->Q b->Qv b H'
def tpA (K:PySem.W.Frag) (t:WA):TA:=fun σ H Qv=>∃ Hs ρ tot Q,SRel K Hs ρ σ H tot/\t ρ Q /\
 ∀ vs H' Hs' ps As,Grow Hs H Hs' H'->RMs K Hs' H' ps vs As->bZ Hs' H As->Q ps->Qv vs H'
def tpS (K:PySem.W.Frag) (L:Str->Hp->Prop) (t:WS):TS:=fun D σ H=>∃ Hs ρ tot E,SRel K Hs ρ σ H tot/\t E ρ /\
 (∀ σ' H' Hs' ρ' tot',Same Hs Hs'->SRel K Hs' ρ' σ' H' tot'->E.nx ρ'->D.nx σ' H') /\
 (∀ σ' H' Hs' ρ' tot',Same Hs Hs'->SRel K Hs' ρ' σ' H' tot'->E.bk ρ'->D.bk σ' H') /\
 (∀ σ' H' Hs' ρ' tot',Same Hs Hs'->SRel K Hs' ρ' σ' H' tot'->E.ct ρ'->D.ct σ' H') /\
 (∀ v H' Hs' m d As,Same Hs Hs'->Wf Hs' H'->RM K Hs' H' m d v As->As.Nodup->(∀ a∈As,Hs' a=none)->E.rt m d->D.rt v H') /\
 ∀ n H',Same Hs H'->E.rt (.ow false) (.str n)->L n H'
theorem cY {K:PySem.W.Frag} {L:Str->Hp->Prop} {t:WS} {D:Ends} {σ:St} {H:Hp} {G:Prop} (x:tpS K L t D σ H) (k:∀ Hs ρ tot E,SRel K Hs ρ σ H tot->t E ρ ->
 (∀ σ' H' Hs' ρ' tot',Same Hs Hs'->SRel K Hs' ρ' σ' H' tot'->E.nx ρ'->D.nx σ' H') ->
 (∀ σ' H' Hs' ρ' tot',Same Hs Hs'->SRel K Hs' ρ' σ' H' tot'->E.bk ρ'->D.bk σ' H') ->
 (∀ σ' H' Hs' ρ' tot',Same Hs Hs'->SRel K Hs' ρ' σ' H' tot'->E.ct ρ'->D.ct σ' H') ->
 (∀ v H' Hs' m d As,Same Hs Hs'->Wf Hs' H'->RM K Hs' H' m d v As->As.Nodup->(∀ a∈As,Hs' a=none)->E.rt m d->D.rt v H') ->
 (∀ n H',Same Hs H'->E.rt (.ow false) (.str n)->L n H')->G):G :=
 by
 obtain ⟨Hs,ρ,tot,E,sr,h,k1,k2,k3,k4,kx⟩:=x
 exact k Hs ρ tot E sr h k1 k2 k3 k4 kx
theorem du {K:PySem.W.Frag} {L:Str->Hp->Prop} {t:WS} {D:Ends} {σ:St} {H:Hp} {G:Prop} (x:tpS K L t D σ H) (k:∀ Hs ρ tot E,SRel K Hs ρ σ H tot->t E ρ ->
 (∀ σ' H' Hs' ρ' tot',Same Hs Hs'->SRel K Hs' ρ' σ' H' tot'->E.nx ρ'->D.nx σ' H') ->
 (∀ σ' H' Hs' ρ' tot',Same Hs Hs'->SRel K Hs' ρ' σ' H' tot'->E.bk ρ'->D.bk σ' H') ->
 (∀ σ' H' Hs' ρ' tot',Same Hs Hs'->SRel K Hs' ρ' σ' H' tot'->E.ct ρ'->D.ct σ' H') ->
 (∀ v H' Hs' m d As,Same Hs Hs'->Wf Hs' H'->RM K Hs' H' m d v As->As.Nodup->(∀ a∈As,Hs' a=none)->E.rt m d->D.rt v H')->G):G :=
 cY x fun Hs ρ tot E sr h k1 k2 k3 k4 _=>k Hs ρ tot E sr h k1 k2 k3 k4
theorem ex4 {α β γ δ:Type _} {A B C:α->β->γ->δ->Prop} {G:Prop} (x:∃ a b c d,A a b c d/\B a b c d/\C a b c d) (k:∀ a b c d,A a b c d->B a b c d->C a b c d->G):G :=
 by
 obtain ⟨a,b,c,d,p,q,r⟩:=x
 exact k a b c d p q r
abbrev QE (X:Cx) (K:PySem.W.Frag) (e:Expr) (t:WE):Prop:=PE X e (tpE K t)
abbrev QT (X:Cx) (K:PySem.W.Frag) (e:Expr) (t:WT):Prop:=PT X e (tpT K t)
abbrev QW (X:Cx) (K:PySem.W.Frag) (e:Expr) (t:WT):Prop:=PW X e (tpT K t)
abbrev QA (X:Cx) (K:PySem.W.Frag) (es:List Expr) (t:WA):Prop:=PA X es (tpA K t)
abbrev QS (X:Cx) (K:PySem.W.Frag) (L:Str->Hp->Prop) (st:Stmt) (t:WS):Prop:=PS X st (tpS K L t)
abbrev QSs (X:Cx) (K:PySem.W.Frag) (L:Str->Hp->Prop) (st:List Stmt) (t:WS):Prop:=PSs X st (tpS K L t)
abbrev L0:Str->Hp->Prop:=fun _ _=>True
end L2.Q
namespace L2.Q
open PySem PySem.Spec PyProof.Rows
structure Kt {α:Type} (f:α->Prop):Type where
def onK {α:Type} (a:α) {f:α->Prop} (_:Kt f):Prop:=f a
mutual
def D.py:D->PyData
 | .non=>.none
 | .bl b=>.bool b
 | .int i=>.int i
 | .str x=>.str x
 | .list xs=>.list (pys xs)
 | .tup xs=>.tuple (pys xs)
 | .dK _=>.none
 | .dT _=>.none
def pys:List D->List PyData
 | []=>[]
 | x :: xs=>x.py :: pys xs
end
def okD:Nat->D->Bool
 | _,.non=>true
 | _,.bl _=>true
 | _,.int _=>true
 | _,.str x=>PyData.strOk x
 | n+1,.list xs=>xs.all (okD n)
 | n+1,.tup xs=>xs.all (okD n)
 | _,_=>false
def eqD (x y:D):Bool:=PyData.eqv x.py y.py
def D.ty:D->String
 | .non => "NoneType"
 | .bl _ => "bool"
 | .int _ => "int"
 | .str _ => "str"
 | .list _ => "list"
 | .tup _ => "tuple"
 | .dK _ => "dict"
 | .dT _ => "dict"
def D.key1:D->Option Key
 | .int i=>some (.inl i)
 | .str x=>some (.inr x)
 | _=>none
def cO:List D->Option (List Key)
 | []=>some []
 | x :: xs=>match x.key1,cO xs with
  | some k,some ks=>some (k :: ks)
  | _,_=>none
section
variable {κ:Type} [DecidableEq κ] {β:Type}
def getG (kvs:List (κ × β)) (k:κ):Option β:=(kvs.find? fun kv=>decide (kv.1=k)).map (·.2)
def putG (kvs:List (κ × β)) (k:κ) (v:β):List (κ × β) :=
 if (kvs.any fun kv=>decide (kv.1=k))=true then kvs.map (fun kv=>if kv.1=k then (kv.1,v) else kv) else kvs++[(k,v)]
end
theorem Rep.l22 {K:PySem.W.Frag}:(∀ {d:D} {v:V},Rep K H d v->∀ n,okD n d=true->L2.Rep K H d.py v)/\∀ {ds:List D} {vs:List V},Reps K H ds vs->∀ n,(∀ d∈ds,okD n d=true)->L2.Reps K H (pys ds) vs :=
 Rep.ind (m1:=fun d v=>∀ n,okD n d=true->L2.Rep K H d.py v) (m2:=fun ds vs=>∀ n,(∀ d∈ds,okD n d=true)->L2.Reps K H (pys ds) vs) (fun _ _=>.none) (fun b _ _=>.bool b) (fun i _ _=>.int i) (fun _ _ _ _=>.str _)
  (fun _ _ _ _ h _ ih n o=>by
   cases n with
   | zero=>simp [okD] at o
   | succ n=>exact .list h (ih n (by simpa [okD] using o)))
  (fun _ _ _ _ h _ ih n o=>by
   cases n with
   | zero=>simp [okD] at o
   | succ n=>exact .tuple (.inl (.inl h)) (ih n (by simpa [okD] using o)))
  (fun _ _ _ _ _ _ _ n o=>by cases n <;> simp [okD] at o) (fun _ _ _ _ _ _ _ n o=>by cases n <;> simp [okD] at o) (fun _ _=>.nil)
  fun _ _ _ _ _ _ i1 i2 n o=>.cons (i1 n (o _ xad)) (i2 n fun d m=>o d (xac _ m))
theorem Rep.l2 {K:PySem.W.Frag} (r:Rep K H d v) (o:okD n d=true):L2.Rep K H d.py v:=Rep.l22.1 r n o
theorem uG (ih:∀ d,okD n d=true->d.py.canLay0=true/\d.py.depth<=n) (xs:List D) (h:∀ x∈xs,okD n x=true):PyData.canLayAll0 (pys xs)=true/\PyData.depthAll (pys xs)<=n:=by
 induction xs with
 | nil=>exact ⟨rfl,xao _⟩
 | cons x xs ih2 =>
  have h1:=ih x (h x xad)
  have h2:=ih2 fun y hy=>h y (xac _ hy)
  simp only [pys,PyData.canLayAll0,PyData.depthAll,h1.1,h2.1,Bool.and_self,true_and]
  lia
theorem jE (n:Nat):∀ (d:D),okD n d=true->d.py.canLay0=true/\d.py.depth<=n:=by
 have st:∀ (n:Nat) (x:Str),okD n (.str x)=true->(D.str x).py.canLay0=true/\(D.str x).py.depth<=n:=fun n x h=>by
  have h:PyData.strOk x=true:=by cases n <;> simpa [okD] using h
  exact ⟨by simpa [D.py,PyData.canLay0] using h,xao _⟩
 induction n with
 | zero =>
  intro d h
  cases d with
  | str x=>exact st _ x h
  | non=>exact ⟨rfl,xao _⟩
  | bl _=>exact ⟨rfl,xao _⟩
  | int _=>exact ⟨rfl,xao _⟩
  | _=>simp [okD] at h
 | succ n ih =>
  intro d h
  cases d with
  | str x=>exact st _ x h
  | non=>exact ⟨rfl,xao _⟩
  | bl _=>exact ⟨rfl,xao _⟩
  | int _=>exact ⟨rfl,xao _⟩
  | list xs =>
   have h:∀ x∈xs,okD n x=true:=by simpa [okD] using h
   have:=uG ih xs h
   simp only [D.py,PyData.canLay0,PyData.depth]
   exact ⟨this.1,by lia⟩
  | tup xs =>
   have h:∀ x∈xs,okD n x=true:=by simpa [okD] using h
   have:=uG ih xs h
   simp only [D.py,PyData.canLay0,PyData.depth]
   exact ⟨this.1,by lia⟩
  | dK _=>simp [okD] at h
  | dT _=>simp [okD] at h
mutual
def D.nb:D->Bool
 | .bl _=>false
 | .list xs=>nbs xs
 | .tup xs=>nbs xs
 | .dK _=>false
 | .dT _=>false
 | _=>true
def nbs:List D->Bool
 | []=>true
 | x :: xs=>x.nb && nbs xs
end
mutual
theorem ou:∀ (x y:D),x.nb=true->y.nb=true->(eqD x y=true↔x=y)
 | .non,y,_,hy=>by cases y <;> simp_all [eqD,D.py,PyData.eqv,D.nb]
 | .bl _,y,hx,_=>by simp [D.nb] at hx
 | .int i,y,_,hy=>by cases y <;> simp_all [eqD,D.py,PyData.eqv,D.nb]
 | .str i,y,_,hy=>by cases y <;> simp_all [eqD,D.py,PyData.eqv,D.nb]
 | .dK _,y,hx,_=>by simp [D.nb] at hx
 | .dT _,y,hx,_=>by simp [D.nb] at hx
 | .list xs,y,hx,hy=>by
  cases y with
  | list ys =>
   have:=kh xs ys (by simpa [D.nb] using hx) (by simpa [D.nb] using hy)
   simp only [eqD,D.py,PyData.eqv,D.list.injEq]
   exact this
  | _=>simp_all [eqD,D.py,PyData.eqv,D.nb]
 | .tup xs,y,hx,hy=>by
  cases y with
  | tup ys =>
   have:=kh xs ys (by simpa [D.nb] using hx) (by simpa [D.nb] using hy)
   simp only [eqD,D.py,PyData.eqv,D.tup.injEq]
   exact this
  | _=>simp_all [eqD,D.py,PyData.eqv,D.nb]
theorem kh:∀ (xs ys:List D),nbs xs=true->nbs ys=true->(PyData.eqvAll (pys xs) (pys ys)=true↔xs=ys)
 | [],[],_,_=>by simp [pys,PyData.eqvAll]
 | [],_ :: _,_,_=>by simp [pys,PyData.eqvAll]
 | _ :: _,[],_,_=>by simp [pys,PyData.eqvAll]
 | x :: xs,y :: ys,hx,hy=>by
  simp only [nbs,xaz] at hx hy
  have h1:=ou x y hx.1 hy.1
  have h2:=kh xs ys hx.2 hy.2
  simp only [pys,PyData.eqvAll,xaz,List.cons.injEq]
  exact and_congr h1 h2
end
section
variable {K:PySem.W.Frag} {H:Hp}
theorem Rep.key (r:Rep K H d v) (h:d.key1=some k):v=kV k:=by
 cases r <;> simp [D.key1] at h <;> subst h <;> rfl
theorem Reps.keys (r:Reps K H ds vs) (h:cO ds=some ks):vs=ks.map kV:=by
 induction ds generalizing vs ks with
 | nil=>simp [cO] at h; subst h; exact r.n0
 | cons d ds ih =>
  obtain ⟨u,us,rfl,r,rs⟩:=r.c
  unfold cO at h
  cases e1:d.key1 with
  | none=>rw [e1] at h; simp at h
  | some k =>
   cases e2:cO ds with
   | none=>rw [e1,e2] at h; simp at h
   | some ks' =>
    rw [e1,e2] at h
    simp at h
    subst h
    rw [xat,r.key e1,ih rs e2]
theorem Rep.keyT (r:Rep K H (.tup ds) v) (h:cO ds=some ks):∃ b,v=.ref b/\H b=some (.tup (ks.map kV)):=by
 cases r with
 | tup _ e rs=>exact ⟨_,rfl,by rw [e,rs.keys h]⟩
end
section
variable {κ:Type} [DecidableEq κ] {K:PySem.W.Frag} {H:Hp}
theorem zip_get {k:κ} {kvs:List (κ × D)} {vs:List V} (h:Reps K H (kvs.map (·.2)) vs):match getG kvs k with
  | some d=>∃ v,valV ((kvs.map (·.1)).zip vs) k=some v/\Rep K H d v
  | none=>valV ((kvs.map (·.1)).zip vs) k=none:=by
 induction kvs generalizing vs with
 | nil=>rfl
 | cons p kvs ih =>
  obtain ⟨u,us,rfl,r,rs⟩:=Reps.c (d:=p.2) h
  by_cases e:p.1=k
  ·have e1:getG (p :: kvs) k=some p.2:=by simp [getG,e]
   rw [e1]
   exact ⟨_,by simp only [xat,xbg]; exact valV_pos e,r⟩
  ·have e1:getG (p :: kvs) k=getG kvs k:=by simp [getG,e]
   rw [e1]
   have:=ih rs
   simp only [xat,xbg,valV_neg (p:=(p.1,_)) e]
   exact this
theorem xJ {k:κ} {kvs:List (κ × D)} {vs:List V} (h:kvs.length=vs.length):((kvs.map (·.1)).zip vs).any (fun kv=>decide (kv.1=k))=kvs.any fun kv=>decide (kv.1=k):=by
 induction kvs generalizing vs with
 | nil=>rfl
 | cons p kvs ih =>
  cases vs with
  | nil=>simp at h
  | cons v vs =>
   simp only [xat,xbg,xba]
   rw [ih (vs:=vs) (by simpa using h)]
end
section
variable {K:PySem.W.Frag} {Hs H:Hp}
theorem newL (w:Wf Hs H) (hp:H p=none) (ho:∀ vs,o≠.tup vs):Grow Hs H Hs (upd H p o) :=
 ⟨(Same.refl H).upd hp,Same.refl _,⟨w.sub.upd hp,fun a vs e=>by
  by_cases h:a=p
  ·subst h; rw [upd_same] at e; exact absurd (Option.some.inj e) (ho vs)
  ·rw [upd_ne h] at e; exact w.tups a vs e⟩,fun _ h=>.inl h⟩
theorem newT (w:Wf Hs H) (hp:H p=none):Grow Hs H (upd Hs p (.tup vs)) (upd H p (.tup vs)) :=
 ⟨(Same.refl H).upd hp,(Same.refl Hs).upd (w.sub.free hp),⟨fun a o e=>by
  by_cases h:a=p
  ·subst h; rw [upd_same] at e ⊢; exact e
  ·rw [upd_ne h] at e ⊢; exact w.sub a o e,fun a vs e=>by
  by_cases h:a=p
  ·subst h; rw [upd_same] at e ⊢; exact e
  ·rw [upd_ne h] at e ⊢; exact w.tups a vs e⟩,fun a h=>by
  by_cases e:a=p
  ·subst e; exact .inr hp
  ·rw [upd_ne e] at h; exact .inl h⟩
theorem bZ.nil:bZ Hs H []:=⟨xay,fun a h=>nomatch h⟩
theorem bZ.of (s:Same H H') (f:bZ Hs H' As):bZ Hs H As:=⟨f.1,fun a h=>⟨(f.2 a h).1,s.free (f.2 a h).2⟩⟩
abbrev Fin (K:PySem.W.Frag) (Hs H:Hp) (Qd:Md->D->Prop) (Qv:VK):Prop:=∀ v H' Hs' m d As,Grow Hs H Hs' H'->RM K Hs' H' m d v As->bZ Hs' H As->Qd m d->Qv v H'
theorem Fin.after (f:Fin K Hs H Qd Qv) (g:Grow Hs H Hs' H'):Fin K Hs' H' Qd Qv:=fun v H2 Hs2 m d As g2 r fr q=>f v H2 Hs2 m d As (g.trans g2) r (fr.of g.all) q
theorem Fin.sh (f:Fin K Hs H Qd Qv) (w:Wf Hs H) (r:Rep K Hs d v) (q:Qd .sh d):Qv v H:=f v H Hs .sh d [] (Grow.refl w) ⟨rfl,r⟩ bZ.nil q
theorem Fin.flat (f:Fin K Hs H Qd Qv) (w:Wf Hs H) (r:Rep K H d v) (hf:d.flat=true) (q:Qd .sh d):Qv v H:=f.sh w (r.e_ w.tups hf) q
theorem Fin.bo (f:Fin K Hs H Qd Qv) (w:Wf Hs H) (r:Rep K H d v) (q:Qd .bo d):Qv v H:=f v H Hs .bo d [] (Grow.refl w) ⟨rfl,r⟩ bZ.nil q
def itm (m:Md) (d:D):Md:=match m with
 | .sh=>.sh
 | _=>bif d.flat then .sh else .bo
theorem Fin.itm (f:Fin K Hs H Qd Qv) (w:Wf Hs H) (r:Rep K H d v) (rs:m=.sh->Rep K Hs d v) (q:Qd (itm m d) d):Qv v H:=by
 cases m with
 | sh=>exact f.sh w (rs rfl) q
 | ow fl =>
  cases hf:d.flat with
  | true=>exact f.flat w r hf (by simpa [Q.itm,hf] using q)
  | false=>exact f.bo w r (by simpa [Q.itm,hf] using q)
 | bo =>
  cases hf:d.flat with
  | true=>exact f.flat w r hf (by simpa [Q.itm,hf] using q)
  | false=>exact f.bo w r (by simpa [Q.itm,hf] using q)
theorem Fin.lst (f:Fin K Hs H Qd Qv) (w:Wf Hs H) (hz:ds.length<=sizeLine) (r:Reps K H ds vs) (hf:flats ds=true) (q:Qd (.ow true) (.list ds)):∀ p,H p=none->Qv (.ref p) (upd H p (.lst vs)):=fun p hp =>
 f _ _ Hs (.ow true) (.list ds) [p] (newL w hp fun _ z=>nomatch z) ⟨.list (by rw [<- r.length]; exact hz) upd_same ((r.e_ w.tups hf).owned hf),by simp⟩ ⟨by simp,fun a h=>by
  obtain rfl:a=p:=by simpa using h
  exact ⟨w.sub.free hp,hp⟩⟩ q
theorem Fin.lstS (f:Fin K Hs H Qd Qv) (w:Wf Hs H) (hz:ds.length<=sizeLine) (r:Reps K Hs ds vs) (q:Qd (.ow false) (.list ds)):∀ p,H p=none->Qv (.ref p) (upd H p (.lst vs)):=fun p hp =>
 f _ _ Hs (.ow false) (.list ds) [p] (newL w hp fun _ z=>nomatch z) ⟨.list (by rw [<- r.length]; exact hz) upd_same r.zF,by simp⟩ ⟨by simp,fun a h=>by
  obtain rfl:a=p:=by simpa using h
  exact ⟨w.sub.free hp,hp⟩⟩ q
theorem Fin.tup (f:Fin K Hs H Qd Qv) (w:Wf Hs H) (hz:ds.length<=sizeLine) (r:Reps K H ds vs) (hf:flats ds=true) (q:Qd .sh (.tup ds)):∀ p,H p=none->Qv (.ref p) (upd H p (.tup vs)):=fun p hp =>
 f _ _ (upd Hs p (.tup vs)) .sh (.tup ds) [] (newT w hp) ⟨rfl,.tup (by rw [<- r.length]; exact hz) upd_same ((r.e_ w.tups hf).same ((Same.refl Hs).upd (w.sub.free hp)))⟩ bZ.nil q
end
section
variable {X:Cx} {K:PySem.W.Frag}
theorem PE.imp (h:PE X e te) (i:∀ σ H Q,te' σ H Q->te σ H Q):PE X e te':=fun pins s σ H Q I q=>h pins s σ H Q I (i σ H Q q)
theorem PT.imp (h:PT X e te) (i:∀ σ H Q,te' σ H Q->te σ H Q):PT X e te':=fun pins s σ H Q I q=>h pins s σ H Q I (i σ H Q q)
theorem PW.imp (h:PW X e te) (i:∀ σ H Q,te' σ H Q->te σ H Q):PW X e te':=fun wh pins s σ H Q I q=>h wh pins s σ H Q I (i σ H Q q)
theorem PA.imp (h:PA X e te) (i:∀ σ H Q,te' σ H Q->te σ H Q):PA X e te':=fun p pins s σ H Q I q=>h p pins s σ H Q I (i σ H Q q)
def useS:Option (Option Sl)->(Md->D->Prop)->Prop
 | some (some (.sh d)),Q=>Q .sh d
 | some (some (.ow _ d)),Q=>Q .bo d
 | some (some (.lk _ _ d)),Q=>Q .bo d
 | _,_=>False
def wVar (i:Nat):WE:=fun ρ Q=>useS ρ[i]? Q
theorem Cp (h:PE X e (tVar i)):QE X K e (wVar i):=by
 refine PE.imp h fun σ H Qv hx=>ex4 hx fun Hs ρ tot Q sr h f=>?_
 unfold wVar at h
 cases e:ρ[i]? with
 | none=>rw [e] at h; exact h.elim
 | some o =>
  cases o with
  | none=>rw [e] at h; exact h.elim
  | some sl =>
   obtain ⟨v,e1,r⟩:=sr.sr.get e
   rw [e] at h
   cases sl with
   | sh d=>exact ⟨v,e1,Fin.sh f sr.wf r h⟩
   | xc a=>exact h.elim
   | ow fl d =>
    obtain ⟨As,_,r,_⟩:=r
    exact ⟨v,e1,Fin.bo f sr.wf (r.rep sr.wf.sub fun _ _=>rfl) h⟩
   | lk a fl d =>
    obtain ⟨As,_,r,_⟩:=r
    exact ⟨v,e1,Fin.bo f sr.wf (r.rep sr.wf.sub fun _ _=>rfl) h⟩
theorem qv (i:Nat) (hN:X.N[i]? = some x:=by rfl) (hv:Vis X.env.scope x:=by first | exact Or.inl rfl | exact Or.inr (Or.inl rfl) | exact Or.inr (Or.inr rfl)) (hd:(x == ("__debug__" : Str))=false:=by decide)
  (hcd:(x == ("__classdict__" : Str))=false:=by decide):QE X K (.Name x pos) (wVar i):=Cp (pe_var hN hv hd hcd)
def wC (d:D):WE:=fun _ Q=>Q .sh d
theorem qx (h:PE X e (tC v)) (r:∀ H,Rep K H d v):QE X K e (wC d) :=
 PE.imp h fun σ H Qv hx=>ex4 hx fun Hs ρ tot Q sr h f=>Fin.sh f sr.wf (r _) h
theorem au {i j pos}:QE X K (.Constant (.int i) j pos) (wC (.int i)):=qx pe_int fun _=>.int i
theorem bh {i j pos} (h:i.length<=sizeLine:=by decide):QE X K (.Constant (.str i) j pos) (wC (.str i)):=qx pe_str fun _=>.str h
theorem q_bl {i j pos}:QE X K (.Constant (.bool i) j pos) (wC (.bl i)):=qx pe_bl fun _=>.bl i
theorem yI {j pos}:QE X K (.Constant .none j pos) (wC .non):=qx pe_non fun _=>.non
theorem q_gs (h:GlS X.mg x z) (hg:Gl X x:=by rfl) (hd:(x == ("__debug__" : Str))=false:=by decide) (hz:z.length<=sizeLine:=by decide):QE X K (.Name x pos) (wC (.str z)):=qx (Cg h hg hd) fun _=>.str hz
theorem q_gi (h:GlI X.mg x i) (hg:Gl X x:=by rfl) (hd:(x == ("__debug__" : Str))=false:=by decide):QE X K (.Name x pos) (wC (.int i)):=qx (Cm h hg hd) fun _=>.int i
abbrev W2:=Md->D->Md->D->(Md->D->Prop)->Prop
abbrev W1:=Md->D->(Md->D->Prop)->Prop
def Br2 (K:PySem.W.Frag) (r:R2) (f:W2):Prop:=∀ Hs H m x v As n y u Bs Qd Qv,Wf Hs H->RM K Hs H m x v As->RM K Hs H n y u Bs->f m x n y Qd->Fin K Hs H Qd Qv->r v u H Qv
def Br1 (K:PySem.W.Frag) (r:V->Hp->VK->Prop) (f:W1):Prop:=∀ Hs H m x v As Qd Qv,Wf Hs H->RM K Hs H m x v As->f m x Qd->Fin K Hs H Qd Qv->r v H Qv
def wOp (f:W2) (ta tb:WE):WE:=fun ρ Q=>ta ρ fun m x=>tb ρ fun n y=>f m x n y Q
def wUn (f:W1) (ta:WE):WE:=fun ρ Q=>ta ρ fun m x=>f m x Q
variable {a b:Expr} {ta tb tc:WE} {pos:Pos}
theorem il (br:Br2 K r f) (σ:St) (H:Hp) (Qv:VK) (h:tpE K (wOp f ta tb) σ H Qv):tOp r (tpE K ta) (tpE K tb) σ H Qv:=by
 obtain ⟨Hs,ρ,tot,Q,sr,h,fin⟩:=h
 refine ⟨Hs,ρ,tot,_,sr,h,fun v H1 Hs1 m x As g1 r1 f1 q1=>⟨Hs1,ρ,tot,_,sr.grow g1,q1,fun u H2 Hs2 n y Bs g2 r2 f2 q2=>?_⟩⟩
 exact br Hs2 H2 m x v As n y u Bs Q Qv g2.wf (r1.grow g2) r2 q2 (Fin.after fin (g1.trans g2))
theorem q_op (ho:OpR X (binaryOp op) r) (br:Br2 K r f) (ha:QE X K a ta) (hb:QE X K b tb):QE X K (.BinOp a op b pos) (wOp f ta tb):=PE.imp (pe_op ho ha hb) (il br)
theorem q_un (ho:UnR X (unaryOp op) r) (br:Br1 K r f) (ha:QE X K a ta):QE X K (.UnaryOp op a pos) (wUn f ta):=by
 refine PE.imp (pe_un ho ha) fun σ H Qv hx=>ex4 hx fun Hs ρ tot Q sr h fin=>?_
 exact ⟨Hs,ρ,tot,_,sr,h,fun v H1 Hs1 m x As g1 r1 f1 q1=>br Hs1 H1 m x v As Q Qv g1.wf r1 q1 (Fin.after fin g1)⟩
theorem mU (ho:OpR X (compareOp op) r) (br:Br2 K r f) (ha:QE X K a ta) (hb:QE X K b tb) (hm:behindInMarks op b=false):QE X K (.Compare a [op] [b] pos) (wOp f ta tb):=PE.imp (pe_cmpR ho ha hb hm) (il br)
def wB (t:WE):WT:=fun ρ Q=>t ρ fun _ x=>match x with
 | .bl b=>Q b
 | _=>False
theorem uY (σ:St) (H:Hp) (Qv:Bool->Hp->Prop) (h:tpT K (wB t) σ H Qv):tTest (tpE K t) σ H Qv:=by
 obtain ⟨Hs,ρ,tot,Q,sr,h,fin⟩:=h
 refine ⟨Hs,ρ,tot,_,sr,h,fun v H1 Hs1 m x As g1 r1 f1 q1=>?_⟩
 have r:=r1.rep g1.wf
 cases r with
 | bl b=>exact ⟨b,rfl,fin b H1 Hs1 g1 q1⟩
 | _=>exact q1.elim
theorem pQ (h:tpE K t σ H Q) (i:∀ v H',Q v H'->Q' v H'):tpE K t σ H Q':=by
 obtain ⟨Hs,ρ,tot,Qd,sr,h,fin⟩:=h
 exact ⟨Hs,ρ,tot,Qd,sr,h,fun v H1 Hs1 m x As g1 r1 f1 q1=>i _ _ (fin v H1 Hs1 m x As g1 r1 f1 q1)⟩
theorem aR (ho:OpR X (compareOp op) r) (br:Br2 K r f) (ha:QE X K a ta) (hb:QE X K b tb) (hm:behindInMarks op b=false):QT X K (.Compare a [op] [b] pos) (wB (wOp f ta tb)):=by
 refine PT.imp (pt_cmpR ho ha hb hm) fun σ H Qv h=>?_
 obtain ⟨Hs,ρ,tot,Q,sr,h,fin⟩:=h
 refine il br σ H _ ⟨Hs,ρ,tot,_,sr,h,fun v H1 Hs1 m x As g1 r1 f1 q1=>?_⟩
 have r:=r1.rep g1.wf
 cases r with
 | bl b=>exact ⟨b,rfl,fin b H1 Hs1 g1 q1⟩
 | _=>exact q1.elim
theorem je (h:QE X K a t) (he:∀ whole,isTrue a X.env whole=(do let v <- whole; standAt a.pos; holding [v] (truthy v)):=by intro _; rfl):QT X K a (wB t):=PT.imp (pt_val h he) uY
def jN (f g:W2) (ta tb tc:WE):WE:=fun ρ Q=>ta ρ fun m x=>tb ρ fun n y=>f m x n y fun _ z=>match z with
 | .bl k=>if k=true then tc ρ fun l w=>g n y l w Q else Q .sh (.bl false)
 | _=>False
end
end L2.Q
namespace L2.Q
open PySem PySem.Spec PyProof.Rows
section
variable {X:Cx} {K:PySem.W.Frag} {a b c:Expr} {ta tb tc:WE} {pos:Pos}
theorem qP (br:Br2 K r f) (br':Br2 K r' g) (σ:St) (H:Hp) (Qv:VK) (h:tpE K (jN f g ta tb tc) σ H Qv):tChain r r' (tpE K ta) (tpE K tb) (tpE K tc) σ H Qv:=by
 obtain ⟨Hs,ρ,tot,Q,sr,h,fin⟩:=h
 refine ⟨Hs,ρ,tot,_,sr,h,fun v H1 Hs1 m x As g1 r1 f1 q1=>⟨Hs1,ρ,tot,_,sr.grow g1,q1,fun u H2 Hs2 n y Bs g2 r2 f2 q2=>?_⟩⟩
 refine br Hs2 H2 m x v As n y u Bs _ _ g2.wf (r1.grow g2) r2 q2 fun z H3 Hs3 m3 d3 As3 g3 r3 f3 q3=>?_
 have rr:=r3.rep g3.wf
 cases rr with
 | bl k =>
  refine ⟨k,rfl,?_⟩
  have fin3:Fin K Hs3 H3 Q Qv:=Fin.after fin ((g1.trans g2).trans g3)
  cases k with
  | false=>exact fin3.sh g3.wf (.bl false) q3
  | true =>
   refine ⟨Hs3,ρ,tot,_,((sr.grow g1).grow g2).grow g3,q3,fun w H4 Hs4 l z As4 g4 r4 f4 q4=>?_⟩
   exact br' Hs4 H4 n y u Bs l z w As4 Q Qv g4.wf ((r2.grow g3).grow g4) r4 q4 (Fin.after fin3 g4)
 | _=>exact q3.elim
theorem pO (ho:OpR X (compareOp op) r) (ho':OpR X (compareOp op') r') (br:Br2 K r f) (br':Br2 K r' g) (ha:QE X K a ta) (hb:QE X K b tb) (hc:QE X K c tc)
  (hm:lastMarks [op,op'] [b,c]=false:=by with_unfolding_all rfl):QT X K (.Compare a [op,op'] [b,c] pos) (wB (jN f g ta tb tc)):=by
 refine PT.imp (pt_chain ho ho' ha hb hc hm) fun σ H Qv h=>?_
 obtain ⟨Hs,ρ,tot,Q,sr,h,fin⟩:=h
 refine qP br br' σ H _ ⟨Hs,ρ,tot,_,sr,h,fun v H1 Hs1 m x As g1 r1 f1 q1=>?_⟩
 have r:=r1.rep g1.wf
 cases r with
 | bl b=>exact ⟨b,rfl,fin b H1 Hs1 g1 q1⟩
 | _=>exact q1.elim
def wAnd (t u:WT):WT:=fun ρ Q=>t ρ fun c=>if c=true then u ρ Q else Q false
def wOr (t u:WT):WT:=fun ρ Q=>t ρ fun c=>if c=true then Q true else u ρ Q
def wNot (t:WT):WT:=fun ρ Q=>t ρ fun c=>Q (!c)
variable {tA tB:WT} {rest:List Expr}
theorem lG {t u:WT} {f:Bool->TT} {σ:St} {H:Hp} {Qv:Bool->Hp->Prop} {G:Bool->(Bool->Prop)->Env->Prop}
  (h:tpT K (fun ρ Q=>t ρ fun c=>G c Q ρ) σ H Qv)
  (i:∀ c H1 Hs1 ρ tot Q,SRel K Hs1 ρ σ H1 tot->G c Q ρ->(∀ b H' Hs',Grow Hs1 H1 Hs' H'->Q b->Qv b H')->f c σ H1 Qv):tpT K t σ H fun c H1=>f c σ H1 Qv:=by
 obtain ⟨Hs,ρ,tot,Q,sr,h,fin⟩:=h
 exact ⟨Hs,ρ,tot,_,sr,h,fun c H1 Hs1 g1 q1=>i c H1 Hs1 ρ tot Q (sr.grow g1) q1 fun b H' Hs' g2=>fin b H' Hs' (g1.trans g2)⟩
theorem nO (ha:QT X K a tA):QW X K (.BoolOp .And [a] pos) tA:=pw_and1 ha
theorem pH (ha:QT X K a tA):QW X K (.BoolOp .Or [a] pos) tA:=pw_or1 ha
theorem rD (ha:QT X K a tA) (hb:QW X K (.BoolOp .And (b :: rest) pos) tB):QW X K (.BoolOp .And (a :: b :: rest) pos) (wAnd tA tB):=by
 refine PW.imp (pw_and ha hb) fun σ H Qv h=>?_
 refine lG (u:=tB) (f:=fun c σ H1 Q=>if c=true then tpT K tB σ H1 Q else Q false H1) h fun c H1 Hs1 ρ tot Q sr q fin=>?_
 cases c with
 | true=>exact ⟨Hs1,ρ,tot,Q,sr,q,fin⟩
 | false=>exact fin false H1 Hs1 (Grow.refl sr.wf) q
theorem qC (ha:QT X K a tA) (hb:QW X K (.BoolOp .Or (b :: rest) pos) tB):QW X K (.BoolOp .Or (a :: b :: rest) pos) (wOr tA tB):=by
 refine PW.imp (pw_or ha hb) fun σ H Qv h=>?_
 refine lG (u:=tB) (f:=fun c σ H1 Q=>if c=true then Q true H1 else tpT K tB σ H1 Q) h fun c H1 Hs1 ρ tot Q sr q fin=>?_
 cases c with
 | true=>exact fin true H1 Hs1 (Grow.refl sr.wf) q
 | false=>exact ⟨Hs1,ρ,tot,Q,sr,q,fin⟩
theorem qt_w (h:QW X K a tA):QT X K a tA:=h _
theorem gw (ha:QT X K a tA):QT X K (.UnaryOp .Not a pos) (wNot tA):=by
 refine PT.imp (pt_not ha) fun σ H Qv h=>?_
 exact lG (u:=tA) (f:=fun c σ H1 Q=>Q (!c) H1) h fun c H1 Hs1 ρ tot Q sr q fin=>fin _ H1 Hs1 (Grow.refl sr.wf) q
def nq (ta tb:WE):WE:=fun ρ Q=>ta ρ fun _ x=>match x with
 | .bl c=>if c=true then tb ρ Q else Q .sh (.bl false)
 | _=>False
def wOrV (ta tb:WE):WE:=fun ρ Q=>ta ρ fun _ x=>match x with
 | .bl c=>if c=true then Q .sh (.bl true) else tb ρ Q
 | _=>False
theorem uD {op} (h:QE X K a ta):QE X K (.BoolOp op [a] pos) ta:=pe_one h
theorem vJ (ha:QE X K a ta) (hb:QE X K (.BoolOp .And (b :: rest) pos) tb):QE X K (.BoolOp .And (a :: b :: rest) pos) (nq ta tb):=by
 refine PE.imp (pe_and ha hb) fun σ H Qv hx=>ex4 hx fun Hs ρ tot Q sr h fin=>?_
 refine ⟨Hs,ρ,tot,_,sr,h,fun v H1 Hs1 m x As g1 r1 f1 q1=>?_⟩
 have r:=r1.rep g1.wf
 cases r with
 | bl c =>
  refine ⟨c,rfl,?_⟩
  cases c with
  | true=>exact ⟨Hs1,ρ,tot,Q,sr.grow g1,q1,Fin.after fin g1⟩
  | false=>exact Fin.sh (Fin.after fin g1) g1.wf (.bl false) q1
 | _=>exact q1.elim
theorem q_or (ha:QE X K a ta) (hb:QE X K (.BoolOp .Or (b :: rest) pos) tb):QE X K (.BoolOp .Or (a :: b :: rest) pos) (wOrV ta tb):=by
 refine PE.imp (pe_or ha hb) fun σ H Qv hx=>ex4 hx fun Hs ρ tot Q sr h fin=>?_
 refine ⟨Hs,ρ,tot,_,sr,h,fun v H1 Hs1 m x As g1 r1 f1 q1=>?_⟩
 have r:=r1.rep g1.wf
 cases r with
 | bl c =>
  refine ⟨c,rfl,?_⟩
  cases c with
  | true=>exact Fin.sh (Fin.after fin g1) g1.wf (.bl true) q1
  | false=>exact ⟨Hs1,ρ,tot,Q,sr.grow g1,q1,Fin.after fin g1⟩
 | _=>exact q1.elim
def truD:D->Option Bool
 | .non=>some false
 | .bl b=>some b
 | .int i=>some (i != 0)
 | .str x=>some ((x.length:Int) != 0)
 | .list xs=>some !xs.isEmpty
 | .tup xs=>some !xs.isEmpty
 | .dK kvs=>none
 | .dT kvs=>none
def wTru (t:WE):WT:=fun ρ Q=>t ρ fun _ x=>∃ b,truD x=some b/\Q b
end
def fAdd:W2:=fun m x n y Q=>match x,y with
 | .int i,.int j=>Q .sh (.int (i+j))
 | .str i,.str j=>i.length+j.length<=sizeLine/\Q .sh (.str (i++j))
 | .list xs,.list ys=>xs.length+ys.length<=sizeLine/\((flats xs=true/\flats ys=true/\Q (.ow true) (.list (xs++ys)))\/(m=.sh/\n=.sh/\Q (.ow false) (.list (xs++ys))))
 | .tup xs,.tup ys=>xs≠[]/\xs.length+ys.length<=sizeLine/\flats xs=true/\flats ys=true/\Q .sh (.tup (xs++ys))
 | _,_=>False
def int2 (P:Int->Int->(Md->D->Prop)->Prop):W2:=fun _ x _ y Q=>match x,y with
 | .int i,.int j=>P i j Q
 | _,_=>False
def is2 (P:Int->Int->(Md->D->Prop)->Prop) (S:Str->Str->(Md->D->Prop)->Prop):W2:=fun _ x _ y Q=>match x,y with
 | .int i,.int j=>P i j Q
 | .str i,.str j=>S i j Q
 | _,_=>False
def fSub:W2:=int2 fun i j Q=>Q .sh (.int (i - j))
def fMul:W2:=int2 fun i j Q=>CMul i j/\Q .sh (.int (i * j))
def fDiv:W2:=int2 fun i j Q=>(0<j/\j<1073741824)/\Q .sh (.int (i / j))
def fMod:W2:=int2 fun i j Q=>0<j/\Q .sh (.int (i % j))
def fPow:W2:=int2 fun i j Q=>CPow i j/\Q .sh (.int (i ^ j.toNat))
def fLt:W2:=is2 (fun i j Q=>Q .sh (.bl (decide (i<j)))) fun i j Q=>Q .sh (.bl (ltS i j))
def fLe:W2:=is2 (fun i j Q=>Q .sh (.bl (decide (i<=j)))) fun i j Q=>Q .sh (.bl (!ltS j i))
def fGt:W2:=int2 fun i j Q=>Q .sh (.bl (decide (j<i)))
def fEq:W2:=fun _ x _ y Q=>match x,y with
 | .int i,.int j=>Q .sh (.bl (decide (i=j)))
 | .str i,.str j=>Q .sh (.bl (decide (i=j)))
 | .bl i,.bl j=>Q .sh (.bl (decide (i=j)))
 | _,_=>okD 12 x=true/\okD 12 y=true/\Q .sh (.bl (eqD x y))
def fNe:W2:=fun _ x _ y Q=>match x,y with
 | .int i,.int j=>Q .sh (.bl (!decide (i=j)))
 | .str i,.str j=>Q .sh (.bl (!decide (i=j)))
 | .bl i,.bl j=>Q .sh (.bl (!decide (i=j)))
 | _,_=>okD 12 x=true/\okD 12 y=true/\Q .sh (.bl (!eqD x y))
def D.isN:D->Bool
 | .non=>true
 | _=>false
def fIsN:W2:=fun _ x _ y Q=>match y with
 | .non=>Q .sh (.bl x.isN)
 | _=>False
def yj:W2:=fun _ x _ y Q=>match y with
 | .non=>Q .sh (.bl (!x.isN))
 | _=>False
def eG:D->Bool
 | .non=>true
 | .bl _=>true
 | .int _=>true
 | .str _=>true
 | _=>false
def inD (x:D) (ys:List D):Bool:=ys.any fun y=>eqD y x
def fIn (neg:Bool):W2:=fun _ x _ y Q=>match y with
 | .str j=>match x with
  | .str i=>Q .sh (.bl (if neg then !inS i j else inS i j))
  | _=>False
 | .list ys=>eG x=true/\ys.all eG=true/\Q .sh (.bl (if neg then !inD x ys else inD x ys))
 | .tup ys=>eG x=true/\ys.all eG=true/\Q .sh (.bl (if neg then !inD x ys else inD x ys))
 | .dK kvs=>∃ k,x.key1=some k/\Q .sh (.bl (if neg then !(getG kvs k).isSome else (getG kvs k).isSome))
 | .dT kvs=>match x with
  | .tup xs=>∃ ks,cO xs=some ks/\Q .sh (.bl (if neg then !(getG kvs ks).isSome else (getG kvs ks).isSome))
  | _=>False
 | _=>False
section
variable {K:PySem.W.Frag}
theorem yK (f:Fin K Hs H Qd Qv) (w:Wf Hs H) (h:x.length<=sizeLine) (q:Qd .sh (.str x)):Qv (.str x) H:=f.sh w (.str h) q
theorem bu (i j:Str):(i++j).length=i.length+j.length:=by
 show ((i++j).cps.size)=_
 show (i.cps++j.cps).size=_
 simp [Str.length]
theorem Ak:Br2 K (fun x y H Q=>u_ K x y H Q\/rCatT K x y H Q) fAdd:=by
 intro Hs H m x v As n y u Bs Qd Qv w rx ry h f
 have r1:=rx.rep w
 have r2:=ry.rep w
 unfold fAdd at h
 cases r1 with
 | int i=>cases r2 with
  | int j=>exact .inl (f.sh w (.int _) h)
  | _=>exact h.elim
 | str hi=>cases r2 with
  | str hj=>exact .inl ⟨h.1,yK f w (by rw [bu]; exact h.1) h.2⟩
  | _=>exact h.elim
 | list z1 s1 q1=>cases r2 with
  | list z2 s2 q2 =>
   have l1:=q1.length
   have l2:=q2.length
   have hz:=h.1
   rcases h.2 with ⟨f1,f2,q⟩ | ⟨rfl,rfl,q⟩
   ·refine .inl ⟨_,_,s1,s2,by lia,?_⟩
    exact f.lst w (by rw [xaB]; exact hz) (q1.append q2) (by rw [gq,f1,f2]; rfl) q
   ·obtain ⟨_,rx⟩:=rx
    obtain ⟨_,ry⟩:=ry
    cases rx with
    | list z1' s1' q1'=>cases ry with
     | list z2' s2' q2' =>
      have l1:=q1'.length
      have l2:=q2'.length
      refine .inl ⟨_,_,Same.seq w.sub s1',Same.seq w.sub s2',by lia,?_⟩
      exact f.lstS w (by rw [xaB]; exact hz) (q1'.append q2') q
  | _=>exact h.elim
 | tup t1 s1 q1=>cases r2 with
  | tup t2 s2 q2 =>
   have l1:=q1.length
   have l2:=q2.length
   obtain ⟨hne,hz,f1,f2,q⟩:=h
   refine .inr ⟨_,_,_,_,rfl,rfl,.inl (.inl s1),.inl (.inl s2),?_,by lia,?_⟩
   ·intro e
    subst e
    exact hne (List.length_eq_zero_iff.mp l1)
   ·refine ⟨fun e=>?_,fun _=>f.tup w (by rw [xaB]; exact hz) (q1.append q2) (by rw [gq,f1,f2]; rfl) q⟩
    subst e
    cases q2
    rw [xaD] at q
    exact f.flat w (.tup t1 s1 q1) (by simpa [D.flat] using f1) q
  | _=>exact h.elim
 | _=>exact h.elim
theorem wz {H:Hp} {x y:D} {v u:V} {m n:Md} {P:Int->Int->(Md->D->Prop)->Prop} {S:Str->Str->(Md->D->Prop)->Prop} {Q:Md->D->Prop} {G:Prop} (r1:Rep K H x v) (r2:Rep K H y u) (h:is2 P S m x n y Q) (k:∀ i j,v=.int i->u=.int j->P i j Q->G) (ks:∀ i j,v=.str i->u=.str j->S i j Q->G):G:=by
 cases r1 with
 | int i=>cases r2 with
  | int j=>exact k i j rfl rfl h
  | _=>exact h.elim
 | str hi=>cases r2 with
  | str hj=>exact ks _ _ rfl rfl h
  | _=>exact h.elim
 | _=>exact h.elim
theorem gf {H:Hp} {x y:D} {v u:V} {m n:Md} {P:Int->Int->(Md->D->Prop)->Prop} {Q:Md->D->Prop} {G:Prop} (r1:Rep K H x v) (r2:Rep K H y u) (h:int2 P m x n y Q) (k:∀ i j,v=.int i->u=.int j->P i j Q->G):G:=by
 cases r1 with
 | int i=>cases r2 with
  | int j=>exact k i j rfl rfl h
  | _=>exact h.elim
 | _=>exact h.elim
theorem By:Br2 K zj fSub:=by
 intro Hs H m x v As n y u Bs Qd Qv w rx ry h f
 exact gf (rx.rep w) (ry.rep w) h fun i j e1 e2 q=>by
  subst e1 e2
  exact f.sh w (.int _) q
theorem zV:Br2 K xU fMul:=by
 intro Hs H m x v As n y u Bs Qd Qv w rx ry h f
 exact gf (rx.rep w) (ry.rep w) h fun i j e1 e2 q=>by
  subst e1 e2
  exact ⟨q.1,f.sh w (.int _) q.2⟩
theorem zX:Br2 K yt fDiv:=by
 intro Hs H m x v As n y u Bs Qd Qv w rx ry h f
 exact gf (rx.rep w) (ry.rep w) h fun i j e1 e2 q=>by
  subst e1 e2
  exact ⟨q.1,f.sh w (.int _) q.2⟩
theorem zE:Br2 K yx fMod:=by
 intro Hs H m x v As n y u Bs Qd Qv w rx ry h f
 exact gf (rx.rep w) (ry.rep w) h fun i j e1 e2 q=>by
  subst e1 e2
  exact ⟨q.1,f.sh w (.int _) q.2⟩
theorem zO:Br2 K xF fPow:=by
 intro Hs H m x v As n y u Bs Qd Qv w rx ry h f
 exact gf (rx.rep w) (ry.rep w) h fun i j e1 e2 q=>by
  subst e1 e2
  exact ⟨q.1,f.sh w (.int _) q.2⟩
theorem Dg:Br2 K rGtU fGt:=by
 intro Hs H m x v As n y u Bs Qd Qv w rx ry h f
 exact gf (rx.rep w) (ry.rep w) h fun i j e1 e2 q=>by
  subst e1 e2
  exact f.sh w (.bl _) q
theorem Az:Br2 K rLtU fLt:=by
 intro Hs H m x v As n y u Bs Qd Qv w rx ry h f
 exact wz (rx.rep w) (ry.rep w) h (fun i j e1 e2 q=>by
  subst e1 e2
  exact f.sh w (.bl _) q) fun i j e1 e2 q=>by
  subst e1 e2
  exact f.sh w (.bl _) q
theorem y_:Br2 K rLeU fLe:=by
 intro Hs H m x v As n y u Bs Qd Qv w rx ry h f
 exact wz (rx.rep w) (ry.rep w) h (fun i j e1 e2 q=>by
  subst e1 e2
  exact f.sh w (.bl _) q) fun i j e1 e2 q=>by
  subst e1 e2
  exact f.sh w (.bl _) q
theorem eq_data (w:Wf Hs H) (rx:Rep K H x v) (ry:Rep K H y u) (f:Fin K Hs H Qd Qv) (h:okD 12 x=true/\okD 12 y=true/\Qd .sh (.bl (eqD x y))):rEqD K v u H Qv:=by
 obtain ⟨h1,h2,q⟩:=h
 have l1:=jE 12 x h1
 have l2:=jE 12 y h2
 exact ⟨x.py,y.py,rx.l2 h1,ry.l2 h2,l1.1,l2.1,by lia,f.sh w (.bl _) q⟩
theorem ne_data (w:Wf Hs H) (rx:Rep K H x v) (ry:Rep K H y u) (f:Fin K Hs H Qd Qv) (h:okD 12 x=true/\okD 12 y=true/\Qd .sh (.bl (!eqD x y))):rNeD K v u H Qv:=by
 obtain ⟨h1,h2,q⟩:=h
 have l1:=jE 12 x h1
 have l2:=jE 12 y h2
 exact ⟨x.py,y.py,rx.l2 h1,ry.l2 h2,l1.1,l2.1,by lia,f.sh w (.bl _) q⟩
theorem cW:Br2 K (rEqU K) fEq:=by
 intro Hs H m x v As n y u Bs Qd Qv w rx ry h f
 have r1:=rx.rep w
 have r2:=ry.rep w
 have d:=fun h=>eq_data (Qd:=Qd) (Qv:=Qv) w r1 r2 f h
 cases r1 with
 | int i=>cases r2 with
  | int j=>exact f.sh w (.bl _) h
  | _=>exact d h
 | str i=>cases r2 with
  | str j=>exact f.sh w (.bl _) h
  | _=>exact d h
 | bl i=>cases r2 with
  | bl j=>exact f.sh w (.bl _) h
  | _=>exact d h
 | _=>exact d h
theorem tH:Br2 K (rNeU K) fNe:=by
 intro Hs H m x v As n y u Bs Qd Qv w rx ry h f
 have r1:=rx.rep w
 have r2:=ry.rep w
 have d:=fun h=>ne_data (Qd:=Qd) (Qv:=Qv) w r1 r2 f h
 cases r1 with
 | int i=>cases r2 with
  | int j=>exact f.sh w (.bl _) h
  | _=>exact d h
 | str i=>cases r2 with
  | str j=>exact f.sh w (.bl _) h
  | _=>exact d h
 | bl i=>cases r2 with
  | bl j=>exact f.sh w (.bl _) h
  | _=>exact d h
 | _=>exact d h
theorem uz (r:Rep K H x v):decide (v=V.non)=x.isN:=by
 cases r <;> first | rfl | exact decide_eq_false (fun z=>nomatch z)
theorem zW:Br2 K (fun x y H Q=>y=.non/\Q (.bl (decide (x=.non))) H) fIsN:=by
 intro Hs H m x v As n y u Bs Qd Qv w rx ry h f
 have r1:=rx.rep w
 have r2:=ry.rep w
 have e:=uz r1
 cases r2 with
 | non=>exact ⟨rfl,by rw [e]; exact f.sh w (.bl _) h⟩
 | _=>exact h.elim
theorem wZ:Br2 K (fun x y H Q=>y=.non/\Q (.bl (!decide (x=.non))) H) yj:=by
 intro Hs H m x v As n y u Bs Qd Qv w rx ry h f
 have r1:=rx.rep w
 have r2:=ry.rep w
 have e:=uz r1
 cases r2 with
 | non=>exact ⟨rfl,by rw [e]; exact f.sh w (.bl _) h⟩
 | _=>exact h.elim
theorem iR (r:Rep K H x v) (h:eG x=true):flatV v=true:=by
 cases r <;> first | rfl | (simp [eG] at h)
theorem ym (r:Rep K H x v) (s:Rep K H y u) (h:eG x=true) (g:eG y=true):eqV v u=eqD x y:=by
 cases r <;> simp [eG] at h <;> cases s <;> simp [eG] at g <;> rfl
theorem zR (r:Rep K H x v) (h:eG x=true) (rs:Reps K H ys us) (g:ys.all eG=true):us.all flatV=true/\inV v us=inD x ys:=by
 induction ys generalizing us with
 | nil=>rw [rs.n0]; exact ⟨rfl,rfl⟩
 | cons y ys ih =>
  obtain ⟨u,us,rfl,s,ss⟩:=rs.c
  simp only [xbl,xaz] at g
  obtain ⟨e1,e2⟩:=ih ss g.2
  refine ⟨by simp only [xbl,iR s g.1,e1,Bool.and_self],?_⟩
  unfold inV inD at *
  rw [xba,xba,e2,ym s r g.1 h]
theorem mR {κ:Type} [DecidableEq κ] {H:Hp} {k:κ} {kvs:List (κ × D)} {vs:List V} (r:Reps K H (kvs.map (·.2)) vs):(valV ((kvs.map (·.1)).zip vs) k).isSome=(getG kvs k).isSome:=by
 have:=zip_get (k:=k) r
 split at this
 ·rename_i e
  obtain ⟨v,e1,_⟩:=this
  rw [e1,e]; rfl
 ·rename_i e
  rw [this,e]; rfl
theorem qm:Br2 K (rInU K neg) (fIn neg):=by
 intro Hs H m x v As n y u Bs Qd Qv w rx ry h f
 have r1:=rx.rep w
 have r2:=ry.rep w
 cases r2 with
 | str j=>cases r1 with
  | str i=>exact f.sh w (.bl _) h
  | _=>exact h.elim
 | list z s q =>
  obtain ⟨h1,h2,h3⟩:=h
  obtain ⟨e1,e2⟩:=zR r1 h1 q h2
  have h4:=iR r1 h1
  have g:rIn K neg v (.ref _) H Qv:=⟨_,_,rfl,.inl s,h4,e1,by rw [e2]; exact f.sh w (.bl _) h3⟩
  cases r1 <;> exact .inr g
 | tup _ s q =>
  obtain ⟨h1,h2,h3⟩:=h
  obtain ⟨e1,e2⟩:=zR r1 h1 q h2
  have h4:=iR r1 h1
  have g:rIn K neg v (.ref _) H Qv:=⟨_,_,rfl,.inr (.inl (.inl s)),h4,e1,by rw [e2]; exact f.sh w (.bl _) h3⟩
  cases r1 <;> exact .inr g
 | dK kk e q =>
  obtain ⟨k,hk,h3⟩:=h
  have ev:=r1.key hk
  subst ev
  have eg:=mR (k:=k) q
  cases k <;> exact .inl ⟨_,DGet.k' e,by rw [eg]; exact f.sh w (.bl _) h3⟩
 | dT kk e q =>
  cases r1 with
  | tup t1 e1 q1 =>
   obtain ⟨ks,hk,h3⟩:=h
   obtain ⟨b,eb,e2⟩:=Rep.keyT (.tup t1 e1 q1) hk
   cases eb
   have eg:=mR (k:=ks) q
   exact .inl ⟨_,DGet.t' e e2,by rw [eg]; exact f.sh w (.bl _) h3⟩
  | _=>exact h.elim
 | _=>exact h.elim
end
section
variable {X:Cx} {K:PySem.W.Frag} {a b:Expr} {ta tb:WE} {pos:Pos}
theorem Ci (hK:X.K=K:=by rfl):OpR X (binaryOp .Add) (fun x y H Q=>u_ K x y H Q\/rCatT K x y H Q):=by subst hK; exact yM.or op_catT
theorem cM (ha:QE X K a ta) (hb:QE X K b tb) (hK:X.K=K:=by rfl):QE X K (.BinOp a .Add b pos) (wOp fAdd ta tb):=q_op (Ci hK) Ak ha hb
theorem xX (ha:QE X K a ta) (hb:QE X K b tb):QE X K (.BinOp a .Sub b pos) (wOp fSub ta tb):=q_op zc By ha hb
theorem xG (ha:QE X K a ta) (hb:QE X K b tb):QE X K (.BinOp a .Mult b pos) (wOp fMul ta tb):=q_op xq zV ha hb
theorem dM (ha:QE X K a ta) (hb:QE X K b tb):QE X K (.BinOp a .FloorDiv b pos) (wOp fDiv ta tb):=q_op xn zX ha hb
theorem b7 (ha:QE X K a ta) (hb:QE X K b tb):QE X K (.BinOp a .Mod b pos) (wOp fMod ta tb):=q_op xM zE ha hb
theorem Ae (ha:QE X K a ta) (hb:QE X K b tb):QE X K (.BinOp a .Pow b pos) (wOp fPow ta tb):=q_op yG zO ha hb
def fNeg:W1:=fun _ x Q=>match x with
 | .int i=>Q .sh (.int (-i))
 | _=>False
theorem Ar:Br1 K (rU fun i=>.int (-i)) fNeg:=by
 intro Hs H m x v As Qd Qv w rx h f
 have r1:=rx.rep w
 cases r1 with
 | int i=>exact ⟨i,rfl,f.sh w (.int _) h⟩
 | _=>exact h.elim
theorem Bk (ha:QE X K a ta):QE X K (.UnaryOp .USub a pos) (wUn fNeg ta):=q_un un_neg Ar ha
end
def wNil:WA:=fun _ Q=>Q []
def ak (te:WE) (t:WA):WA:=fun ρ Q=>te ρ fun m x=>t ρ fun ps=>Q ((m,x) :: ps)
def okSh:Md × D->Bool
 | (.sh,_)=>true
 | (_,d)=>d.flat
def okOw:Md × D->Bool
 | (.bo,d)=>d.flat
 | _=>true
def okFl:Md × D->Bool
 | (.ow true,_)=>true
 | (_,d)=>d.flat
def nM (ps:List (Md × D)):Md:=bif ps.all okSh then .sh else bif ps.all okOw then .ow (ps.all okFl) else .bo
def zm (ps:List (Md × D)):Md:=bif ps.all okOw then .ow (ps.all okFl) else .bo
def wTup (t:WA):WE:=fun ρ Q=>t ρ fun ps=>ps.length<=sizeLine/\Q (nM ps) (.tup (ps.map (·.2)))
def wLst (t:WA):WE:=fun ρ Q=>t ρ fun ps=>ps.length<=sizeLine/\Q (zm ps) (.list (ps.map (·.2)))
section
variable {X:Cx} {K:PySem.W.Frag} {e:Expr} {es:List Expr} {te:WE} {t:WA} {pos:Pos} {Hs H:Hp}
theorem az:QA X K [] wNil:=PA.imp pa_nil fun σ H Qv hx=>ex4 hx fun Hs ρ tot Q sr h f=>f [] H Hs [] [] (Grow.refl sr.wf) .nil bZ.nil h
theorem bZ.app (f1:bZ Hs1 H As) (o:∀ a∈As,H1 a≠none) (f2:bZ Hs2 H1 Bs) (s:Same H H1) (k:∀ a,Hs1 a=none->H1 a≠none->Hs2 a=none):bZ Hs2 H (As++Bs) :=
 ⟨xak.mpr ⟨f1.1,f2.1,fun a ha b hb e=>by subst e; exact o a ha (f2.2 a hb).2⟩,fun a h=>by
  rcases xag.mp h with h | h
  ·exact ⟨k a (f1.2 a h).1 (o a h),(f1.2 a h).2⟩
  ·exact ⟨(f2.2 a h).1,s.free (f2.2 a h).2⟩⟩
theorem aa (ha:QE X K e te) (hr:QA X K es t) (hs:starEach (e :: es) X.env=(false,eval e X.env) :: starEach es X.env:=by rfl):QA X K (e :: es) (ak te t):=by
 refine PA.imp (pa_cons ha hr hs) fun σ H Qv hx=>ex4 hx fun Hs ρ tot Q sr h f=>?_
 refine ⟨Hs,ρ,tot,_,sr,h,fun v H1 Hs1 m x As g1 r1 f1 q1=>⟨Hs1,ρ,tot,_,sr.grow g1,q1,fun vs H2 Hs2 ps Bs g2 r2 f2 q2=>?_⟩⟩
 exact f (v :: vs) H2 Hs2 _ _ (g1.trans g2) (.cons (r1.grow g2) r2) (f1.app (fun a h=>(r1.own a h).ne) f2 g1.all fun a h1 h2=>g2.hsn h1 h2) q2
theorem RMs.sh (w:Wf Hs H) {ps:List (Md × D)} (r:RMs K Hs H ps vs As):ps.all okSh=true->Reps K Hs (ps.map (·.2)) vs:=by
 induction r with
 | nil=>exact fun _=>.nil
 | @cons m d v ps vs As Bs r rs ih =>
  intro h
  simp only [xbl,xaz] at h
  refine .cons ?_ (ih h.2)
  cases m with
  | sh=>exact r.2
  | ow fl=>exact r.flat w h.1
  | bo=>exact r.flat w h.1
theorem RMs.ow (w:Wf Hs H) {ps:List (Md × D)} (r:RMs K Hs H ps vs As):ps.all okOw=true->(fl=true->ps.all okFl=true)->∃ Bs,Bs.Sublist As/\(ps.all okSh=false->Bs≠[])/\aq K Hs H fl (ps.map (·.2)) vs Bs:=by
 induction r with
 | nil=>exact fun _ _=>⟨[],xa2 _,(fun z=>Bool.noConfusion z),.nil⟩
 | @cons m d v ps vs A1 Cs r rs ih =>
  intro h hf
  simp only [xbl,xaz] at h hf
  obtain ⟨Bs,sb,ne,q⟩:=ih h.2 fun z=>(hf z).2
  have sk:([]++Bs).Sublist (A1++Cs):=by simpa using sb.trans (xau _ _)
  have flt:d.flat=true->okSh (m,d)=true->∃ Bs,Bs.Sublist (A1++Cs)/\(((m,d) :: ps).all okSh=false->Bs≠[])/\aq K Hs H fl (((m,d) :: ps).map (·.2)) (v :: vs) Bs:=fun hd ho =>
   ⟨[]++Bs,sk,fun z=>ne (by rw [xbl,ho] at z; simpa using z),.cons (.sh (fun _=>hd) (r.flat w hd)) q⟩
  cases m with
  | sh=>exact ⟨[]++Bs,sk,fun z=>ne (by simpa [okSh] using z),.cons (.sh (fun z=>(hf z).1) r.2) q⟩
  | bo=>exact flt h.1 h.1
  | ow b =>
   cases hd:d.flat with
   | true=>exact flt hd hd
   | false =>
    refine ⟨A1++Bs,sb.append_left _,fun _ z=>r.2 (xbd.mp z).1,.cons ?_ q⟩
    cases fl with
    | false=>exact RepO.fls r.1
    | true =>
     have:=(hf rfl).1
     cases b with
     | true=>exact r.1
     | false=>simp [okFl,hd] at this
theorem jV:∀ {ps:List (Md × D)},flats (ps.map (·.2))=true->ps.all okSh=true
 | [],_=>rfl
 | (m,d) :: ps,h=>by
  simp only [xat,flats,xaz] at h
  simp only [xbl,xaz]
  exact ⟨by cases m <;> simp [okSh,h.1],jV h.2⟩
theorem dU {x1} (h:QA X K es t):QE X K (.Tuple es x1 pos) (wTup t):=by
 refine PE.imp (pe_tup h) fun σ H Qv hx=>ex4 hx fun Hs ρ tot Q sr h f=>?_
 refine ⟨Hs,ρ,tot,_,sr,h,fun vs H1 Hs1 ps As g1 r1 f1 q1=>?_⟩
 obtain ⟨hz,q⟩:=q1
 have rl:=(r1.reps g1.wf)
 have hl:=rl.length
 rw [xab] at hl
 refine ⟨by lia,fun p hp=>?_⟩
 have g2:=newT (vs:=vs) g1.wf hp
 have fin:=Fin.after f g1
 unfold nM at q
 cases h1:ps.all okSh with
 | true =>
  rw [h1] at q
  exact fin _ _ _ .sh _ [] g2 ⟨rfl,.tup (by lia) upd_same ((r1.sh g1.wf h1).same g2.sh)⟩ bZ.nil q
 | false =>
  rw [h1] at q
  cases h2:ps.all okOw with
  | false =>
   rw [h2] at q
   exact fin _ _ _ .bo _ [] g2 ⟨rfl,.tup (by lia) upd_same (rl.same g2.all)⟩ bZ.nil q
  | true =>
   rw [h2] at q
   obtain ⟨Bs,sb,nz,ro⟩:=r1.ow (fl:=ps.all okFl) g1.wf h2 fun z=>z
   have hne:flats (ps.map (·.2))=false:=by
    cases hf:flats (ps.map (·.2)) with
    | false=>rfl
    | true=>rw [jV hf] at h1; cases h1
   have own:=ro.own
   refine f _ _ _ (.ow _) _ Bs (g1.trans g2) ⟨.tup (by lia) upd_same hne (ro.grow g2.sh g2.all),nz h1⟩ ⟨sb.nodup f1.1,fun a ha=>⟨?_,(f1.2 a (sb.subset ha)).2⟩⟩ q
   exact g2.hsn (f1.2 a (sb.subset ha)).1 (own a ha).ne
theorem dH (h:QA X K es t):QE X K (.List es pos) (wLst t):=by
 refine PE.imp (pe_lst h) fun σ H Qv hx=>ex4 hx fun Hs ρ tot Q sr h f=>?_
 refine ⟨Hs,ρ,tot,_,sr,h,fun vs H1 Hs1 ps As g1 r1 f1 q1=>?_⟩
 obtain ⟨hz,q⟩:=q1
 have rl:=(r1.reps g1.wf)
 have hl:=rl.length
 rw [xab] at hl
 refine ⟨by lia,fun p hp=>?_⟩
 have g2:=newL (o:=.lst vs) g1.wf hp fun _ z=>nomatch z
 have fin:=Fin.after f g1
 unfold zm at q
 cases h2:ps.all okOw with
 | false =>
  rw [h2] at q
  exact fin _ _ _ .bo _ [] g2 ⟨rfl,.list (by lia) (.inl (.inl upd_same)) (rl.same g2.all)⟩ bZ.nil q
 | true =>
  rw [h2] at q
  obtain ⟨Bs,sb,nz,ro⟩:=r1.ow (fl:=ps.all okFl) g1.wf h2 fun z=>z
  have own:=ro.own
  refine f _ _ _ (.ow _) _ (p :: Bs) (g1.trans g2) ⟨.list (by lia) upd_same (ro.grow g2.sh g2.all),by simp⟩ ⟨xax.mpr ⟨fun m=>(own p m).ne hp,sb.nodup f1.1⟩,fun a ha=>?_⟩ q
  rcases xam.mp ha with rfl | ha
  ·exact ⟨g1.wf.sub.free hp,g1.all.free hp⟩
  ·exact ⟨g2.hsn (f1.2 a (sb.subset ha)).1 (own a ha).ne,(f1.2 a (sb.subset ha)).2⟩
end
theorem Reps.atI {K:PySem.W.Frag} (r:Reps K H ds vs) (h:atI ds i=some d):∃ v,L2.atI vs i=some v/\Rep K H d v:=by
 unfold L2.atI at *
 rw [<- r.length]
 cases e:ixN ds.length i with
 | none=>rw [e] at h; cases h
 | some j =>
  rw [e] at h
  exact r.get h
def fIx:W2:=fun m x _ y Q=>match x with
 | .list xs=>match y with
  | .int i=>∃ d,atI xs i=some d/\onK d (f:=fun d=>Q (itm m d) d) ⟨⟩
  | _=>False
 | .tup xs=>match y with
  | .int i=>∃ d,atI xs i=some d/\onK d (f:=fun d=>Q (itm m d) d) ⟨⟩
  | _=>False
 | .str z=>match y with
  | .int i=>∃ c,atI z.cps.toList i=some c/\Q .sh (.str ⟨#[c]⟩)
  | _=>False
 | .dK kvs=>∃ k d,y.key1=some k/\getG kvs k=some d/\onK d (f:=fun d=>Q (itm m d) d) ⟨⟩
 | .dT kvs=>match y with
  | .tup ys=>∃ ks d,cO ys=some ks/\getG kvs ks=some d/\onK d (f:=fun d=>Q (itm m d) d) ⟨⟩
  | _=>False
 | _=>False
def rIxD (K:PySem.W.Frag):R2:=fun x y H Q=>rIxU K x y H Q\/∃ a v,x=.ref a/\DGet H a y (some v)/\Q v H
theorem tZ (c:Nat):(⟨#[c]⟩:Str).length<=sizeLine:=by show 1<=sizeLine; decide
theorem RM.here {K:PySem.W.Frag} (w:Wf Hs H) (r:RM K Hs H m d v As):(m=.sh/\Rep K Hs d v)\/(m≠.sh/\Rep K H d v):=by
 cases m with
 | sh=>exact .inl ⟨rfl,r.2⟩
 | ow fl=>exact .inr ⟨(fun z=>nomatch z),r.rep w⟩
 | bo=>exact .inr ⟨(fun z=>nomatch z),r.2⟩
section
variable {X:Cx} {K:PySem.W.Frag}
theorem Cd:Br2 K (rIxD K) fIx:=by
 intro Hs H m x v As n y u Bs Qd Qv w rx ry h f
 have r2:=ry.rep w
 have core:∀ G:Hp,Same G H->(∀ d v,Rep K G d v->Rep K H d v/\(m=.sh->Rep K Hs d v))->Rep K G x v->rIxD K v u H Qv:=by
  intro G sg up r1
  cases r1 with
  | list z s q =>
   cases r2 with
   | int i =>
    obtain ⟨d,e,h⟩:=h
    obtain ⟨v',e',r'⟩:=q.atI e
    obtain ⟨u1,u2⟩:=up _ _ r'
    exact .inl (.inl ⟨_,v',Same.seq sg s,e',f.itm w u1 u2 h⟩)
   | _=>exact h.elim
  | tup _ s q =>
   cases r2 with
   | int i =>
    obtain ⟨d,e,h⟩:=h
    obtain ⟨v',e',r'⟩:=q.atI e
    obtain ⟨u1,u2⟩:=up _ _ r'
    exact .inl (.inr ⟨_,v',.inl (.inl (sg _ _ s)),e',f.itm w u1 u2 h⟩)
   | _=>exact h.elim
  | str hz =>
   cases r2 with
   | int i =>
    obtain ⟨c,e,h⟩:=h
    exact .inl ⟨hz,c,e,f.sh w (.str (tZ c)) h⟩
   | _=>exact h.elim
  | dK kk s q =>
   obtain ⟨k,d,hk,hg,h⟩:=h
   have ev:=r2.key hk
   subst ev
   have z:=zip_get (k:=k) q
   rw [hg] at z
   obtain ⟨v',e',r'⟩:=z
   obtain ⟨u1,u2⟩:=up _ _ r'
   exact .inr ⟨_,v',rfl,by rw [<- e']; exact DGet.k' (Same.rd sg s),f.itm w u1 u2 h⟩
  | dT kk s q =>
   cases r2 with
   | tup t2 e2 q2 =>
    obtain ⟨ks,d,hk,hg,h⟩:=h
    obtain ⟨b,eb,e3⟩:=Rep.keyT (.tup t2 e2 q2) hk
    cases eb
    have z:=zip_get (k:=ks) q
    rw [hg] at z
    obtain ⟨v',e',r'⟩:=z
    obtain ⟨u1,u2⟩:=up _ _ r'
    exact .inr ⟨_,v',rfl,by rw [<- e']; exact DGet.t' (Same.rd sg s) e3,f.itm w u1 u2 h⟩
   | _=>exact h.elim
  | _=>exact h.elim
 rcases rx.here w with ⟨hm,r⟩ | ⟨hm,r⟩
 ·exact core Hs w.sub (fun d v q=>And.intro (q.same w.sub) fun _=>q) r
 ·exact core H (Same.refl H) (fun d v q=>And.intro q fun z=>absurd z hm) r
theorem kIxD (hu:X.A.units+64<cLine) (hK:X.K=K:=by rfl):IxR X (rIxD K):=by
 subst hK
 refine IxR.or zZ ?_
 intro value slice pins s σ H x y v u Q I rx ry h hs
 obtain ⟨a,w,rfl,g,q⟩:=h
 cases rx
 exact tail_any (dict_typeIs I g) F.slot_dict_getitem.lookup (d_getItem (by lia) I g ry fun w' s3 I3 rw'=>⟨w,H,I3,rw',q⟩) hs
variable {a b:Expr} {ta tb:WE} {pos:Pos}
theorem q_ix (hu:X.A.units+64<cLine) (ha:QE X K a ta) (hb:QE X K b tb) (hs:PlainIx b:=by exact fun _ _=>rfl) (hK:X.K=K:=by rfl):QE X K (.Subscript a b pos) (wOp fIx ta tb):=PE.imp (pe_ix (kIxD hu hK) ha hb hs) (il Cd)
end
def cutG {α:Type} (xs:List α) (lo hi:Option Int):List α:=(xs.drop (HT.sIx xs.length 0 lo)).take (HT.sIx xs.length xs.length hi - HT.sIx xs.length 0 lo)
abbrev WO:=Env->(Option Int->Prop)->Prop
def gZ:WO:=fun _ Q=>Q none
def lQ (t:WE):WO:=fun ρ Q=>t ρ fun _ x=>match x with
 | .int i=>Q (some i)
 | _=>False
def fSl (m:Md) (x:D) (lo hi:Option Int) (Q:Md->D->Prop):Prop:=match x with
 | .str z=>Q .sh (.str (cutS z lo hi))
 | .list xs=>(flats xs=true/\Q (.ow true) (.list (cutG xs lo hi)))\/(m=.sh/\Q (.ow false) (.list (cutG xs lo hi)))
 | .tup xs=>flats xs=true/\¬ (HT.sIx xs.length 0 lo=0/\HT.sIx xs.length xs.length hi=xs.length)/\Q .sh (.tup (cutG xs lo hi))
 | _=>False
def wSl (te:WE) (tl th:WO):WE:=fun ρ Q=>te ρ fun m x=>tl ρ fun lo=>th ρ fun hi=>fSl m x lo hi Q
def tpO (K:PySem.W.Frag) (t:WO):TO:=fun σ H Qv=>∃ Hs ρ tot Q,SRel K Hs ρ σ H tot/\t ρ Q/\∀ o H' Hs',Grow Hs H Hs' H'->Q o->Qv o H'
abbrev QO (X:Cx) (K:PySem.W.Frag) (e:Option Expr) (t:WO):Prop:=PO X e (tpO K t)
theorem oN (z:Str) (lo hi:Option Int):(cutS z lo hi).length<=z.length:=by
 unfold cutS Str.length
 simp only [xal,xaG,xbc,xaI]
 lia
theorem gW {α:Type} (xs:List α) (lo hi:Option Int):(cutG xs lo hi).length<=xs.length:=by
 unfold cutG
 rw [xaG,xbc]
 lia
theorem m5 {lo hi:Option Int} (h:flats xs=true):flats (cutG xs lo hi)=true:=by
 rw [jk] at *
 intro x hx
 exact h x (xb4 (xbz hx))
section
variable {X:Cx} {K:PySem.W.Frag} {e:Expr} {lo hi:Option Expr} {te:WE} {tl th:WO} {pos p2:Pos}
theorem nP:QO X K none gZ:=fun pins s σ H Q I h=>po_none pins s σ H Q I (by
 obtain ⟨Hs,ρ,tot,Qd,sr,h,f⟩:=h
 exact f none H Hs (Grow.refl sr.wf) h)
theorem jg (h:QE X K e te):QO X K (some e) (lQ te):=fun pins s σ H Q I hh=>po_some h pins s σ H Q I (by
 obtain ⟨Hs,ρ,tot,Qd,sr,h,f⟩:=hh
 refine ⟨Hs,ρ,tot,_,sr,h,fun v H1 Hs1 m x As g1 r1 f1 q1=>?_⟩
 have r:=r1.rep g1.wf
 cases r with
 | int i=>exact ⟨i,rfl,f _ H1 Hs1 g1 q1⟩
 | _=>exact q1.elim)
theorem iB {lo hi:Option Int} (r:Reps K H ds vs):Reps K H (cutG ds lo hi) (cutV vs lo hi):=by
 unfold cutG cutV
 rw [r.length]
 exact (r.drop _).take _
theorem kSl2 (hK:X.K=K:=by rfl):SlR X (fun x lo hi H Q=>rSlS K x lo hi H Q\/rSlT K x lo hi H Q):=by
 subst hK
 intro pins s σ H x v vl vu lo hi sl Q I rx hs pl pu h
 rcases h with h | h
 ·exact Bx pins s σ H x v vl vu lo hi sl Q I rx hs pl pu h
 ·exact sl_tup pins s σ H x v vl vu lo hi sl Q I rx hs pl pu h
theorem kZ (he:QE X K e te) (hl:QO X K lo tl) (hh:QO X K hi th) (hK:X.K=K:=by rfl):QE X K (.Subscript e (.Slice lo hi none p2) pos) (wSl te tl th):=by
 refine PE.imp (pe_slice (kSl2 hK) he hl hh) fun σ H Qv hx=>ex4 hx fun Hs ρ tot Q sr h f=>?_
 refine ⟨Hs,ρ,tot,_,sr,h,fun v H1 Hs1 m x As g1 r1 f1 q1=>⟨Hs1,ρ,tot,_,sr.grow g1,q1,fun l H2 Hs2 g2 q2=>⟨Hs2,ρ,tot,_,(sr.grow g1).grow g2,q2,fun u H3 Hs3 g3 q3=>?_⟩⟩⟩
 have r3:=(r1.grow g2).grow g3
 have fin:Fin K Hs3 H3 Q Qv:=Fin.after f ((g1.trans g2).trans g3)
 have rr:=r3.rep g3.wf
 cases rr with
 | str hz=>exact .inl ⟨hz,fin.sh g3.wf (.str (xaA (oN _ _ _) hz)) q3⟩
 | list z s q =>
  have hz:=q.length
  rcases q3 with ⟨hf,q3⟩ | ⟨rfl,q3⟩
  ·exact .inl ⟨_,s,fin.lst g3.wf (xaA (gW _ _ _) (by lia)) (iB q) (m5 hf) q3⟩
  ·obtain ⟨_,r3⟩:=r3
   cases r3 with
   | list z' s' q' =>
    have hz:=q'.length
    exact .inl ⟨_,Same.seq g3.wf.sub s',fin.lstS g3.wf (xaA (gW _ _ _) (by lia)) (iB q') q3⟩
 | tup z s q =>
  have hz:=q.length
  obtain ⟨hf,hn,q3⟩:=q3
  exact .inr ⟨_,_,rfl,.inl (.inl s),by rw [<- hz]; exact hn,fin.tup g3.wf (xaA (gW _ _ _) (by lia)) (iB q) (m5 hf) q3⟩
 | _=>exact q3.elim
end
def fLen:W1:=fun _ x Q=>match x with
 | .str z=>Q .sh (.int z.length)
 | .list xs=>Q .sh (.int xs.length)
 | .tup xs=>Q .sh (.int xs.length)
 | .dK kvs=>Q .sh (.int kvs.length)
 | .dT kvs=>Q .sh (.int kvs.length)
 | _=>False
def fIsi (T:String):W1:=fun _ x Q=>Q .sh (.bl (isiT x.ty T))
def BrC (K:PySem.W.Frag) (r:List V->Hp->VK->Prop) (f:W1):Prop:=∀ Hs H m x v As Qd Qv,Wf Hs H->RM K Hs H m x v As->f m x Qd->Fin K Hs H Qd Qv->r [v] H Qv
section
variable {X:Cx} {K:PySem.W.Frag} {e:Expr} {te:WE} {pos p:Pos} {x:Str} {id T:String}
theorem jK (br:BrC K r f) (σ:St) (H:Hp) (Qv:VK) (h:tpE K (wUn f te) σ H Qv):tCB r (tCons (tpE K te) tNil) σ H Qv:=by
 obtain ⟨Hs,ρ,tot,Q,sr,h,fin⟩:=h
 exact ⟨Hs,ρ,tot,_,sr,h,fun v H1 Hs1 m x As g1 r1 f1 q1=>br Hs1 H1 m x v As Q Qv g1.wf r1 q1 (Fin.after fin g1)⟩
theorem dg (hc:CallR X (.builtin id) r) (br:BrC K r f) (hg:Gl X x) (hm:X.mg x=none) (hv:bootBuiltins x=some (.builtin id)) (he:QE X K e te)
  (hs:starEach [e] X.env=(false,eval e X.env) :: starEach [] X.env:=by rfl) (hn:x ≠ "__name__" := by decide) (hdb:(x == ("__debug__" : Str))=false:=by decide):QE X K (.Call (.Name x p) [e] [] pos) (wUn f te) :=
 PE.imp (pe_callB hc hg hm hv (pa_cons he pa_nil hs) hn hdb hs) (jK br)
theorem qj (hc:CallR X (.type T) r) (br:BrC K r f) (hg:Gl X x) (hm:X.mg x=none) (hv:bootBuiltins x=some (.type T)) (he:QE X K e te)
  (hs:starEach [e] X.env=(false,eval e X.env) :: starEach [] X.env:=by rfl) (hn:x ≠ "__name__" := by decide) (hdb:(x == ("__debug__" : Str))=false:=by decide):QE X K (.Call (.Name x p) [e] [] pos) (wUn f te) :=
 PE.imp (pe_callTy hc hg hm hv (pa_cons he pa_nil hs) hn hdb hs) (jK br)
theorem yO (hd:(d == sysModules)=false) (x:RawD s.heap d es ep) (hfit:(es.size:Int)<2 ^ 63)
  (h:∀ t t',Q (.int es.size t) { s with toks:=t' }):wpAny (model prog w) A (call (.builtin "len") [.ref d]) Q E s:=by
 refine Calls.call_function_entry kind_len plain_len entry_len (args_len1 _) ?_
 have mt:MeetsIn prog w (Builtin.«dict.__len__» ⟨[.ref d],[]⟩) (fun _ R s=>RawD s.heap d es ep/\R (.ok (.ret (.int es.size s.toks))) { s with toks:=s.toks+1 }):=.of_wp fun A R s hx9=>by
  obtain ⟨hm,h⟩:=hx9
  obtain ⟨o,ho,hc,hdat⟩:=hm
  show wpAny _ _ (dictSize d >>= _) _ _ s
  unfold dictSize
  refine xaa (xaa (wpAny_dictEntries ho hdat (xah ?_)))
  show wpAny _ _ (Builtin.Dict.pendingCount d >>= _) _ _ s
  refine xaa (wpAny_pendingCount_other hd ?_)
  refine wpAny_ret_mkInt ?_
  rw [Nat.add_zero]; exact h
 unfold Builtin.«len»
 refine xaa (m:=oneArg "len" _) (xah ?_)
 refine xaa (m:=callSpecial? (.ref d) (Str.ofString "__len__")) (wpAny_callSpecial?_slot (name:=Str.ofString "__len__") x.typ F.slot_dict_len
  (call_meetsIn F.slot_dict_len x.typ F.entry_dict_len (F.args_dict_len_1 _) mt ⟨x,?_⟩))
 show wpAny _ _ _ _ _ { s with toks:=s.toks+1 }
 refine xaa (wpAny_holding (xah ?_))
 refine xaa (wpAny_letGo ?_)
 show wpAny _ _ (if ((es.size:Nat):Int)<0 then _ else _) _ _ _
 rw [if_neg (by lia)]
 show wpAny _ _ (if ((es.size:Nat):Int) >= 2 ^ 63 then _ else _) _ _ _
 rw [if_neg (by lia)]
 exact xaa (wpAny_mkInt (xah ⟨_,rfl,h _ _⟩))
theorem bU (hK:X.K=K:=by rfl):CallR X (.builtin "len") (fun xs H Q=>rLen K xs H Q\/∃ a kvs,xs=[.ref a]/\Rd H a (.dT kvs)/\Q (.int kvs.length) H):=by
 subst hK
 intro pins s σ H xs us Q I r h
 rcases h with h | ⟨a,kvs,rfl,ha,q⟩
 ·exact rQ pins s σ H xs us Q I r h
 ·obtain ⟨u,rfl,ru⟩:=Vals.one r
  cases ru
  obtain ⟨z,hd,ys,rel,o,es,ep,h1,h2,h3,h4,h5⟩:=(show ObjOk X.prog X.w H s.heap a (.dT kvs) from I.rd ha)
  have hl:es.size=kvs.length:=by
   have:=congrArg List.length h4
   rw [xaI,xab] at this
   rw [this]; exact rel.length.symm
  exact yO hd ⟨o,h1,h2,h3⟩ (by rw [sizeLine_eq] at z; lia) fun t t'=>⟨.int kvs.length,H,I.tok _,⟨t,by rw [hl]⟩,q⟩
theorem ig:BrC K (fun xs H Q=>rLen K xs H Q\/∃ a kvs,xs=[.ref a]/\Rd H a (.dT kvs)/\Q (.int kvs.length) H) fLen:=by
 intro Hs H m x v As Qd Qv w rx h f
 have r1:=rx.rep w
 cases r1 with
 | str hz=>exact .inl ⟨hz,f.sh w (.int _) h⟩
 | list z s q=>exact .inl (.inl ⟨_,s,by rw [<- q.length]; exact f.sh w (.int _) h⟩)
 | tup _ s q=>exact .inl (.inr (.inl ⟨_,.inl (.inl s),by rw [<- q.length]; exact f.sh w (.int _) h⟩))
 | dK kk s q=>exact .inl (.inr (.inr ⟨_,s,by
   have:=q.length
   rw [xab] at this
   rw [xbu,xab,<- this,xbL]
   exact f.sh w (.int _) h⟩))
 | dT kk s q=>exact .inr ⟨_,_,rfl,s,by
   have:=q.length
   rw [xab] at this
   rw [xbu,xab,<- this,xbL]
   exact f.sh w (.int _) h⟩
 | _=>exact h.elim
end
section
variable {X:Cx} {K:PySem.W.Frag} {e e2:Expr} {te:WE} {pos p:Pos} {T:String}
theorem sU (hK:X.K=K:=by rfl):CallR X (.builtin "isinstance") (fun xs H Q=>∃ x d T,xs=[x,.ty T]/\Rep K H d x/\okTy T=true/\Q (.bl (isiT d.ty T)) H):=by
 subst hK
 intro pins s σ H xs us Q I r h
 obtain ⟨x,d,T,rfl,rd,hT,q⟩:=h
 obtain ⟨u,v,rfl,ru,rv⟩:=Vals.two r
 obtain rfl:v=Value.type T:=rv
 have hb:T∈["str", "int", "bool", "list", "tuple", "dict"]:=by simpa [okTy] using hT
 have fin:∀ tk,EP X pins σ Q (.bool (isiT d.ty T)) { s with toks:=tk }:=fun tk=>⟨.bl (isiT d.ty T),H,I.tok tk,rfl,q⟩
 cases rd with
 | non=>exact isinst_ok I ru .non (gr X.K _ T (by simp) hb) fin
 | bl b=>exact isinst_ok I ru (.bl b) (gr X.K _ T (by simp) hb) fin
 | int i=>exact isinst_ok I ru (.int i) (gr X.K _ T (by simp) hb) fin
 | str y=>exact isinst_ok I ru (.str _) (gr X.K _ T (by simp) hb) fin
 | list z s' q' =>
  cases ru
  obtain ⟨its,_,pl,_⟩:=I.list s'
  obtain ⟨o,h1,h2,_⟩:=pl.isList
  exact PySem.W.kia_one PySem.W.kitx_list I.kIn ⟨o,h1,h2⟩ (gr X.K "list" T (by simp) hb) (fun z=>nomatch z) fin
 | tup _ s' q'=>exact isinst_ok I ru (.tup s') (gr X.K _ T (by simp) hb) fin
 | dK _ s' q' =>
  cases ru
  obtain ⟨_,_,vs,_,p⟩:=I.rd s'
  obtain ⟨o,es,ep,h1,h2,_⟩:=p
  exact PySem.W.kia_one PySem.W.kitx_dict I.kIn ⟨o,h1,h2.1⟩ (gr X.K "dict" T (by simp) hb) (fun z=>nomatch z) fin
 | dT _ s' q' =>
  cases ru
  obtain ⟨_,_,xs,_,o,es,ep,h1,h2,_⟩:=I.rd s'
  exact PySem.W.kia_one PySem.W.kitx_dict I.kIn ⟨o,h1,h2.1⟩ (gr X.K "dict" T (by simp) hb) (fun z=>nomatch z) fin
theorem vm (hm:X.mg "isinstance" = none) (he:QE X K e te) (ht:PE X e2 (tC (.ty T))) (hT:okTy T=true:=by rfl) (hg:Gl X "isinstance" := by rfl) (hK:X.K=K:=by rfl)
  (hs:starEach (e :: [e2]) X.env=(false,eval e X.env) :: starEach [e2] X.env:=by rfl) (hs2:starEach (e2 :: []) X.env=(false,eval e2 X.env) :: starEach [] X.env:=by rfl) (hpl:(backTo pos (starEach [e2] X.env)).any (·.1)=false:=by rfl) :
  QE X K (.Call (.Name "isinstance" p) [e,e2] [] pos) (wUn (fIsi T) te):=by
 refine PE.imp (pe_callB (sU hK) hg hm fC (pa_cons he (pa_cons ht pa_nil hs2) hs) (by decide) (by decide) hs hpl) fun σ H Qv hx=>ex4 hx fun Hs ρ tot Q sr h f=>?_
 refine ⟨Hs,ρ,tot,_,sr,h,fun v H1 Hs1 m x As g1 r1 f1 q1=>⟨v,x,T,rfl,r1.rep g1.wf,hT,Fin.sh (Fin.after f g1) g1.wf (.bl _) q1⟩⟩
theorem xm (r:Rep K H d v) (h:truD d=some b):TruV K v H b:=by
 cases r with
 | non=>cases h; rfl
 | bl b=>cases h; rfl
 | int i=>cases h; rfl
 | str hz =>
  cases h
  exact ⟨hz,rfl⟩
 | list z s q =>
  cases h
  refine .inl ⟨_,s,?_⟩
  cases q <;> rfl
 | tup _ s q =>
  cases h
  refine .inr (.inl ⟨_,.inl (.inl s),?_⟩)
  cases q <;> rfl
 | dK _ s q=>cases h
 | dT _ s q=>cases h
theorem yL (ha:QE X K e te) (he:∀ whole,isTrue e X.env whole=(do let v <- whole; standAt e.pos; holding [v] (truthy v)):=by intro _; rfl) (hK:X.K=K:=by rfl):QT X K e (wTru te):=by
 subst hK
 refine PT.imp (pt_truth ha he) fun σ H Qv hx=>ex4 hx fun Hs ρ tot Q sr h f=>?_
 refine ⟨Hs,ρ,tot,_,sr,h,fun v H1 Hs1 m x As g1 r1 f1 q1=>?_⟩
 obtain ⟨b,hb,q⟩:=q1
 exact ⟨b,xm (r1.rep g1.wf) hb,f b H1 Hs1 g1 q⟩
end
def keyD:Key->D
 | .inl i=>.int i
 | .inr x=>.str x
def qH:W1:=fun m x Q=>match x with
 | .list xs=>(flats xs=true/\Q (.ow true) (.list xs))\/(m=.sh/\Q (.ow false) (.list xs))
 | .tup xs=>(flats xs=true/\Q (.ow true) (.list xs))\/(m=.sh/\Q (.ow false) (.list xs))
 | .dT kvs=>Q (.ow true) (.list (kvs.map fun kv=>.tup (kv.1.map keyD)))
 | _=>False
section
variable {X:Cx} {K:PySem.W.Frag}
theorem lg:∀ {ks:List Key},(∀ k∈ks,kOk k=true)->Reps K H (ks.map keyD) (ks.map kV)
 | [],_=>.nil
 | k :: ks,h=>by
  refine .cons ?_ (lg fun j m=>h j (xac _ m))
  have:=h k xad
  cases k with
  | inl i=>exact .int i
  | inr x=>exact .str (by simpa [kOk] using this)
theorem mX:∀ (ks:List Key),flats (ks.map keyD)=true
 | []=>rfl
 | k :: ks=>by simp only [xat,flats,mX ks,Bool.and_true]; cases k <;> rfl
theorem kY (t:cC H ys ks) (h:∀ l∈ks,l.length<=sizeLine/\∀ k∈l,kOk k=true):Reps K H (ks.map fun l=>.tup (l.map keyD)) ys:=by
 induction ys generalizing ks with
 | nil=>rw [show ks=[] from Paired.n0 t]; exact .nil
 | cons y ys ih =>
  obtain ⟨k,ks,rfl,⟨b,rfl,e⟩,t2⟩:=Paired.c t
  exact .cons (.tup (by rw [xab]; exact (h _ xad).1) e (lg (h _ xad).2)) (ih t2 fun l m=>h l (xac _ m))
theorem fH:∀ (ks:List (List Key)),flats (ks.map fun l=>.tup (l.map keyD))=true
 | []=>rfl
 | l :: ks=>by simp only [xat,flats,fH ks,Bool.and_true,D.flat,mX]
theorem jP (hc:X.calm=true:=by rfl) (hK:X.K=K:=by rfl):CallR X (.type "list") (fun xs H Q=>(∃ p ys,xs=[.ref p]/\(SqL K H p ys\/SqT K H p ys)/\∀ l,H l=none->Q (.ref l) (upd H l (.lst ys)))\/pI xs H Q):=by
 subst hK; exact call_list_of.or (qO hc)
theorem tX:BrC K (fun xs H Q=>(∃ p ys,xs=[.ref p]/\(SqL K H p ys\/SqT K H p ys)/\∀ l,H l=none->Q (.ref l) (upd H l (.lst ys)))\/pI xs H Q) qH:=by
 intro Hs H m x v As Qd Qv w rx h f
 have r1:=rx.rep w
 cases r1 with
 | list z s q =>
  have hl:=q.length
  rcases h with ⟨hf,h⟩ | ⟨rfl,h⟩
  ·exact .inl ⟨_,_,rfl,.inl s,f.lst w (by lia) q hf h⟩
  ·obtain ⟨_,rx⟩:=rx
   cases rx with
   | list z' s' q' =>
    have hl:=q'.length
    exact .inl ⟨_,_,rfl,.inl (Same.seq w.sub s'),f.lstS w (by lia) q' h⟩
 | tup z s q =>
  have hl:=q.length
  rcases h with ⟨hf,h⟩ | ⟨rfl,h⟩
  ·exact .inl ⟨_,_,rfl,.inr (.inl (.inl s)),f.lst w (by lia) q hf h⟩
  ·obtain ⟨_,rx⟩:=rx
   cases rx with
   | tup z' s' q' =>
    have hl:=q'.length
    exact .inl ⟨_,_,rfl,.inr (.inl (.inl (w.sub _ _ s'))),f.lstS w (by lia) q' h⟩
 | @dT _ vs kvs kk s q =>
  refine .inr ⟨_,s,fun ys l ht hl=>?_⟩
  have hlen:=q.length
  rw [xab] at hlen
  have e:((kvs.map (·.1)).zip vs).map (·.1)=kvs.map (·.1):=xbY (by rw [xab]; exact xb9 hlen)
  rw [e] at ht
  have rr:=kY (K:=K) ht (fun l m=>by
   obtain ⟨p,hp,rfl⟩:=xaE.mp m
   exact kk.2 p hp)
  have ff:=fH (kvs.map (·.1))
  rw [xaQ] at rr ff
  exact f.lst w (by rw [xab]; exact kk.1) rr ff h l hl
 | _=>exact h.elim
end
section
variable {K:PySem.W.Frag} {Hs H:Hp}
theorem SR.wI (r:Rep K Hs d v) (i:Nat) (s:SR K Hs H ρ σ tot):∃ tot',tot'.Sublist tot/\SR K Hs H (ρ.set i (some (.sh d))) (σ.set i (some v)) tot':=by
 induction s generalizing i with
 | nil=>exact ⟨[],xa2 _,.nil⟩
 | non s ih =>
  cases i with
  | zero=>exact ⟨_,List.Sublist.refl _,.sh r s⟩
  | succ i=>obtain ⟨t,a,b⟩:=ih i; exact ⟨t,a,.non b⟩
 | sh q s ih =>
  cases i with
  | zero=>exact ⟨_,List.Sublist.refl _,.sh r s⟩
  | succ i=>obtain ⟨t,a,b⟩:=ih i; exact ⟨t,a,.sh q b⟩
 | xc s ih =>
  cases i with
  | zero=>exact ⟨_,List.Sublist.refl _,.sh r s⟩
  | succ i=>obtain ⟨t,a,b⟩:=ih i; exact ⟨t,a,.xc b⟩
 | ow ne q s ih =>
  cases i with
  | zero=>exact ⟨_,xau _ _,.sh r s⟩
  | succ i=>obtain ⟨t,a,b⟩:=ih i; exact ⟨_,a.append_left _,.ow ne q b⟩
 | lk ne q s ih =>
  cases i with
  | zero=>exact ⟨_,xau _ _,.sh r s⟩
  | succ i=>obtain ⟨t,a,b⟩:=ih i; exact ⟨_,a.append_left _,.lk ne q b⟩
theorem lW {As tot:List Addr} (nd:As.Nodup) (n:tot.Nodup) (dj:∀ a∈As,a∉tot):(As++tot).Nodup:=xak.mpr ⟨nd,n,fun a ha b hb e=>dj a ha (e ▸ hb)⟩
theorem eF {As tot B t:List Addr} (n:(B++tot).Nodup) (dj:∀ a∈As,a∉B++tot) (a:t.Nodup) (b:∀ x∈t,x∈tot\/x∈As):(B++t).Nodup/\∀ x∈B++t,x∈B++tot\/x∈As:=by
 obtain ⟨n1,n2,n3⟩:=xak.mp n
 refine ⟨xak.mpr ⟨n1,a,fun x hx y hy e=>?_⟩,fun x hx=>?_⟩
 ·subst e
  rcases b x hy with z | z
  ·exact n3 x hx x z rfl
  ·exact dj x z (xai _ hx)
 ·rcases xag.mp hx with z | z
  ·exact .inl (xai _ z)
  ·exact (b x z).imp (fun z=>xaf _ z) fun z=>z
theorem SR.z8 {d:D} {v:V} {fl:Bool} {As:List Addr} (ne:As≠[]) (r:RepO K Hs H fl d v As) (nd:As.Nodup) {ρ:Env} {σ:St} {tot:List Addr} (i:Nat) (s:SR K Hs H ρ σ tot):tot.Nodup->(∀ a∈As,a∉tot) ->
  ∃ tot',tot'.Nodup/\(∀ a∈tot',a∈tot\/a∈As)/\SR K Hs H (ρ.set i (some (.ow fl d))) (σ.set i (some v)) tot':=by
 induction s generalizing i with
 | nil=>exact fun n _=>⟨[],xay,(fun a h=>mem0 h),.nil⟩
 | non s ih =>
  intro n dj
  cases i with
  | zero=>exact ⟨_,lW nd n dj,fun a h=>(xag.mp h).symm,.ow ne r s⟩
  | succ i=>obtain ⟨t,a,b,c⟩:=ih i n dj; exact ⟨t,a,b,.non c⟩
 | sh q s ih =>
  intro n dj
  cases i with
  | zero=>exact ⟨_,lW nd n dj,fun a h=>(xag.mp h).symm,.ow ne r s⟩
  | succ i=>obtain ⟨t,a,b,c⟩:=ih i n dj; exact ⟨t,a,b,.sh q c⟩
 | xc s ih =>
  intro n dj
  cases i with
  | zero=>exact ⟨_,lW nd n dj,fun a h=>(xag.mp h).symm,.ow ne r s⟩
  | succ i=>obtain ⟨t,a,b,c⟩:=ih i n dj; exact ⟨t,a,b,.xc c⟩
 | ow ne' q s ih =>
  intro n dj
  obtain ⟨n1,n2,n3⟩:=xak.mp n
  have dj':=fun a ha m=>dj a ha (xaf _ m)
  cases i with
  | zero=>exact ⟨_,lW nd n2 dj',fun a h=>(xag.mp h).symm.imp (fun z=>xaf _ z) fun z=>z,.ow ne r s⟩
  | succ i=>obtain ⟨t,a,b,c⟩:=ih i n2 dj'; exact ⟨_,(eF n dj a b).1,(eF n dj a b).2,.ow ne' q c⟩
 | lk ne' q s ih =>
  intro n dj
  obtain ⟨n1,n2,n3⟩:=xak.mp n
  have dj':=fun a ha m=>dj a ha (xaf _ m)
  cases i with
  | zero=>exact ⟨_,lW nd n2 dj',fun a h=>(xag.mp h).symm.imp (fun z=>xaf _ z) fun z=>z,.ow ne r s⟩
  | succ i=>obtain ⟨t,a,b,c⟩:=ih i n2 dj'; exact ⟨_,(eF n dj a b).1,(eF n dj a b).2,.lk ne' q c⟩
def asg:Md->D->Option Sl
 | .sh,d=>some (.sh d)
 | .ow fl,d=>some (.ow fl d)
 | .bo,d=>bif d.flat then some (.sh d) else none
theorem SRel.set (i:Nat) (s:SRel K Hs ρ σ H tot) (r:RM K Hs H m d v As) (nd:As.Nodup) (dj:∀ a∈As,Hs a=none/\a∉tot) (e:asg m d=some sl) :
  ∃ tot',SRel K Hs (ρ.set i (some sl)) (σ.set i (some v)) H tot':=by
 have shc:Rep K Hs d v->∃ tot',SRel K Hs (ρ.set i (some (.sh d))) (σ.set i (some v)) H tot':=fun r=>by
  obtain ⟨t,a,b⟩:=s.sr.wI r i
  exact ⟨t,b,s.wf,a.nodup s.nod,fun x hx=>s.own x (a.subset hx)⟩
 cases m with
 | sh=>cases e; exact shc r.2
 | ow fl =>
  cases e
  obtain ⟨t,a,b,c⟩:=SR.z8 r.2 r.1 nd i s.sr s.nod fun a ha=>(dj a ha).2
  exact ⟨t,c,s.wf,a,fun x hx=>(b x hx).elim (s.own x) fun z=>(dj x z).1⟩
 | bo =>
  cases hf:d.flat with
  | true =>
   simp only [asg,hf,cond_true,Option.some.injEq] at e
   subst e
   exact shc (r.flat s.wf hf)
  | false=>simp [asg,hf] at e
end
section
variable {X:Cx} {K:PySem.W.Frag} {e c:Expr} {te:WE} {tc:WT} {pos:Pos} {st:Stmt} {a b rest:List Stmt} {t u:WS}
theorem PS.imp {te te':TS} (h:PS X st te) (i:∀ D σ H,te' D σ H->te D σ H):PS X st te':=fun pins s σ H D I q=>h pins s σ H D I (i D σ H q)
theorem PSs.imp {te te':TS} (h:PSs X a te) (i:∀ D σ H,te' D σ H->te D σ H):PSs X a te':=fun pins s σ H D I q=>h pins s σ H D I (i D σ H q)
def bQ:WS:=fun E ρ=>E.nx ρ
def wSeq (t u:WS):WS:=fun E ρ=>t { E with nx:=u E } ρ
def wRet (te:WE):WS:=fun E ρ=>te ρ E.rt
def wSet (i:Nat) (te:WE):WS:=fun E ρ=>te ρ fun m d=>match asg m d with
 | some sl=>E.nx (ρ.set i (some sl))
 | none=>False
def wIfS (c:WT) (t u:WS):WS:=fun E ρ=>c ρ fun b=>if b=true then t E ρ else u E ρ
theorem aK:QSs X K L [] bQ:=PSs.imp pss_nil fun D σ H hx=>du hx fun Hs ρ tot E sr h k1 _ _ _=>k1 σ H Hs ρ tot (Same.refl _) sr h
theorem vA {D:Ends} (h:tpS K L (wSeq t u) D σ H):tSeq (tpS K L t) (tpS K L u) D σ H:=by
 obtain ⟨Hs,ρ,tot,E,sr,h,k1,k2,k3,k4,kx⟩:=h
 refine ⟨Hs,ρ,tot,{ E with nx:=u E },sr,h,fun σ' H' Hs' ρ' tot' s sr' q=>?_,k2,k3,k4,kx⟩
 exact ⟨Hs',ρ',tot',E,sr',q,fun σ2 H2 Hs2 ρ2 tot2 s2=>k1 σ2 H2 Hs2 ρ2 tot2 (s.trans s2),fun σ2 H2 Hs2 ρ2 tot2 s2=>k2 σ2 H2 Hs2 ρ2 tot2 (s.trans s2),fun σ2 H2 Hs2 ρ2 tot2 s2=>k3 σ2 H2 Hs2 ρ2 tot2 (s.trans s2),
  fun v H2 Hs2 m d As s2=>k4 v H2 Hs2 m d As (s.trans s2),fun n H2 s2=>kx n H2 (s.trans s2)⟩
theorem aj (h1:QS X K L st t) (h2:QSs X K L rest u):QSs X K L (st :: rest) (wSeq t u):=PSs.imp (pss_cons h1 h2) fun D σ H h=>vA h
theorem ao (h1:QS X K L st t):QSs X K L [st] t:=pss_one h1
theorem a_ (he:QE X K e te):QS X K L (.Return (some e) pos) (wRet te):=PS.imp (ps_ret he) fun D σ H hx=>du hx fun Hs ρ tot E sr h k1 k2 k3 k4 =>
 ⟨Hs,ρ,tot,_,sr,h,fun v H1 Hs1 m d As g1 r1 f1 q1=>k4 v H1 Hs1 m d As g1.sh g1.wf r1 f1.1 (fun a ha=>(f1.2 a ha).1) q1⟩
def oh (i:Nat):WS:=fun E ρ=>match ρ[i]? with
 | some (some (.sh d))=>E.rt .sh d
 | some (some (.ow fl d))=>E.rt (.ow fl) d
 | _=>False
theorem SR.at {ρ:Env} {σ:St} {tot:List Addr} {i:Nat} {fl:Bool} {d:D} {Hs H:Hp} (s:SR K Hs H ρ σ tot) (e:ρ[i]? = some (some (.ow fl d))):∃ v As,σ[i]? = some (some v)/\As≠[]/\RepO K Hs H fl d v As/\As.Sublist tot:=by
 induction s generalizing i with
 | nil=>simp at e
 | non s ih =>
  cases i with
  | zero=>simp at e
  | succ i=>exact ih e
 | sh r s ih =>
  cases i with
  | zero=>simp at e
  | succ i=>exact ih e
 | xc s ih =>
  cases i with
  | zero=>simp at e
  | succ i=>exact ih e
 | ow ne r s ih =>
  cases i with
  | zero=>simp at e; obtain ⟨rfl,rfl⟩:=e; exact ⟨_,_,rfl,ne,r,xa5 _ _⟩
  | succ i =>
   obtain ⟨v,As,a,b,c,d⟩:=ih e
   exact ⟨v,As,a,b,c,d.trans (xau _ _)⟩
 | lk ne r s ih =>
  cases i with
  | zero=>simp at e
  | succ i =>
   obtain ⟨v,As,a,b,c,d⟩:=ih e
   exact ⟨v,As,a,b,c,d.trans (xau _ _)⟩
theorem lF {i:Nat} (he:PE X e (tVar i)):QS X K L (.Return (some e) pos) (oh i):=PS.imp (ps_ret he) fun D σ H hx=>du hx fun Hs ρ tot E sr h k1 k2 k3 k4=>by
 unfold oh at h
 split at h
 ·rename_i d e1
  obtain ⟨v,e2,r⟩:=sr.sr.get e1
  exact ⟨v,e2,k4 v H Hs .sh d [] (Same.refl _) sr.wf ⟨rfl,r⟩ xay (fun a ha=>nomatch ha) h⟩
 ·rename_i fl d e1
  obtain ⟨v,As,e2,ne,r,sb⟩:=sr.sr.at e1
  exact ⟨v,e2,k4 v H Hs (.ow fl) d As (Same.refl _) sr.wf ⟨r,ne⟩ (sb.nodup sr.nod) (fun a ha=>sr.own a (sb.subset ha)) h⟩
 ·exact h.elim
theorem aJ {i:Nat} {x:Str} {pos':Pos} (hN:X.N.Nodup) (hi:X.N[i]? = some x) (hx:Loc X.env.scope x) (he:QE X K e te) (hs:swapsWith e (some (.Name x pos')) pos.line X.env=pure false:=by rfl)
  (hf:X.fn x=true\/X.env.scope.names.lookup x=some .local:=by first | exact .inl rfl | exact .inr rfl | assumption):QS X K L (.Assign [.Name x pos'] e pos) (wSet i te):=PS.imp (ps_set hN hi hx he hs hf) fun D σ H hx=>du hx fun Hs ρ tot E sr h k1 k2 k3 k4=>by
 refine ⟨Hs,ρ,tot,_,sr,h,fun v H1 Hs1 m d As g1 r1 f1 q1=>?_⟩
 have q1:match asg m d with
  | some sl=>E.nx (ρ.set i (some sl))
  | none=>False:=q1
 cases e:asg m d with
 | none=>rw [e] at q1; exact q1.elim
 | some sl =>
  rw [e] at q1
  obtain ⟨tot',s'⟩:=(sr.grow g1).set i r1 f1.1 (fun a ha=>⟨(f1.2 a ha).1,fun m=>(sr.sr.own a m).ne (f1.2 a ha).2⟩) e
  exact k1 _ H1 Hs1 _ tot' g1.sh s' q1
theorem bY (hc:QT X K c tc) (ha:QSs X K L a t) (hb:QSs X K L b u):QS X K L (.If c a b pos) (wIfS tc t u):=PS.imp (ps_if hc ha hb) fun D σ H hx=>cY hx fun Hs ρ tot E sr h k1 k2 k3 k4 kx=>by
 refine ⟨Hs,ρ,tot,_,sr,h,fun k H1 Hs1 g1 q1=>?_⟩
 have k1':∀ σ' H' Hs' ρ' tot',Same Hs1 Hs'->SRel K Hs' ρ' σ' H' tot'->E.nx ρ'->D.nx σ' H':=fun σ2 H2 Hs2 ρ2 tot2 s2=>k1 σ2 H2 Hs2 ρ2 tot2 (g1.sh.trans s2)
 have k2':∀ σ' H' Hs' ρ' tot',Same Hs1 Hs'->SRel K Hs' ρ' σ' H' tot'->E.bk ρ'->D.bk σ' H':=fun σ2 H2 Hs2 ρ2 tot2 s2=>k2 σ2 H2 Hs2 ρ2 tot2 (g1.sh.trans s2)
 have k3':∀ σ' H' Hs' ρ' tot',Same Hs1 Hs'->SRel K Hs' ρ' σ' H' tot'->E.ct ρ'->D.ct σ' H':=fun σ2 H2 Hs2 ρ2 tot2 s2=>k3 σ2 H2 Hs2 ρ2 tot2 (g1.sh.trans s2)
 cases k with
 | true=>exact ⟨Hs1,ρ,tot,E,sr.grow g1,q1,k1',k2',k3',(fun v H2 Hs2 m d As s2=>k4 v H2 Hs2 m d As (g1.sh.trans s2)),fun n H2 s2=>kx n H2 (g1.sh.trans s2)⟩
 | false=>exact ⟨Hs1,ρ,tot,E,sr.grow g1,q1,k1',k2',k3',(fun v H2 Hs2 m d As s2=>k4 v H2 Hs2 m d As (g1.sh.trans s2)),fun n H2 s2=>kx n H2 (g1.sh.trans s2)⟩
def frzH (Hs H:Hp) (As:List Addr):Hp:=fun a=>if a∈As then H a else Hs a
theorem fW (n:∀ a∈As,Hs a=none):Same Hs (frzH Hs H As):=fun a o e=>by
 unfold frzH
 rw [if_neg fun m=>by rw [n a m] at e; cases e]
 exact e
theorem rC (w:Wf Hs H) (o:∀ a∈As,Own H a):Wf (frzH Hs H As) H:=⟨fun a u e=>by
  unfold frzH at e
  by_cases m:a∈As
  ·rw [if_pos m] at e; exact e
  ·rw [if_neg m] at e; exact w.sub a u e,fun a vs e=>by
  unfold frzH
  rw [if_neg fun m=>(o a m).v_ e]
  exact w.tups a vs e⟩
def shS:Sl->Sl
 | .sh d=>.sh d
 | .ow _ d=>.sh d
 | .lk a fl d=>.lk a fl d
 | .xc a=>.xc a
def shC:Sl->Sl
 | .sh d=>.sh d
 | .ow _ d=>.sh d
 | .lk _ _ d=>.sh d
 | .xc a=>.xc a
def frzE (i:Nat) (ρ:Env):Env:=match ρ[i]? with
 | some (some sl)=>ρ.set i (some (shS sl))
 | _=>ρ
theorem tR {As tot B t:List Addr} (n:(B++tot).Nodup) (a:As.Sublist tot) (c:∀ x∈As,x∉t):∀ x∈As,x∉B++t:=fun x hx m=>by
 obtain ⟨n1,n2,n3⟩:=xak.mp n
 rcases xag.mp m with z | z
 ·exact n3 x z x (a.subset hx) rfl
 ·exact c x hx z
theorem SR.frz (i:Nat) (s:SR K Hs H ρ σ tot):ρ[i]? = some (some (.ow fl d))->tot.Nodup ->
  ∃ (As tot':List Addr),As.Sublist tot/\tot'.Sublist tot/\(∀ a∈As,a∉tot')/\∀ Hs',Same Hs Hs'->(∀ a∈As,Hs' a=H a)->SR K Hs' H (ρ.set i (some (.sh d))) σ tot':=by
 induction s generalizing i with
 | nil=>intro e; simp at e
 | non q ih =>
  intro e n
  cases i with
  | zero=>simp at e
  | succ i =>
   obtain ⟨As,t,a,b,c,d⟩:=ih i e n
   exact ⟨As,t,a,b,c,fun Hs' s k=>.non (d Hs' s k)⟩
 | sh r q ih =>
  intro e n
  cases i with
  | zero=>simp at e
  | succ i =>
   obtain ⟨As,t,a,b,c,d⟩:=ih i e n
   exact ⟨As,t,a,b,c,fun Hs' s k=>.sh (r.same s) (d Hs' s k)⟩
 | xc q ih =>
  intro e n
  cases i with
  | zero=>simp at e
  | succ i =>
   obtain ⟨As,t,a,b,c,d⟩:=ih i e n
   exact ⟨As,t,a,b,c,fun Hs' s k=>.xc (d Hs' s k)⟩
 | ow ne r q ih =>
  intro e n
  obtain ⟨n1,n2,n3⟩:=xak.mp n
  cases i with
  | zero =>
   simp at e
   obtain ⟨rfl,rfl⟩:=e
   exact ⟨_,_,xa5 _ _,xau _ _,fun a h m=>n3 a h a m rfl,fun Hs' s k=>.sh (r.rep s k) (q.stay s fun _ _=>rfl)⟩
  | succ i =>
   obtain ⟨As,t,a,b,c,d⟩:=ih i e n2
   exact ⟨As,_,a.trans (xau _ _),b.append_left _,tR n a c,fun Hs' s k=>.ow ne (r.stay s fun _ _=>rfl) (d Hs' s k)⟩
 | lk ne r q ih =>
  intro e n
  obtain ⟨n1,n2,n3⟩:=xak.mp n
  cases i with
  | zero=>simp at e
  | succ i =>
   obtain ⟨As,t,a,b,c,d⟩:=ih i e n2
   exact ⟨As,_,a.trans (xau _ _),b.append_left _,tR n a c,fun Hs' s k=>.lk ne (r.stay s fun _ _=>rfl) (d Hs' s k)⟩
theorem SRel.frz (i:Nat) (s:SRel K Hs ρ σ H tot):∃ Hs' tot',Same Hs Hs'/\SRel K Hs' (frzE i ρ) σ H tot':=by
 unfold frzE
 split
 ·rename_i sl e
  have keep:shS sl=sl->∃ Hs' tot',Same Hs Hs'/\SRel K Hs' (ρ.set i (some (shS sl))) σ H tot':=fun hs=>by
   have e2:ρ.set i (some (shS sl))=ρ:=by
    apply xbP
    intro j
    rw [List.getElem?_set]
    by_cases h:i=j
    ·subst h
     rw [if_pos rfl,e]
     have:i<ρ.length:=(xas.mp e).1
     simp [this,hs]
    ·rw [if_neg h]
   rw [e2]
   exact ⟨Hs,tot,Same.refl _,s⟩
  cases sl with
  | sh d=>exact keep rfl
  | xc a=>exact keep rfl
  | lk a fl d=>exact keep rfl
  | ow fl d =>
   obtain ⟨As,t,a,b,c,g⟩:=SR.frz i s.sr e s.nod
   have hn:∀ a∈As,Hs a=none:=fun x hx=>s.own x (a.subset hx)
   have ho:∀ a∈As,Own H a:=fun x hx=>s.sr.own x (a.subset hx)
   refine ⟨frzH Hs H As,t,fW hn,g _ (fW hn) fun x hx=>by unfold frzH; rw [if_pos hx],rC s.wf ho,b.nodup s.nod,fun x hx=>?_⟩
   unfold frzH
   rw [if_neg fun m=>c x m hx]
   exact s.own x (b.subset hx)
 ·exact ⟨Hs,tot,Same.refl _,s⟩
def wFrz (i:Nat) (t:WS):WS:=fun E ρ=>t E (frzE i ρ)
theorem vL {D:Ends} (h:tpS K L (wFrz i t) D σ H):tpS K L t D σ H:=by
 obtain ⟨Hs,ρ,tot,E,sr,h,k1,k2,k3,k4,kx⟩:=h
 obtain ⟨Hs',tot',s,sr'⟩:=sr.frz i
 exact ⟨Hs',_,tot',E,sr',h,fun σ2 H2 Hs2 ρ2 tot2 s2=>k1 σ2 H2 Hs2 ρ2 tot2 (s.trans s2),fun σ2 H2 Hs2 ρ2 tot2 s2=>k2 σ2 H2 Hs2 ρ2 tot2 (s.trans s2),fun σ2 H2 Hs2 ρ2 tot2 s2=>k3 σ2 H2 Hs2 ρ2 tot2 (s.trans s2),
  fun v H2 Hs2 m d As s2=>k4 v H2 Hs2 m d As (s.trans s2),fun n H2 s2=>kx n H2 (s.trans s2)⟩
theorem aM (i:Nat) (h:QS X K L st t):QS X K L st (wFrz i t):=PS.imp h fun D σ H h=>vL h
def iK (Hs1 H1 Hs' H':Hp):Hp:=fun a=>match H' a with
 | some (.tup vs)=>some (.tup vs)
 | _=>match H1 a with
  | none=>Hs' a
  | some _=>Hs1 a
theorem eZ (w:Wf Hs1 H1) (s:Same H1 Hs') (w':Wf Hs' H'):Grow Hs1 H1 (iK Hs1 H1 Hs' H') H':=by
 have sa:Same H1 H':=s.trans w'.sub
 have tp:∀ a vs,H' a=some (.tup vs)->iK Hs1 H1 Hs' H' a=some (.tup vs):=fun a vs e=>by unfold iK; rw [e]
 have nt:∀ a,(∀ vs,H' a≠some (.tup vs))->iK Hs1 H1 Hs' H' a=match H1 a with
  | none=>Hs' a
  | some _=>Hs1 a:=fun a h=>by
  unfold iK
  split
  ·rename_i vs e; exact absurd e (h vs)
  ·rfl
 refine ⟨sa,fun a o e=>?_,⟨fun a o e=>?_,tp⟩,fun a h=>?_⟩
 ·have e1:=w.sub a o e
  have e2:=sa a o e1
  by_cases ht:∃ vs,o=.tup vs
  ·obtain ⟨vs,rfl⟩:=ht
   exact tp a vs e2
  ·rw [nt a fun vs z=>ht ⟨vs,by rw [e2] at z; exact Option.some.inj z⟩,e1]
   exact e
 ·by_cases ht:∃ vs,H' a=some (.tup vs)
  ·obtain ⟨vs,z⟩:=ht
   rw [tp a vs z] at e
   rw [z]; exact e
  ·rw [nt a fun vs z=>ht ⟨vs,z⟩] at e
   cases q:H1 a with
   | none=>rw [q] at e; exact w'.sub a o e
   | some u =>
    rw [q] at e
    have:=w.sub a o e
    exact sa a o this
 ·cases q:H1 a with
  | none=>exact .inr rfl
  | some u =>
   refine .inl ?_
   by_cases ht:∃ vs,H' a=some (.tup vs)
   ·obtain ⟨vs,z⟩:=ht
    have:=sa a u q
    rw [z] at this
    cases this
    rw [w.tups a vs q]
    exact fun z=>nomatch z
   ·rw [nt a fun vs z=>ht ⟨vs,z⟩,q] at h
    exact h
theorem sO {Hs1 H1 Hs' H':Hp} {a:Addr} (s:Same H1 Hs') (h:Hs' a=none) (o:Own H' a):iK Hs1 H1 Hs' H' a=none/\H1 a=none:=by
 have h1:=s.free h
 refine ⟨?_,h1⟩
 unfold iK
 split
 ·rename_i vs e; exact absurd e o.v_
 ·rw [h1]; exact h
def retM:Md->D->Md
 | .ow true,_=>.ow true
 | _,d=>bif d.flat then .sh else .bo
theorem oF (w:Wf Hs1 H1) (s:Same H1 Hs') (w':Wf Hs' H') (r:RM K Hs' H' m d v As) (nd:As.Nodup) (own:∀ a∈As,Hs' a=none) :
  ∃ As',RM K (iK Hs1 H1 Hs' H') H' (retM m d) d v As'/\bZ (iK Hs1 H1 Hs' H') H1 As':=by
 have g:=eZ w s w'
 have other:∃ As',RM K (iK Hs1 H1 Hs' H') H' (bif d.flat then .sh else .bo) d v As'/\bZ (iK Hs1 H1 Hs' H') H1 As':=by
  cases hf:d.flat with
  | true=>exact ⟨[],⟨rfl,(r.rep w').e_ g.wf.tups hf⟩,bZ.nil⟩
  | false=>exact ⟨[],⟨rfl,r.rep w'⟩,bZ.nil⟩
 cases m with
 | sh=>exact other
 | bo=>exact other
 | ow fl =>
  cases fl with
  | false=>exact other
  | true=>exact ⟨As,⟨RepO.leaves (fun a vs e=>g.wf.tups a vs (w'.sub _ _ e)) r.1,r.2⟩,nd,fun a h=>sO s (own a h) (r.own a h)⟩
abbrev SpD:=List D->(Md->D->Prop)->Prop
def aA (K:PySem.W.Frag) (sp:SpD):Sp:=fun vs H Qv _=>∃ ds Qd,Reps K H ds vs/\sp ds Qd /\
 ∀ v H' Hs' m d As,Same H Hs'->Wf Hs' H'->RM K Hs' H' m d v As->As.Nodup->(∀ a∈As,Hs' a=none)->Qd m d->Qv v H'
def bj (n:Nat) (ds:List D):Env:=ds.map (fun d=>some (.sh d))++List.replicate (n - ds.length) none
theorem SR.start (r:Reps K H ds vs):SR K H H (ds.map (fun d=>some (.sh d))++List.replicate n none) (vs.map some++List.replicate n none) []:=by
 induction ds generalizing vs with
 | nil =>
  rw [r.n0]
  induction n with
  | zero=>exact .nil
  | succ n ih=>exact .non ih
 | cons d ds ih =>
  obtain ⟨u,us,rfl,r,rs⟩:=r.c
  exact .sh r (ih rs)
theorem ud (h:aA K sp vs H Qv E) (hp:∀ ds Q,sp ds Q->t { nx:=fun _=>Q .sh .non,rt:=Q } (bj N.length ds)) :
  tpS K L0 t { nx:=fun _ H'=>Qv .non H',rt:=Qv } (start N vs) H:=by
 obtain ⟨ds,Qd,rs,hs,fin⟩:=h
 have hl:=rs.length
 refine ⟨H,bj N.length ds,[],{ nx:=fun _=>Qd .sh .non,rt:=Qd },⟨?_,⟨Same.refl _,fun _ _ e=>e⟩,xay,fun a h=>nomatch h⟩,hp ds Qd hs,?_,?_,?_,?_,fun _ _ _ _=>trivial⟩
 ·unfold bj start
  rw [hl]
  exact SR.start rs
 ·exact fun σ' H' Hs' ρ' tot' s sr q=>fin .non H' Hs' .sh .non [] s sr.wf ⟨rfl,.non⟩ xay (fun a h=>nomatch h) q
 ·exact fun σ' H' Hs' ρ' tot' s sr q=>q.elim
 ·exact fun σ' H' Hs' ρ' tot' s sr q=>q.elim
 ·exact fun v H' Hs' m d As s w r nd own q=>fin v H' Hs' m d As s w r nd own q
theorem FunQ.ok {P:Program} {st:Stmt} {N ps:List Str} (F:Fun K x qual st f fd) (S:FnScope N ps (defScope st)) (len:∀ ds Q,sp ds Q->ds.length=ps.length)
  (hbody:∀ (cdv:Value) (A:Around) (outer:List PySem.Env) (s:Shared) (H:Hp) (E:XK),Room k (A.deeper (envOfC qual (defScope st) s.heap.objs.size f cdv))->QSs (cxOf CX0 P w K mg base N qual (defScope st) f cdv A outer s H E).nox K L0 (defBody st) t)
  (hp:∀ ds Q,sp ds Q->t { nx:=fun _=>Q .sh .non,rt:=Q } (bj N.length ds)):FnOk P w K mg base CX0 (k+1) f fd ps (aA K sp) :=
 F.ok S (fun vs H Q E ⟨ds,Qd,rs,hs,_⟩=>by rw [<- rs.length]; exact len ds Qd hs) fun cdv A outer s H vs Q E hr hs=>⟨_,hbody cdv A outer s H E hr,ud hs hp⟩
def cJ (sp:SpD) (t:WA):WE:=fun ρ Q=>t ρ fun ps=>sp (ps.map (·.2)) fun m d=>onK (m,d) (f:=fun p=>Q (retM p.1 p.2) p.2) ⟨⟩
theorem rG {sp:SpD} {t:WA} {σ:St} {H:Hp} {Qv:VK} {E:XK} (h:tpE K (cJ sp t) σ H Qv):tCall (aA K sp) [] E (tpA K t) σ H Qv:=by
 obtain ⟨Hs,ρ,tot,Q,sr,h,f⟩:=h
 refine ⟨Hs,ρ,tot,_,sr,h,fun vs H1 Hs1 ps As g1 r1 f1 q1=>?_⟩
 refine ⟨_,_,by rw [xaD]; exact r1.reps g1.wf,q1,fun v H' Hs' m d As s w r nd own q=>?_⟩
 obtain ⟨As',r',fr⟩:=oF g1.wf s w r nd own
 exact Fin.after f g1 v H' _ (retM m d) d As' (eZ g1.wf s w) r' fr q
theorem dC {k:Nat} {x:Str} {ps:List Str} {sp:SpD} {p:Pos} {es:List Expr} {t:WA} (C:Cal X.prog X.w X.K X.mg X.base k x ps (aA K sp)) (hr:Room k X.A) (ha:QA X K (e :: es) t) (hg:Gl X x:=by rfl) (hdb:(x == ("__debug__" : Str))=false:=by decide) (he:starEach (e :: es) X.env=(false,eval e X.env) :: starEach es X.env:=by rfl)
  (hpl:(backTo pos (starEach es X.env)).any (·.1)=false:=by rfl):QE X K (.Call (.Name x p) (e :: es) [] pos) (cJ sp t):=PE.imp (Bf C hr ha hg hdb he hpl) fun σ H Qv h=>rG h
end
abbrev WG:=D->Env->(Env->Prop)->Prop
def tpG (K:PySem.W.Frag) (g:WG):TG:=fun v σ H Qv=>∃ Hs ρ tot d Q,SRel K Hs ρ σ H tot/\Rep K Hs d v/\g d ρ Q/\∀ σ' ρ' tot',SRel K Hs ρ' σ' H tot'->(∀ a∈tot',a∈tot)->Q ρ'->Qv σ' H
abbrev QG (X:Cx) (K:PySem.W.Frag) (e:Expr) (g:WG):Prop:=PG X e (tpG K g)
def gN (i:Nat):WG:=fun d ρ Q=>Q (ρ.set i (some (.sh d)))
abbrev WGs:=List D->Env->(Env->Prop)->Prop
def tpGs (K:PySem.W.Frag) (g:WGs):TGs:=fun vs σ H Qv=>∃ Hs ρ tot ds Q,SRel K Hs ρ σ H tot/\Reps K Hs ds vs/\g ds ρ Q/\∀ σ' ρ' tot',SRel K Hs ρ' σ' H tot'->(∀ a∈tot',a∈tot)->Q ρ'->Qv σ' H
abbrev QGs (X:Cx) (K:PySem.W.Frag) (es:List Expr) (g:WGs):Prop:=PGs X es (tpGs K g)
def ue:WGs:=fun ds ρ Q=>ds=[]/\Q ρ
def h_ (g:WG) (gs:WGs):WGs:=fun ds ρ Q=>match ds with
 | d :: ds=>g d ρ fun ρ'=>gs ds ρ' Q
 | []=>False
def gT (n:Nat) (gs:WGs):WG:=fun d ρ Q=>match d with
 | .tup ds=>ds.length=n/\gs ds ρ Q
 | _=>False
section
variable {X:Cx} {K:PySem.W.Frag} {e:Expr} {es:List Expr} {g:WG} {gs:WGs} {pos:Pos}
theorem PG.imp (h:PG X e t) (i:∀ v σ H Q,t' v σ H Q->t v σ H Q):PG X e t':=fun pins s σ H v u Q I r q=>h pins s σ H v u Q I r (i v σ H Q q)
theorem PGs.imp (h:PGs X es t) (i:∀ v σ H Q,t' v σ H Q->t v σ H Q):PGs X es t':=fun pins s σ H v u Q I r q=>h pins s σ H v u Q I r (i v σ H Q q)
theorem SRel.xZ (i:Nat) (s:SRel K Hs ρ σ H tot) (r:Rep K Hs d v):∃ tot',(∀ a∈tot',a∈tot)/\SRel K Hs (ρ.set i (some (.sh d))) (σ.set i (some v)) H tot':=by
 obtain ⟨t,a,b⟩:=s.sr.wI r i
 exact ⟨t,fun x hx=>a.subset hx,b,s.wf,a.nodup s.nod,fun x hx=>s.own x (a.subset hx)⟩
theorem aV (hN:X.N.Nodup) (hi:X.N[i]? = some x) (hx:Loc X.env.scope x) (hf:X.fn x=true\/X.env.scope.names.lookup x=some .local:=by first | exact .inl rfl | exact .inr rfl | assumption):QG X K (.Name x pos) (gN i) :=
 PG.imp (pg_name hN hi hx hf) fun v σ H Qv hx9=>by
  obtain ⟨Hs,ρ,tot,d,Q,sr,r,h,k⟩:=hx9
  obtain ⟨t,m,s⟩:=sr.xZ i r
  exact k _ _ t s m h
theorem uh:QGs X K [] ue:=PGs.imp pgs_nil fun v σ H Qv hx9=>by
 obtain ⟨Hs,ρ,tot,ds,Q,sr,r,h,k⟩:=hx9
 obtain ⟨rfl,h⟩:=h
 cases r
 exact ⟨rfl,k σ ρ tot sr (fun _ z=>z) h⟩
theorem fD (h1:QG X K e g) (h2:QGs X K es gs) (hs:(assignEach (e :: es) X.env).map (·.2)=assign e X.env :: (assignEach es X.env).map (·.2):=by rfl):QGs X K (e :: es) (h_ g gs) :=
 PGs.imp (pgs_cons h1 h2 hs) fun v σ H Qv hx9=>by
  obtain ⟨Hs,ρ,tot,ds,Q,sr,r,h,k⟩:=hx9
  cases r with
  | nil=>exact h.elim
  | cons r rs=>exact ⟨_,_,rfl,Hs,ρ,tot,_,_,sr,r,h,fun σ2 ρ2 tot2 sr2 m2 q2=>⟨Hs,ρ2,tot2,_,Q,sr2,rs,q2,fun σ3 ρ3 tot3 sr3 m3=>k σ3 ρ3 tot3 sr3 fun a h=>m2 a (m3 a h)⟩⟩
theorem wU (hc:X.calm=true) (h:QGs X K es gs) (hn:(assignEach es X.env).length=n:=by rfl) (hst:(assignEach es X.env).findIdx? (·.1)=none:=by rfl):QG X K (.Tuple es k pos) (gT n gs) :=
 PG.imp (pg_tup hc h hn hst) fun v σ H Qv hx9=>by
  obtain ⟨Hs,ρ,tot,d,Q,sr,r,h,k⟩:=hx9
  cases r with
  | tup z e rs=>exact ⟨_,_,rfl,.inl (.inl (sr.wf.sub _ _ e)),by rw [<- rs.length]; exact h.1,Hs,ρ,tot,_,Q,sr,rs,h.2,k⟩
  | _=>exact h.elim
end
abbrev WI:=Env->(List D->Prop)->Prop
structure gH (K:PySem.W.Frag) (J:It) (ds:List D) (C:Hp->Hp->Prop):Prop where
 go:∀ i Hs H,C Hs H->Wf Hs H->i<ds.length->J.go i H
 yld:∀ i Hs H x H' d,C Hs H->Wf Hs H->ds[i]? = some d->J.yld i H x H'->∃ Hs',Grow Hs H Hs' H'/\Rep K Hs' d x
 stop:∀ Hs H,C Hs H->Wf Hs H->J.stop ds.length H
abbrev tY (K:PySem.W.Frag) (Hs:Hp) (J:It) (ds:List D):Prop:=gH K J ds fun G _=>Same Hs G
def ju (xs:List D):List D:=xs.mapIdx fun i x=>.tup [.int i,x]
section
variable {K:PySem.W.Frag} {Hs:Hp} {J:It} {ds:List D} {C C':Hp->Hp->Prop} {a:Addr}
theorem gH.imp (S:gH K J ds C) (h:∀ Hs H,C' Hs H->C Hs H):gH K J ds C':=⟨fun i Hs H c=>S.go i Hs H (h _ _ c),fun i Hs H x H' d c=>S.yld i Hs H x H' d (h _ _ c),fun Hs H c=>S.stop Hs H (h _ _ c)⟩
theorem gH.seq (rs:Reps K Hs ds vs) (S:gB J vs fun H=>Same Hs H):tY K Hs J ds where
 go:=fun i G H s w h=>S.go i H (s.trans w.sub) (by rw [<- rs.length]; exact h)
 yld:=fun i G H x H' d s w h y=>by
  have hi:i<ds.length:=by
   rcases Nat.lt_or_ge i ds.length with q | q
   ·exact q
   ·rw [xbx q] at h; cases h
  obtain ⟨e,z⟩:=S.yld i H x H' (s.trans w.sub) (by rw [<- rs.length]; exact hi) y
  subst e
  obtain ⟨d',ed,rd⟩:=rs.getV z
  rw [h] at ed; cases ed
  exact ⟨G,Grow.refl w,rd.same s⟩
 stop:=fun G H s w=>by rw [rs.length]; exact S.stop H (s.trans w.sub)
abbrev uB (K:PySem.W.Frag) (a:Addr) (ds:List D) (C:Hp->Hp->Prop):Prop:=∀ Hs H,C Hs H->Wf Hs H->∃ vs,SqL K H a vs/\Reps K Hs ds vs
theorem gH.list (h:uB K a ds C):gH K (Itl K a) ds C where
 go:=fun i G H c w hi=>by
  obtain ⟨vs,q,rs⟩:=h G H c w
  exact ⟨vs,vs[i]'(by rw [<- rs.length]; exact hi),q,by simp⟩
 yld:=fun i G H x H' d c w hd y=>by
  obtain ⟨vs,q,rs⟩:=h G H c w
  obtain ⟨rfl,y⟩:=y
  obtain ⟨d',ed,rd⟩:=rs.getV (y vs q)
  rw [hd] at ed; cases ed
  exact ⟨G,Grow.refl w,rd⟩
 stop:=fun G H c w=>by
  obtain ⟨vs,q,rs⟩:=h G H c w
  exact ⟨vs,q,by rw [rs.length]; exact xae _⟩
theorem gH.enum (h:uB K a ds C):gH K (Ite K a) (ju ds) C where
 go:=fun i G H c w hi=>by
  obtain ⟨vs,q,rs⟩:=h G H c w
  have hi:i<ds.length:=by simpa [ju] using hi
  exact ⟨vs,vs[i]'(by rw [<- rs.length]; exact hi),q,by simp⟩
 yld:=fun i G H x H' d c w hd y=>by
  obtain ⟨vs,q,rs⟩:=h G H c w
  obtain ⟨p,v,rfl,hp,rfl,y⟩:=y
  obtain ⟨d',ed,rd⟩:=rs.getV (y vs q)
  have:d=.tup [.int i,d']:=by
   simp only [ju,List.getElem?_mapIdx,ed,xbI] at hd
   cases hd; rfl
  subst this
  have g:=newT (vs:=[.int i,v]) w hp
  exact ⟨_,g,.tup (vs:=[.int i,v]) wD upd_same (.cons (.int _) (.cons (rd.same g.sh) .nil))⟩
 stop:=fun G H c w=>by
  obtain ⟨vs,q,rs⟩:=h G H c w
  exact ⟨vs,q,by rw [ju,List.length_mapIdx,rs.length]; exact xae _⟩
theorem tK (s:SqL K Hs a vs) (rs:Reps K Hs ds vs):uB K a ds fun G _=>Same Hs G:=fun G H c w=>⟨vs,Same.seq (c.trans w.sub) s,rs.same c⟩
end
def tpI (K:PySem.W.Frag) (wi:WI):TI:=fun σ H R=>∃ Hs ρ tot Q,SRel K Hs ρ σ H tot/\wi ρ Q/\∀ J H' Hs' ds,Grow Hs H Hs' H'->tY K Hs' J ds->ds.length<=sizeLine->Q ds->R J H'
abbrev QI (X:Cx) (K:PySem.W.Frag) (tg iter:Expr) (wi:WI):Prop:=PI X tg iter (tpI K wi)
def gK:Md->Prop
 | .bo=>False
 | _=>True
def fG (te:WE):WI:=fun ρ Q=>te ρ fun m d=>gK m/\match d with
 | .list xs=>Q xs
 | _=>False
def qW (te:WE):WI:=fun ρ Q=>te ρ fun m d=>gK m/\match d with
 | .tup xs=>Q xs
 | _=>False
def sgnD (z:Str):List D:=z.cps.toList.map fun c=>.str ⟨#[c]⟩
def uR (te:WE):WI:=fun ρ Q=>te ρ fun _ d=>match d with
 | .str z=>Q (sgnD z)
 | _=>False
def gF (lo:Int) (n:Nat):List D:=(List.range n).map fun i=>.int (lo+(i:Nat))
def iI (te:WE):WI:=fun ρ Q=>te ρ fun _ d=>match d with
 | .int j=>j<=16777216/\-(2 ^ 62)<=j/\Q (gF 0 j.toNat)
 | _=>False
section
variable {X:Cx} {K:PySem.W.Frag} {e e2 tg:Expr} {te te2:WE} {pos p:Pos}
theorem PI.imp (h:PI X tg iter t) (i:∀ σ H R,t' σ H R->t σ H R):PI X tg iter t':=fun pins s σ H R I q=>h pins s σ H R I (i σ H R q)
theorem gB.imp {J:It} (s:gB J vs c) (h:∀ H,c' H->c H):gB J vs c':=⟨fun i H q=>s.go i H (h H q),fun i H x H' q=>s.yld i H x H' (h H q),fun H q=>s.stop H (h H q)⟩
theorem RM.oA (g:Grow Hs H Hs1 H1) (r:RM K Hs1 H1 m d v As) (f:bZ Hs1 H As) (h:gK m):∃ Hs2,Grow Hs H Hs2 H1/\Rep K Hs2 d v:=by
 cases m with
 | sh=>exact ⟨Hs1,g,r.2⟩
 | bo=>exact h.elim
 | ow fl =>
  have n:∀ a∈As,Hs1 a=none:=fun a ha=>(f.2 a ha).1
  have o:=r.own
  refine ⟨frzH Hs1 H1 As,⟨g.all,g.sh.trans (fW n),rC g.wf o,fun a h=>?_⟩,RepO.rep (fW n) r.1 fun a ha=>by unfold frzH; rw [if_pos ha]⟩
  unfold frzH at h
  by_cases m:a∈As
  ·exact .inr (f.2 a m).2
  ·rw [if_neg m] at h; exact g.new a h
theorem gk (he:QE X K e te) (hK:X.K=K:=by rfl):QI X K tg e (fG te):=by
 subst hK
 refine PI.imp (pi_list he) fun σ H R hx=>ex4 hx fun Hs ρ tot Q sr h k=>⟨Hs,ρ,tot,_,sr,h,fun v H1 Hs1 m d As g1 r1 f1 q1=>?_⟩
 obtain ⟨nb,q1⟩:=q1
 obtain ⟨Hs2,g2,r2⟩:=r1.oA g1 f1 nb
 cases r2 with
 | list z s rs=>exact ⟨_,rfl,⟨_,Same.seq g2.wf.sub s⟩,k _ H1 Hs2 _ g2 (.seq rs (gB.imp (vy X.K _ _) fun H' s'=>Same.seq s' s)) (by rw [rs.length]; exact z) q1⟩
 | _=>exact q1.elim
theorem wO (he:QE X K e te) (hK:X.K=K:=by rfl):QI X K tg e (qW te):=by
 subst hK
 refine PI.imp (pi_tup he) fun σ H R hx=>ex4 hx fun Hs ρ tot Q sr h k=>⟨Hs,ρ,tot,_,sr,h,fun v H1 Hs1 m d As g1 r1 f1 q1=>?_⟩
 obtain ⟨nb,q1⟩:=q1
 obtain ⟨Hs2,g2,r2⟩:=r1.oA g1 f1 nb
 cases r2 with
 | tup z s rs=>exact ⟨_,rfl,⟨_,.inl (.inl (g2.wf.sub _ _ s))⟩,k _ H1 Hs2 _ g2 (.seq rs (gB.imp (zp X.K _ _) fun H' s'=>.inl (.inl (s' _ _ s)))) (by rw [rs.length]; exact z) q1⟩
 | _=>exact q1.elim
theorem pL:∀ (l:List Nat),Reps K H (l.map fun c=>.str ⟨#[c]⟩) (l.map fun c=>V.str ⟨#[c]⟩)
 | []=>.nil
 | c :: l=>.cons (.str (tZ c)) (pL l)
theorem Bu (he:QE X K e te):QI X K tg e (uR te):=by
 refine PI.imp (zN he) fun σ H R hx=>ex4 hx fun Hs ρ tot Q sr h k=>⟨Hs,ρ,tot,_,sr,h,fun v H1 Hs1 m d As g1 r1 f1 q1=>?_⟩
 have r:=r1.rep g1.wf
 cases r with
 | str hz=>exact ⟨_,rfl,k _ H1 Hs1 _ g1 (.seq (pL _) (gB.imp (yN _) fun _ _=>trivial)) (by rw [xab,xaI]; exact hz) q1⟩
 | _=>exact q1.elim
theorem iw (lo:Int):∀ (l:List Nat),Reps K H (l.map fun i=>.int (lo+(i:Nat))) (l.map fun i=>V.int (lo+(i:Nat)))
 | []=>.nil
 | c :: l=>.cons (.int _) (iw lo l)
theorem lD (hm:X.mg "range" = none) (he:QE X K e te) (hg:Gl X "range" := by rfl) (hs:starEach [e] X.env=(false,eval e X.env) :: starEach [] X.env:=by rfl) (hs':starEach [e] X.env=[(false,eval e X.env)]:=by rfl):QI X K tg (.Call (.Name "range" p) [e] [] pos) (iI te):=by
 refine PI.imp (pi_range1 hg hm (pa_cons he pa_nil hs) hs') fun σ H R hx=>ex4 hx fun Hs ρ tot Q sr h k=>⟨Hs,ρ,tot,_,sr,h,fun v H1 Hs1 m d As g1 r1 f1 q1=>?_⟩
 have r:=r1.rep g1.wf
 cases r with
 | int j =>
  obtain ⟨h1,h2,q1⟩:=q1
  exact ⟨j,rfl,h2,by lia,k _ H1 Hs1 _ g1 (.seq (iw 0 _) (gB.imp (yf _ _) fun _ _=>trivial)) (by rw [xab,xbO,sizeLine_eq]; lia) q1⟩
 | _=>exact q1.elim
section
variable {X:Cx} {K:PySem.W.Frag} {e tg:Expr} {te:WE} {pos p:Pos}
def p_ (te:WE):WI:=fun ρ Q=>te ρ fun m d=>gK m/\match d with
 | .list xs=>Q (ju xs)
 | _=>False
theorem xu (hm:X.mg "enumerate" = none) (he:QE X K e te) (hK:X.K=K:=by rfl) (hg:Gl X "enumerate" := by rfl) (hs:starEach [e] X.env=(false,eval e X.env) :: starEach [] X.env:=by rfl) (hs':starEach [e] X.env=[(false,eval e X.env)]:=by rfl) :
  QI X K (.Tuple elts kk tp) (.Call (.Name "enumerate" p) [e] [] pos) (p_ te):=by
 subst hK
 refine PI.imp (za hg hm (pa_cons he pa_nil hs) hs') fun σ H R hx=>ex4 hx fun Hs ρ tot Q sr h k=>⟨Hs,ρ,tot,_,sr,h,fun v H1 Hs1 m d As g1 r1 f1 q1=>?_⟩
 obtain ⟨nb,q1⟩:=q1
 obtain ⟨Hs2,g2,r2⟩:=r1.oA g1 f1 nb
 cases r2 with
 | list z s rs=>exact ⟨_,rfl,⟨_,Same.seq g2.wf.sub s⟩,k _ H1 Hs2 _ g2 (.enum (tK s rs)) (by rw [ju,List.length_mapIdx,rs.length]; exact z) q1⟩
 | _=>exact q1.elim
def tpIb (K:PySem.W.Frag) (wi:WI):TI:=fun σ H R=>∃ Hs ρ tot Q,SRel K Hs ρ σ H tot/\wi ρ Q/\∀ J H' Hs' ds,Grow Hs H Hs' H'->tY K H' J ds->ds.length<=sizeLine->Q ds->R J H'
abbrev QIb (X:Cx) (K:PySem.W.Frag) (tg iter:Expr) (wi:WI):Prop:=PI X tg iter (tpIb K wi)
theorem wA (h:QI X K tg iter wi):QIb X K tg iter wi:=PI.imp h fun σ H R hx=>ex4 hx fun Hs ρ tot Q sr h k=>⟨Hs,ρ,tot,Q,sr,h,fun J H' Hs' ds g w z q=>k J H' Hs' ds g (w.imp fun G H s=>g.wf.sub.trans s) z q⟩
end
def gm (g:WG) (b:WS) (E:nF):List D->Env->Prop
 | [],ρ=>E.nx ρ
 | x :: xs,ρ=>g x ρ fun ρ1=>b { E with nx:=gm g b E xs,ct:=gm g b E xs,bk:=E.nx } ρ1
def wFor (wi:WI) (g:WG) (b:WS):WS:=fun E ρ=>wi ρ fun ds=>gm g b E ds ρ
variable {wi:WI} {g:WG} {b:WS} {body:List Stmt}
theorem dB (hp:PassesOwn (model X.prog X.w) X.A X.env X.xe) (hc:X.calm=true) (hi:QI X K tg iter wi) (hg:QG X K tg g) (hb:QSs X K L body b) (hs:∀ x,foldedSetIterable iter X.env x=pure x:=by intro _; rfl) :
  QS X K L (.For tg iter body [] pos) (wFor wi g b):=by
 refine PS.imp (ps_for hp hc hi hg hb hs) fun D σ H hx=>cY hx fun Hs ρ tot E sr h k1 k2 k3 k4 kx=>?_
 rw [tW]
 refine ⟨Hs,ρ,tot,_,sr,h,fun J H1 Hs1 ds g1 S hz q1=>?_⟩
 refine ⟨fun i m σ H=>m=ds.length - i/\i<=ds.length/\∃ Hs' ρ' tot',Same Hs1 Hs'/\SRel K Hs' ρ' σ H tot'/\gm g b E (ds.drop i) ρ',⟨ds.length,by simp,xao _,Hs1,ρ,tot,Same.refl _,sr.grow g1,by simpa using q1⟩,?_⟩
 rintro i m σ2 H2 ⟨rfl,hi,Hs2,ρ2,tot2,s2,sr2,q2⟩
 by_cases hlt:i<ds.length
 ·refine .inr ⟨S.go i Hs2 H2 s2 sr2.wf hlt,fun σ3 H3=>∃ Hs' ρ' tot',Same Hs1 Hs'/\SRel K Hs' ρ' σ3 H3 tot'/\gm g b E (ds.drop (i+1)) ρ',fun σ3 H3 h3=>⟨ds.length - (i+1),by lia,rfl,hlt,h3⟩,fun x H3 y=>?_⟩
  obtain ⟨Hs3,g3,rd⟩:=S.yld i Hs2 H2 x H3 ds[i] s2 sr2.wf (by simp [hlt]) y
  rw [xaL hlt] at q2
  have s3:=s2.trans g3.sh
  refine ⟨Hs3,ρ2,tot2,ds[i],_,sr2.grow g3,rd,q2,fun σ4 ρ4 tot4 sr4 _ q4=>?_⟩
  refine ⟨Hs3,ρ4,tot4,_,sr4,q4,?_,?_,?_,?_,fun n H5 s5=>kx n H5 ((g1.sh.trans s3).trans s5)⟩
  ·exact fun σ5 H5 Hs5 ρ5 tot5 s5 sr5 q5=>⟨Hs5,ρ5,tot5,s3.trans s5,sr5,q5⟩
  ·exact fun σ5 H5 Hs5 ρ5 tot5 s5 sr5 q5=>k1 σ5 H5 Hs5 ρ5 tot5 ((g1.sh.trans s3).trans s5) sr5 q5
  ·exact fun σ5 H5 Hs5 ρ5 tot5 s5 sr5 q5=>⟨Hs5,ρ5,tot5,s3.trans s5,sr5,q5⟩
  ·exact fun v H5 Hs5 m d As s5=>k4 v H5 Hs5 m d As ((g1.sh.trans s3).trans s5)
 ·have e:i=ds.length:=by lia
  subst e
  refine .inl ⟨S.stop Hs2 H2 s2 sr2.wf,?_⟩
  rw [xbD] at q2
  exact k1 σ2 H2 Hs2 ρ2 tot2 (g1.sh.trans s2) sr2 q2
theorem bM (xs:List D) (Pv:Nat->Env->Prop) (h0:Pv 0 ρ)
  (hs:∀ i x ρ,xs[i]? = some x->Pv i ρ->∀ N:Env->Prop,(∀ ρ',Pv (i+1) ρ'->N ρ')->g x ρ fun ρ1=>b { E with nx:=N,ct:=N,bk:=E.nx } ρ1)
  (hd:∀ ρ,Pv xs.length ρ->E.nx ρ):gm g b E xs ρ:=by
 have go:∀ (k i:Nat) (ρ:Env),i+k=xs.length->Pv i ρ->gm g b E (xs.drop i) ρ:=by
  intro k
  induction k with
  | zero =>
   intro i ρ e p
   have:i=xs.length:=by lia
   subst this
   rw [xbD]
   exact hd ρ p
  | succ k ih =>
   intro i ρ e p
   have hi:i<xs.length:=by lia
   rw [xaL hi]
   exact hs i xs[i] ρ (by simp [hi]) p _ fun ρ2 h2=>ih (i+1) ρ2 (by lia) h2
 have:=go xs.length 0 ρ (by lia) h0
 simpa using this
def sX (c:WT) (b:WS):WS:=fun E ρ=>∃ (Pv:Env->Prop) (μ:Env->Nat),Pv ρ/\∀ ρ,Pv ρ->c ρ fun k=>if k=true then b { E with nx:=fun ρ'=>Pv ρ'/\μ ρ'<μ ρ,ct:=fun ρ'=>Pv ρ'/\μ ρ'<μ ρ,bk:=E.nx } ρ else E.nx ρ
theorem oX (hp:PassesOwn (model X.prog X.w) X.A X.env X.xe) (hc:QT X K c tc) (hb:QSs X K L body b):QS X K L (.While c body [] pos) (sX tc b):=by
 refine PS.imp (ps_while hp hc hb) fun D σ H hx=>cY hx fun Hs ρ tot E sr h k1 k2 k3 k4 kx=>?_
 obtain ⟨Pv,μ,p0,turn⟩:=h
 refine ⟨fun m σ H=>∃ Hs' ρ' tot',Same Hs Hs'/\SRel K Hs' ρ' σ H tot'/\Pv ρ'/\μ ρ'=m,⟨_,Hs,ρ,tot,Same.refl _,sr,p0,rfl⟩,?_⟩
 rintro m σ2 H2 ⟨Hs2,ρ2,tot2,s2,sr2,p2,rfl⟩
 refine ⟨Hs2,ρ2,tot2,_,sr2,turn ρ2 p2,fun k H3 Hs3 g3 q3=>?_⟩
 cases k with
 | false=>exact k1 σ2 H3 Hs3 ρ2 tot2 (s2.trans g3.sh) (sr2.grow g3) q3
 | true =>
  refine ⟨fun σ' H'=>∃ Hs' ρ' tot',Same Hs Hs'/\SRel K Hs' ρ' σ' H' tot'/\Pv ρ'/\μ ρ'<μ ρ2,fun σ' H' ⟨Hs',ρ',tot',a,b,c,d⟩=>⟨μ ρ',d,Hs',ρ',tot',a,b,c,rfl⟩,?_⟩
  have s3:Same Hs Hs3:=s2.trans g3.sh
  refine ⟨Hs3,ρ2,tot2,_,sr2.grow g3,q3,?_,?_,?_,?_,fun n H5 s5=>kx n H5 (s3.trans s5)⟩
  ·exact fun σ5 H5 Hs5 ρ5 tot5 s5 sr5 q5=>⟨Hs5,ρ5,tot5,s3.trans s5,sr5,q5.1,q5.2⟩
  ·exact fun σ5 H5 Hs5 ρ5 tot5 s5 sr5 q5=>k1 σ5 H5 Hs5 ρ5 tot5 (s3.trans s5) sr5 q5
  ·exact fun σ5 H5 Hs5 ρ5 tot5 s5 sr5 q5=>⟨Hs5,ρ5,tot5,s3.trans s5,sr5,q5.1,q5.2⟩
  ·exact fun v H5 Hs5 m d As s5=>k4 v H5 Hs5 m d As (s3.trans s5)
end
def wYes:WT:=fun _ Q=>Q true
def okEl (m:Md) (d:D):Prop:=d.flat=true\/m=.ow true
def fQ (g:WG) (tc:WT) (te:WE):List D->Env->(List D->Prop)->Prop
 | [],_,k=>k []
 | x :: xs,ρ,k=>g x ρ fun ρ1=>tc ρ1 fun b=>if b=true then te ρ1 fun m d=>okEl m d/\fQ g tc te xs ρ1 (fun out=>k (d :: out)) else fQ g tc te xs ρ1 k
def xW (tn:Nat) (ix:List Nat) (ρ:Env):Env:=List.replicate tn none++ix.map fun j=>(ρ[j]?).join.map shC
def rW (wi:WI) (g:WG) (tc:WT) (te:WE) (tn:Nat) (ix:List Nat):WE:=fun ρ Q=>wi ρ fun ds=>fQ g tc te ds (xW tn ix ρ) fun out=>Q (.ow true) (.list out)
section
variable {X:Cx} {K:PySem.W.Frag}
theorem jB {Hs H G:Hp} (sr:SRel K Hs ρ σ H tot) (G':Hp):∀ (ix:List Nat),SR K H G' (ix.map fun j=>(ρ[j]?).join.map shC) (ix.map fun j=>(σ[j]?).join) []
 | []=>.nil
 | j :: ix=>by
  have ih:=jB sr G' ix (G:=G)
  simp only [xat]
  cases e:ρ[j]? with
  | none=>exact .non ih
  | some o =>
   cases o with
   | none=>exact .non ih
   | some sl =>
    obtain ⟨v,e1,r⟩:=sr.sr.get e
    rw [e1]
    cases sl with
    | sh d=>exact .sh (Rep.same sr.wf.sub r) ih
    | xc a=>subst r; exact .xc ih
    | ow fl d =>
     obtain ⟨As,_,r,_⟩:=r
     exact .sh (r.rep sr.wf.sub fun _ _=>rfl) ih
    | lk a fl d =>
     obtain ⟨As,_,r,_⟩:=r
     exact .sh (r.rep sr.wf.sub fun _ _=>rfl) ih
theorem mJ (s:SR K H G ρ σ []):∀ (n:Nat),SR K H G (List.replicate n none++ρ) (List.replicate n none++σ) []
 | 0=>s
 | n+1=>.non (mJ s n)
theorem SR.heap (s:SR K Hs H ρ σ []):SR K Hs H' ρ σ []:=s.stay (Same.refl _) fun a h=>nomatch h
theorem ph (w:Wf Hs H) (n:Hs p=none) (ho:∀ vs,o≠.tup vs):Wf Hs (upd H p o):=⟨fun b u q=>by
  rw [upd_ne (fun z=>by subst z; rw [n] at q; cases q)]; exact w.sub b u q,fun b us q=>by
  by_cases hb:b=p
  ·subst hb; rw [upd_same] at q; exact absurd (Option.some.inj q) (ho us)
  ·rw [upd_ne hb] at q; exact w.tups b us q⟩
structure CompI (K:PySem.W.Frag) (H1:Hp) (b:Addr) (acc:List D) (ys:List V) (As:List Addr) (Hs:Hp) (ρ:Env) (τ:St) (H:Hp):Prop where
 sm:Same H1 Hs
 sr:SRel K Hs ρ τ H []
 eD:H b=some (.lst ys)
 nD:Hs b=none
 ra:aq K Hs H true acc ys As
 nd:(b :: As).Nodup
 own:∀ a∈As,Hs a=none
theorem CompI.grow (c:CompI K H1 b acc ys As Hs ρ τ H) (g:Grow Hs H Hs' H'):CompI K H1 b acc ys As Hs' ρ τ H' :=
 ⟨c.sm.trans g.sh,c.sr.grow g,g.all _ _ c.eD,g.hsn c.nD (by rw [c.eD]; exact fun z=>nomatch z),c.ra.grow g.sh g.all,c.nd,fun a ha=>g.hsn (c.own a ha) (c.ra.own a ha).ne⟩
theorem CompI.push (c:CompI K H1 b acc ys As Hs ρ τ H) (r:RM K Hs H m d v Bs) (ok:okEl m d) (nb:Bs.Nodup) (fb:∀ a∈Bs,Hs a=none/\a∉b :: As):∃ As',CompI K H1 b (acc++[d]) (ys++[v]) As' Hs ρ τ (upd H b (.lst (ys++[v]))):=by
 obtain ⟨B,sb,rb⟩:∃ B,B.Sublist Bs/\RepO K Hs H true d v B:=by
  rcases ok with hf | rfl
  ·exact ⟨[],xa2 _,.sh (fun _=>hf) (r.flat c.sr.wf hf)⟩
  ·exact ⟨Bs,List.Sublist.refl _,r.1⟩
 obtain ⟨na,nA⟩:=xax.mp c.nd
 have fb':=fun a ha=>fb a (sb.subset ha)
 refine ⟨As++(B++[]),c.sm,⟨c.sr.sr.heap,ph c.sr.wf c.nD (fun _ z=>nomatch z),xay,fun a h=>nomatch h⟩,upd_same,c.nD,(c.ra.stay (H':=upd H b (.lst (ys++[v]))) (Same.refl _) fun a ha=>upd_ne fun z=>na (by subst z; exact ha)).append (.cons (rb.stay (Same.refl _) fun a ha=>upd_ne fun z=>(fb' a ha).2 (by subst z; exact xad)) .nil),?_,?_⟩
 ·rw [xaD]
  refine xax.mpr ⟨fun m=>(xag.mp m).elim na fun m=>(fb' b m).2 xad,xak.mpr ⟨nA,sb.nodup nb,fun x hx y hy e=>(fb' y hy).2 (e ▸ xac _ hx)⟩⟩
 ·rw [xaD]
  exact fun a ha=>(xag.mp ha).elim (c.own a) fun m=>(fb' a m).1
theorem tU (h:tpE K (rW wi g tc te tn ix) σ H Qv):vV (tpIb K wi) (tpG K g) (tpT K tc) (tpE K te) tn ix σ H Qv:=by
 obtain ⟨Hs,ρ,tot,Q,sr,h,f⟩:=h
 rw [vK]
 refine ⟨Hs,ρ,tot,_,sr,h,fun J H1 Hs1 ds g1 S hz q1 b hb=>?_⟩
 have st:CompI K H1 b [] [] [] H1 (xW tn ix ρ) (jZ tn ix σ) (upd H1 b (.lst [])):=by
  refine ⟨Same.refl _,⟨mJ (jB (G:=H1) (sr.grow g1) _ ix) tn,⟨(Same.refl H1).upd hb,fun a xs e=>?_⟩,xay,fun a h=>nomatch h⟩,upd_same,hb,.nil,by simp,fun a h=>nomatch h⟩
  by_cases ha:a=b
  ·subst ha; rw [upd_same] at e; cases e
  ·rw [upd_ne ha] at e; exact e
 refine ⟨fun i m τ H2=>m=ds.length - i/\i<=ds.length/\∃ Hs2 ρ2 acc ys As,CompI K H1 b acc ys As Hs2 ρ2 τ H2/\acc.length<=i/\fQ g tc te (ds.drop i) ρ2 (fun out=>Q (.ow true) (.list (acc++out))),
  ⟨ds.length,by simp,xao _,H1,_,[],[],[],st,xae _,by simpa using q1⟩,?_⟩
 rintro i m τ H2 ⟨rfl,hi,Hs2,ρ2,acc,ys,As,c,la,q2⟩
 by_cases hlt:i<ds.length
 ·refine .inr ⟨S.go i Hs2 H2 c.sm c.sr.wf hlt,
   fun τ3 v H4=>∃ Hs4 ρ4 d,CompI K H1 b acc ys As Hs4 ρ4 τ3 H4/\(∃ As',CompI K H1 b (acc++[d]) (ys++[v]) As' Hs4 ρ4 τ3 (upd H4 b (.lst (ys++[v]))))/\fQ g tc te (ds.drop (i+1)) ρ4 (fun out=>Q (.ow true) (.list (acc++d :: out))),
   fun τ3 H3=>∃ Hs3 ρ3,CompI K H1 b acc ys As Hs3 ρ3 τ3 H3/\fQ g tc te (ds.drop (i+1)) ρ3 (fun out=>Q (.ow true) (.list (acc++out))),?_,?_,?_⟩
  ·rintro τ3 v H4 ⟨Hs4,ρ4,d,c4,⟨As',c5⟩,q4⟩
   have lya:=c4.ra.length
   exact ⟨ys,ds.length - (i+1),c4.eD,by lia,by lia,rfl,hlt,Hs4,ρ4,acc++[d],ys++[v],As',c5,by rw [xaB]; simpa using la,by simpa using q4⟩
  ·rintro τ3 H3 ⟨Hs3,ρ3,c3,q3⟩
   exact ⟨ds.length - (i+1),by lia,rfl,hlt,Hs3,ρ3,acc,ys,As,c3,by lia,q3⟩
  ·intro x H3 y
   obtain ⟨Hs3,g3,rd⟩:=S.yld i Hs2 H2 x H3 ds[i] c.sm c.sr.wf (by simp [hlt]) y
   rw [xaL hlt] at q2
   have c3:=c.grow g3
   refine ⟨Hs3,ρ2,[],ds[i],_,c3.sr,rd,q2,fun τ4 ρ4 tot4 sr4 m4 q4=>?_⟩
   have t4:tot4=[]:=List.eq_nil_iff_forall_not_mem.mpr fun a ha=>nomatch m4 a ha
   subst t4
   have c4:CompI K H1 b acc ys As Hs3 ρ4 τ4 H3:=⟨c3.sm,sr4,c3.eD,c3.nD,c3.ra,c3.nd,c3.own⟩
   refine ⟨Hs3,ρ4,[],_,sr4,q4,fun k H5 Hs5 g5 q5=>?_⟩
   have c5:=c4.grow g5
   cases k with
   | false=>exact ⟨Hs5,ρ4,c5,q5⟩
   | true =>
    refine ⟨Hs5,ρ4,[],_,c5.sr,q5,fun v H6 Hs6 m6 d6 As6 g6 r6 f6 q6=>?_⟩
    have c6:=c5.grow g6
    refine ⟨Hs6,ρ4,d6,c6,c6.push r6 q6.1 f6.1 fun a ha=>⟨(f6.2 a ha).1,fun m=>?_⟩,q6.2⟩
    rcases xam.mp m with rfl | m
    ·have:=(f6.2 _ ha).2
     rw [c5.eD] at this; cases this
    ·exact (c5.ra.own a m).ne (f6.2 a ha).2
 ·have e:i=ds.length:=by lia
  subst e
  refine .inl ⟨S.stop Hs2 H2 c.sm c.sr.wf,?_⟩
  rw [xbD] at q2
  have q2:Q (.ow true) (.list (acc++[])):=q2
  rw [xaD] at q2
  have lya:=c.ra.length
  have rm:RM K Hs2 H2 (.ow true) (.list acc) (.ref b) (b :: As):=⟨.list (by lia) c.eD c.ra,by simp⟩
  obtain ⟨As',r',fr⟩:=oF g1.wf c.sm c.sr.wf rm c.nd fun a ha=>(xam.mp ha).elim (fun z=>z ▸ c.nD) (c.own a)
  exact Fin.after f g1 (.ref b) H2 _ (.ow true) (.list acc) As' (eZ g1.wf c.sm c.sr.wf) r' fr q2
theorem PTs.imp (h:PTs X ifs t) (i:∀ σ H Q,t' σ H Q->t σ H Q):PTs X ifs t':=fun pins s σ H Q I q=>h pins s σ H Q I (i σ H Q q)
abbrev QTs (X:Cx) (K:PySem.W.Frag) (ifs:List Expr) (t:WT):Prop:=PTs X ifs (tpT K t)
theorem uw:QTs X K [] wYes:=PTs.imp w6 fun σ H Qv hx=>ex4 hx fun Hs ρ tot Q sr h k=>k true H Hs (Grow.refl sr.wf) h
theorem wW (hc:X.calm=true) (hi:QIb X K tg iter wi) (O:gA X scope tn cn ix)
  (hg:∀ C fp s₃ H₃,QG (bD X scope C (tn++cn) fp s₃ H₃) K tg g) (hcs:∀ C fp s₃ H₃,QTs (bD X scope C (tn++cn) fp s₃ H₃) K ifs tc) (he:∀ C fp s₃ H₃,QE (bD X scope C (tn++cn) fp s₃ H₃) K elt te)
  (hs:∀ x,foldedSetIterable iter X.env x=pure x:=by intro _; rfl):QE X K (.ListComp elt [⟨tg,iter,ifs,0⟩] scope pos) (rW wi g tc te tn.length ix) :=
 PE.imp (yw hc hi O hg hcs he hs) fun σ H Qv h=>tU h
end
theorem lN (p:D->Bool) (f:D->D) (Iv:Env->Prop):∀ (xs:List D) (ρ:Env) (k:List D->Prop),Iv ρ ->
  (∀ x∈xs,∀ ρ,Iv ρ->∀ N1:Env->Prop,∀ N2:Env->D->Prop,(∀ ρ',Iv ρ'->p x=false->N1 ρ')->(∀ ρ',Iv ρ'->p x=true->N2 ρ' (f x))->g x ρ fun ρ1=>tc ρ1 fun b=>if b=true then te ρ1 fun m d=>okEl m d/\N2 ρ1 d else N1 ρ1) ->
  k ((xs.filter p).map f)->fQ g tc te xs ρ k
 | [],_,k,_,_,h=>h
 | x :: xs,ρ,k,iv,hs,h=>by
  refine hs x xad ρ iv _ _ (fun ρ' iv' hp=>?_) (fun ρ' iv' hp=>?_)
  ·exact lN p f Iv xs ρ' k iv' (fun y hy=>hs y (xac _ hy)) (by simpa [hp] using h)
  ·exact lN p f Iv xs ρ' _ iv' (fun y hy=>hs y (xac _ hy)) (by simpa [hp] using h)
def Upd (K:PySem.W.Frag) (Hs H:Hp) (σ:St) (fl:Bool) (v:V) (up:Bool->D->Env) (As':List Addr):Prop:=∀ Hs2 H2 fl2 d2 As2,Same Hs Hs2->Wf Hs2 H2->(∀ a,Hs a=none->H a≠none->Hs2 a=none)->(fl2=true->fl=true) ->
  RepO K Hs2 H2 fl2 d2 v As2->As2≠[]->As2.Nodup->(∀ a∈As2,Hs2 a=none/\(a∈As'\/H a=none))->(∀ a,H a≠none->a∉As'->H2 a=H a)->∃ tot2,SRel K Hs2 (up fl2 d2) σ H2 tot2
structure Place (K:PySem.W.Frag) (Hs H:Hp) (σ:St) (fl:Bool) (d:D) (v:V) (up:Bool->D->Env):Prop where
 ex:∃ As',RepO K Hs H fl d v As'/\As'≠[]/\As'.Nodup/\(∀ a∈As',Hs a=none)/\Upd K Hs H σ fl v up As'
theorem Upd.node {K:PySem.W.Frag} (k:Upd K Hs H σ fl (.ref a) up (a :: A)) (g:Grow Hs H Hs2 H2) (own:∀ x∈a :: A,Hs x=none/\H x≠none) (ho:∀ vs,o≠.tup vs) (hf:fl2=true->fl=true)
  (r:RepO K Hs2 (upd H2 a o) fl2 d2 (.ref a) (a :: C)) (nC:C.Nodup) (naC:a∉C) (hC:∀ x∈C,x∈A\/(Hs2 x=none/\H x=none)):∃ tot2,SRel K Hs2 (up fl2 d2) σ (upd H2 a o) tot2:=by
 have hn:∀ x∈a :: A,Hs2 x=none:=fun x hx=>g.hsn (own x hx).1 (own x hx).2
 refine k Hs2 _ fl2 d2 (a :: C) g.sh (ph g.wf (hn a xad) ho) (fun b h1 h2=>g.hsn h1 h2) hf r (xb0 _ _) (xax.mpr ⟨naC,nC⟩) (fun b hb=>?_) fun b h1 h2=>?_
 ·rcases xam.mp hb with rfl | hb
  ·exact ⟨hn _ xad,.inl xad⟩
  ·exact (hC b hb).elim (fun q=>⟨hn b (xac _ q),.inl (xac _ q)⟩) fun q=>⟨q.1,.inr q.2⟩
 ·rw [upd_ne fun z=>h2 (by subst z; exact xad)]
  cases q:H b with
  | none=>exact absurd q h1
  | some o=>exact g.all b o q
abbrev WP:=Env->(Bool->D->(Bool->D->Env)->Prop)->Prop
def tpP (K:PySem.W.Frag) (t:WP):TE:=fun σ H Qv=>∃ Hs ρ tot Q,SRel K Hs ρ σ H tot/\t ρ Q/\∀ v H' Hs' fl d up,Grow Hs H Hs' H'->Place K Hs' H' σ fl d v up->Q fl d up->Qv v H'
abbrev QP (X:Cx) (K:PySem.W.Frag) (e:Expr) (t:WP):Prop:=PE X e (tpP K t)
section
variable {K:PySem.W.Frag} {Hs H:Hp} {σ:St} {fl:Bool} {d:D} {v:V}
theorem RepO.ne2:(∀ {d:D} {v:V} {As:List Addr},RepO K Hs H true d v As->d.flat=false->As≠[])/\∀ {ds:List D} {vs:List V} {As:List Addr},aq K Hs H true ds vs As->flats ds=false->As≠[] :=
 RepO.ind (m1:=fun d _ As=>d.flat=false->As≠[]) (m2:=fun ds _ As=>flats ds=false->As≠[]) (fun _ _ f _ h=>by rw [f rfl] at h; cases h) (fun _ _ _ _ _ _ _ _ _=>xb0 _ _) (fun _ _ _ _ _ _ n _ ih _=>ih n) (fun _ _ _ _ _ _ _ _ _=>xb0 _ _) (fun _ _ _ _ _ _ _ _ _=>xb0 _ _)
  (fun h=>by simp [flats] at h) fun d _ _ _ _ _ _ _ i1 i2 h=>by
   cases e:d.flat with
   | false=>exact fun z=>i1 e (xbd.mp z).1
   | true =>
    simp only [flats,e,Bool.true_and] at h
    exact fun z=>i2 h (xbd.mp z).2
theorem RepO.ne (r:RepO K Hs H true d v As) (h:d.flat=false):As≠[]:=RepO.ne2.1 r h
theorem aq.ne (r:aq K Hs H true ds vs As) (h:flats ds=false):As≠[]:=RepO.ne2.2 r h
def wpN (i:Nat):WP:=fun ρ Q=>match ρ[i]? with
 | some (some (.ow fl d))=>Q fl d fun fl2 d2=>ρ.set i (some (.ow fl2 d2))
 | _=>False
theorem SR.put (i:Nat) (s:SR K Hs H ρ σ tot):ρ[i]? = some (some (.ow fl d))->tot.Nodup ->
  ∃ (v:V) (As tot':List Addr),σ[i]? = some (some v)/\As≠[]/\RepO K Hs H fl d v As/\As.Sublist tot/\∀ Hs2 H2 fl2 d2 As2,Same Hs Hs2->RepO K Hs2 H2 fl2 d2 v As2->As2≠[]->As2.Nodup->(∀ a∈As2,a∈tot->a∈As)->(∀ a∈tot,a∉As->H2 a=H a) ->
   ∃ tot2,tot2.Nodup/\(∀ a∈tot2,a∈tot\/a∈As2)/\SR K Hs2 H2 (ρ.set i (some (.ow fl2 d2))) σ tot2:=by
 induction s generalizing i with
 | nil=>intro e; simp at e
 | @non ρ σ tot o q ih =>
  intro e n
  cases i with
  | zero=>simp at e
  | succ i =>
   obtain ⟨v,As,t,a,b,c,d,g⟩:=ih i (by simpa using e) n
   refine ⟨v,As,t,by simpa using a,b,c,d,fun Hs2 H2 fl2 d2 As2 s2 r2 ne2 nd2 dj st=>?_⟩
   obtain ⟨t2,x,y,z⟩:=g Hs2 H2 fl2 d2 As2 s2 r2 ne2 nd2 dj st
   exact ⟨t2,x,y,.non z⟩
 | sh r q ih =>
  intro e n
  cases i with
  | zero=>simp at e
  | succ i =>
   obtain ⟨v,As,t,a,b,c,d,g⟩:=ih i (by simpa using e) n
   refine ⟨v,As,t,by simpa using a,b,c,d,fun Hs2 H2 fl2 d2 As2 s2 r2 ne2 nd2 dj st=>?_⟩
   obtain ⟨t2,x,y,z⟩:=g Hs2 H2 fl2 d2 As2 s2 r2 ne2 nd2 dj st
   exact ⟨t2,x,y,.sh (r.same s2) z⟩
 | xc q ih =>
  intro e n
  cases i with
  | zero=>simp at e
  | succ i =>
   obtain ⟨v,As,t,a,b,c,d,g⟩:=ih i (by simpa using e) n
   refine ⟨v,As,t,by simpa using a,b,c,d,fun Hs2 H2 fl2 d2 As2 s2 r2 ne2 nd2 dj st=>?_⟩
   obtain ⟨t2,x,y,z⟩:=g Hs2 H2 fl2 d2 As2 s2 r2 ne2 nd2 dj st
   exact ⟨t2,x,y,.xc z⟩
 | @ow ρ σ t2 B fl0 d0 v ne r q ih =>
  intro e n
  obtain ⟨n1,n2,n3⟩:=xak.mp n
  cases i with
  | zero =>
   simp at e
   obtain ⟨rfl,rfl⟩:=e
   refine ⟨v,B,t2,rfl,ne,r,xa5 _ _,fun Hs2 H2 fl2 d2 As2 s2 r2 ne2 nd2 dj st=>⟨As2++t2,xak.mpr ⟨nd2,n2,fun a ha b hb e=>?_⟩,fun a h=>?_,.ow ne2 r2 (q.stay s2 fun a h=>st a (xaf _ h) fun z=>n3 a z a h rfl)⟩⟩
   ·subst e
    exact n3 a (dj a ha (xaf _ hb)) a hb rfl
   ·exact (xag.mp h).symm.imp (fun z=>xaf _ z) id
  | succ i =>
   obtain ⟨v,As,t,a,b,c,d,g⟩:=ih i (by simpa using e) n2
   have hB:∀ x∈B,x∉As:=fun x hx m=>n3 x hx x (d.subset m) rfl
   refine ⟨v,As,B++t,by simpa using a,b,c,d.trans (xau _ _),fun Hs2 H2 fl2 d2 As2 s2 r2 ne2 nd2 dj st=>?_⟩
   obtain ⟨t2,x,y,z⟩:=g Hs2 H2 fl2 d2 As2 s2 r2 ne2 nd2 (fun a ha m=>dj a ha (xaf _ m)) fun a ha m=>st a (xaf _ ha) m
   refine ⟨B++t2,xak.mpr ⟨n1,x,fun a ha b hb e=>?_⟩,fun a h=>?_,.ow ne (r.stay s2 fun a h=>st a (xai _ h) (hB a h)) z⟩
   ·subst e
    rcases y a hb with w | w
    ·exact n3 a ha a w rfl
    ·exact hB a ha (dj a w (xai _ ha))
   ·rcases xag.mp h with w | w
    ·exact .inl (xai _ w)
    ·exact (y a w).imp (fun w=>xaf _ w) id
 | @lk ρ σ t2 B a0 fl0 d0 ne r q ih =>
  intro e n
  obtain ⟨n1,n2,n3⟩:=xak.mp n
  cases i with
  | zero=>simp at e
  | succ i =>
   obtain ⟨v,As,t,a,b,c,d,g⟩:=ih i (by simpa using e) n2
   have hB:∀ x∈B,x∉As:=fun x hx m=>n3 x hx x (d.subset m) rfl
   refine ⟨v,As,B++t,by simpa using a,b,c,d.trans (xau _ _),fun Hs2 H2 fl2 d2 As2 s2 r2 ne2 nd2 dj st=>?_⟩
   obtain ⟨t2,x,y,z⟩:=g Hs2 H2 fl2 d2 As2 s2 r2 ne2 nd2 (fun a ha m=>dj a ha (xaf _ m)) fun a ha m=>st a (xaf _ ha) m
   refine ⟨B++t2,xak.mpr ⟨n1,x,fun a ha b hb e=>?_⟩,fun a h=>?_,.lk ne (r.stay s2 fun a h=>st a (xai _ h) (hB a h)) z⟩
   ·subst e
    rcases y a hb with w | w
    ·exact n3 a ha a w rfl
    ·exact hB a ha (dj a w (xai _ ha))
   ·rcases xag.mp h with w | w
    ·exact .inl (xai _ w)
    ·exact (y a w).imp (fun w=>xaf _ w) id
theorem cB {X:Cx} (h:PE X e (tVar i)):QP X K e (wpN i):=PE.imp h fun σ H Qv hx=>ex4 hx fun Hs ρ tot Q sr h f=>by
 unfold wpN at h
 split at h
 ·rename_i fl d e1
  obtain ⟨v,As,t,e2,ne,r,sb,g⟩:=SR.put i sr.sr e1 sr.nod
  refine ⟨v,e2,f v H Hs fl d _ (Grow.refl sr.wf) ⟨As,r,ne,sb.nodup sr.nod,fun a h=>sr.own a (sb.subset h),fun Hs2 H2 fl2 d2 As2 s2 w2 n2 _ r2 ne2 nd2 o2 st=>?_⟩ h⟩
  obtain ⟨t2,x,y,z⟩:=g Hs2 H2 fl2 d2 As2 s2 r2 ne2 nd2 (fun a ha m=>(o2 a ha).2.elim id fun q=>absurd q (sr.sr.own a m).ne) fun a ha m=>st a (sr.sr.own a ha).ne m
  exact ⟨t2,z,w2,x,fun a h=>(y a h).elim (fun q=>n2 a (sr.own a q) (sr.sr.own a q).ne) fun q=>(o2 a q).1⟩
 ·exact h.elim
theorem RepO.wk (h:fl2=true->fl=true) (r:RepO K Hs H fl d v As):RepO K Hs H fl2 d v As:=by
 cases fl2 with
 | false=>exact r.fls
 | true=>rw [h rfl] at r; exact r
theorem aq.wk {fl fl2:Bool} {d:List D} {v:List V} {As:List Addr} (h:fl2=true->fl=true) (r:aq K Hs H fl d v As):aq K Hs H fl2 d v As:=by
 cases fl2 with
 | false=>exact r.fls
 | true=>rw [h rfl] at r; exact r
theorem aq.at (r:aq K Hs H fl ds vs As) (e:ds[j]? = some d) (n:As.Nodup) :
  ∃ (v:V) (B:List Addr),vs[j]? = some v/\RepO K Hs H fl d v B/\B.Sublist As/\∀ Hs2 H2 fl2 d2 B2,Same Hs Hs2->(fl2=true->fl=true)->RepO K Hs2 H2 fl2 d2 v B2->B2.Nodup->(∀ a∈B2,a∈As->a∈B)->(∀ a∈As,a∉B->H2 a=H a) ->
   ∃ As2,As2.Nodup/\(∀ a∈As2,(a∈As/\a∉B)\/a∈B2)/\(B2≠[]->As2≠[])/\aq K Hs2 H2 fl2 (ds.set j d2) vs As2:=by
 induction ds generalizing vs As j with
 | nil=>simp at e
 | cons x ds ih =>
  obtain ⟨v,us,A,B,rfl,rfl,r,rs⟩:=r.c
  obtain ⟨n1,n2,n3⟩:=xak.mp n
  cases j with
  | zero =>
   simp at e
   subst e
   refine ⟨v,A,rfl,r,xa5 _ _,fun Hs2 H2 fl2 d2 B2 s2 hf r2 nd2 dj st=>⟨B2++B,xak.mpr ⟨nd2,n2,fun a ha b hb e=>?_⟩,fun a h=>?_,fun ne z=>ne (xbd.mp z).1,.cons r2 ((rs.wk hf).stay s2 fun a h=>st a (xaf _ h) fun z=>n3 a z a h rfl)⟩⟩
   ·subst e
    exact n3 a (dj a ha (xaf _ hb)) a hb rfl
   ·rcases xag.mp h with w | w
    ·exact .inr w
    ·exact .inl ⟨xaf _ w,fun z=>n3 a z a w rfl⟩
  | succ j =>
   obtain ⟨v,C,a,b,c,g⟩:=ih (j:=j) rs (by simpa using e) n2
   have hA:∀ x∈A,x∉C:=fun x hx m=>n3 x hx x (c.subset m) rfl
   refine ⟨v,C,by simpa using a,b,c.trans (xau _ _),fun Hs2 H2 fl2 d2 B2 s2 hf r2 nd2 dj st=>?_⟩
   obtain ⟨As2,x,y,w,z⟩:=g Hs2 H2 fl2 d2 B2 s2 hf r2 nd2 (fun a ha m=>dj a ha (xaf _ m)) fun a ha m=>st a (xaf _ ha) m
   refine ⟨A++As2,xak.mpr ⟨n1,x,fun a ha b hb e=>?_⟩,fun a h=>?_,fun ne q=>w ne (xbd.mp q).2,.cons ((r.wk hf).stay s2 fun a h=>st a (xai _ h) (hA a h)) z⟩
   ·subst e
    rcases y a hb with q | q
    ·exact n3 a ha a q.1 rfl
    ·exact hA a ha (dj a q (xai _ ha))
   ·rcases xag.mp h with q | q
    ·exact .inl ⟨xai _ q,hA a q⟩
    ·exact (y a q).imp (fun q=>⟨xaf _ q.1,q.2⟩) id
end
section
variable {X:Cx} {K:PySem.W.Frag} {e:Expr} {p:WP} {te:WE} {apos cpos pos:Pos}
def jF (fl:Bool) (m:Md) (d:D):Option Bool:=match m with
 | .sh=>some (fl && d.flat)
 | .ow b=>some (fl && b)
 | .bo=>bif d.flat then some fl else none
def wApp (p:WP) (te:WE):WS:=fun E ρ=>p ρ fun fl d up=>match d with
 | .list xs=>te ρ fun m x=>xs.length<sizeLine/\match jF fl m x with
  | some fl2=>E.nx (up fl2 (.list (xs++[x])))
  | none=>False
 | _=>False
theorem vh (w:Wf Hs H) (r:RM K Hs H m d v As) (h:jF fl m d=some fl2):(fl2=true->fl=true)/\∃ B,B.Sublist As/\RepO K Hs H fl2 d v B:=by
 cases m with
 | sh =>
  cases h
  exact ⟨fun z=>by cases fl <;> simp_all,[],xa2 _,.sh (fun z=>by cases fl <;> simp_all) r.2⟩
 | ow b =>
  cases h
  refine ⟨fun z=>by cases fl <;> simp_all,As,List.Sublist.refl _,r.1.wk fun z=>by cases fl <;> simp_all⟩
 | bo =>
  cases hf:d.flat with
  | true =>
   simp only [jF,hf,cond_true,Option.some.injEq] at h
   subst h
   exact ⟨id,[],xa2 _,.sh (fun _=>hf) (r.flat w hf)⟩
  | false=>simp [jF,hf] at h
theorem Place.put (pl:Place K Hs1 H1 σ fl (.list xs) v up) (g:Grow Hs1 H1 Hs2 H2) :
  ∃ a vs A,v=.ref a/\H2 a=some (.lst vs)/\H1 a=some (.lst vs)/\aq K Hs2 H2 fl xs vs A/\(a :: A).Nodup/\(∀ x∈a :: A,Hs2 x=none/\H1 x≠none) /\
   ∀ fl2 ys ws C,(fl2=true->fl=true)->aq K Hs2 H2 fl2 ys ws C->ws.length<=sizeLine->C.Nodup->a∉C->(∀ x∈C,x∈A\/(Hs2 x=none/\H1 x=none))->∃ tot2,SRel K Hs2 (up fl2 (.list ys)) σ (upd H2 a (.lst ws)) tot2:=by
 obtain ⟨As',r,ne,nd,own,k⟩:=pl.ex
 cases r with
 | sh hf _=>exact absurd rfl ne
 | @list a vs _ A hz e rs =>
  have e2:=g.all _ _ e
  have rs2:=rs.grow g.sh g.all
  have hw:∀ x∈a :: A,Hs1 x=none/\H1 x≠none:=fun x hx=>⟨own x hx,by
   rcases xam.mp hx with rfl | hx
   ·rw [e]; exact fun z=>nomatch z
   ·exact (rs.own x hx).ne⟩
  exact ⟨a,vs,A,rfl,e2,e,rs2,nd,fun x hx=>⟨g.hsn (hw x hx).1 (hw x hx).2,(hw x hx).2⟩,fun fl2 ys ws C hf rw' hz ndC naC hC=>k.node g hw (fun _ z=>by cases z) hf (.list hz upd_same (rw'.stay (Same.refl _) fun b hb=>upd_ne fun z=>naC (by subst z; exact hb))) ndC naC hC⟩
theorem Place.isL (w:Wf Hs1 H1) (pl:Place K Hs1 H1 σ fl (.list xs) v up):∃ a vs,v=.ref a/\SqL K H1 a vs:=by
 obtain ⟨As',r,ne,nd,own,k⟩:=pl.ex
 cases r with
 | sh hf _=>exact absurd rfl ne
 | list hz e rs=>exact ⟨_,_,rfl,.inl (.inl e)⟩
theorem wV (ho:QP X K e p) (he:QE X K e2 te) (hK:X.K=K:=by rfl) (hs:swapsWith (.Call (.Attribute e "append" apos) [e2] [] cpos) none pos.line X.env=pure false:=by rfl)
  (hbase:attributeBase e "append" X.env (eval e X.env)=eval e X.env:=by rfl)
  (hfew:((backTo cpos (starEach [e2] X.env)).all (fun x=>!x.1) && (backToKw cpos (keywordEach [] X.env)).all (fun x=>x.1.isSome)
   && decide ([e2].length+([]:List Keyword).length+(if ([]:List Keyword).isEmpty then 0 else 1)<30))=true:=by rfl)
  (hline:(apos.endLine == cpos.line)=true:=by rfl) (hss:starEach (e2 :: []) X.env=(false,eval e2 X.env) :: starEach [] X.env:=by rfl) (hplain:(backTo cpos (starEach [] X.env)).any (·.1)=false:=by rfl) :
  QS X K L (.Expr (.Call (.Attribute e "append" apos) [e2] [] cpos) pos) (wApp p te):=by
 subst hK
 refine PS.imp (ps_expr (pe_bm PySem.F.plainAttrs_list PySem.F.slot_list_append PySem.F.type_list_append mt_append ho (pa_cons he pa_nil hss) hbase hfew hline hss hplain) hs) fun D σ H hx=>du hx fun Hs ρ tot E sr h k1 k2 k3 k4=>?_
 refine ⟨Hs,ρ,tot,_,sr,h,fun v H1 Hs1 fl d up g1 p1 q1=>?_⟩
 cases d with
 | list xs =>
  obtain ⟨a1,vs1,e1,s1⟩:=p1.isL g1.wf
  subst e1
  refine ⟨.inl ⟨rfl,_,s1⟩,Hs1,ρ,tot,_,sr.grow g1,q1,fun y H2 Hs2 m x As g2 r2 f2 q2=>?_⟩
  obtain ⟨hz,q2⟩:=q2
  obtain ⟨a,vs,A,ea,e2,_,rs,nd,hn,k⟩:=p1.put g2
  cases ea
  have hl:=rs.length
  refine ⟨a1,vs,y,rfl,rfl,e2,by lia,?_⟩
  cases hp:jF fl m x with
  | none=>rw [hp] at q2; exact q2.elim
  | some fl2 =>
   rw [hp] at q2
   obtain ⟨hf,B,sb,rb⟩:=vh g2.wf r2 hp
   obtain ⟨na,nA⟩:=xax.mp nd
   have fB:∀ x∈B,Hs2 x=none/\H1 x=none:=fun x hx=>f2.2 x (sb.subset hx)
   have c1:(A++(B++[])).Nodup:=by
    rw [xaD]
    exact xak.mpr ⟨nA,sb.nodup f2.1,fun x hx z hz e=>by subst e; exact (hn x (xac _ hx)).2 (fB x hz).2⟩
   have c2:a1∉A++(B++[]):=by
    rw [xaD]
    intro m
    rcases xag.mp m with m | m
    ·exact na m
    ·exact (hn _ xad).2 (fB _ m).2
   have c3:∀ x∈A++(B++[]),x∈A\/(Hs2 x=none/\H1 x=none):=by
    rw [xaD]
    intro x hx
    exact (xag.mp hx).imp id fun z=>fB x z
   obtain ⟨tot2,sr2⟩:=k fl2 (xs++[x]) (vs++[y]) (A++(B++[])) hf ((rs.wk hf).append (.cons rb .nil)) (by rw [xaB]; simp; lia) c1 c2 c3
   exact k1 σ _ Hs2 _ tot2 (g1.sh.trans g2.sh) sr2 q2
 | _=>exact q1.elim
def pP:WE:=fun _ Q=>Q (.ow true) (.dK [])
def pA:WE:=fun _ Q=>Q (.ow true) (.dT [])
theorem sJ:QE X K (.Dict [] [] pos) pP:=PE.imp pe_dnewK fun σ H Qv hx=>ex4 hx fun Hs ρ tot Q sr h f=>fun a ha =>
 f _ _ Hs (.ow true) (.dK []) [a] (newL sr.wf ha fun _ z=>nomatch z) ⟨.dK (vs:=[]) ⟨xao _,fun p hp=>nomatch hp⟩ upd_same .nil,by simp⟩ ⟨by simp,fun b hb=>by
  obtain rfl:b=a:=by simpa using hb
  exact ⟨sr.wf.sub.free ha,ha⟩⟩ h
theorem qU:QE X K (.Dict [] [] pos) pA:=PE.imp pe_dnewT fun σ H Qv hx=>ex4 hx fun Hs ρ tot Q sr h f=>fun a ha =>
 f _ _ Hs (.ow true) (.dT []) [a] (newL sr.wf ha fun _ z=>nomatch z) ⟨.dT (vs:=[]) ⟨xao _,fun p hp=>nomatch hp⟩ upd_same .nil,by simp⟩ ⟨by simp,fun b hb=>by
  obtain rfl:b=a:=by simpa using hb
  exact ⟨sr.wf.sub.free ha,ha⟩⟩ h
section
variable {κ:Type} [DecidableEq κ]
theorem um {Hs H:Hp} {fl:Bool} {k:κ} {d:D} {v:V} (r:RepO K Hs H fl d v []) {kvs:List (κ × D)} {vs:List V} {As:List Addr} (qs:aq K Hs H fl (kvs.map (·.2)) vs As):∃ ws Bs,Bs.Sublist As /\
  aq K Hs H fl ((kvs.map fun kv=>if kv.1=k then (kv.1,d) else kv).map (·.2)) ws Bs/\((kvs.map (·.1)).zip vs).map (fun kv=>if kv.1=k then (kv.1,v) else kv)=(((kvs.map fun kv=>if kv.1=k then (kv.1,d) else kv)).map (·.1)).zip ws:=by
 induction kvs generalizing vs As with
 | nil=>exact ⟨[],[],xa2 _,.nil,rfl⟩
 | cons p kvs ih =>
  obtain ⟨u,vs,A,B,rfl,rfl,q,qs⟩:=aq.c (d:=p.2) qs
  obtain ⟨ws,Bs,sb,rs,e⟩:=ih qs
  by_cases h:p.1=k
  ·refine ⟨v :: ws,[]++Bs,by simpa using sb.trans (xau _ _),?_,?_⟩
   ·simp only [xat,h,if_true]
    exact .cons r rs
   ·simp only [xat,xbg,h,if_true,e]
  ·refine ⟨u :: ws,A++Bs,sb.append_left _,?_,?_⟩
   ·simp only [xat,h,if_false]
    exact .cons q rs
   ·simp only [xat,xbg,h,if_false,e]
theorem pU {Hs H:Hp} {fl:Bool} {k:κ} {d:D} {v:V} (r:RepO K Hs H fl d v []) {kvs:List (κ × D)} {vs:List V} {As:List Addr} (q:aq K Hs H fl (kvs.map (·.2)) vs As) :
  ∃ ws Bs,Bs.Sublist As/\aq K Hs H fl ((putG kvs k d).map (·.2)) ws Bs/\putK ((kvs.map (·.1)).zip vs) k v=((putG kvs k d).map (·.1)).zip ws:=by
 have hl:=q.length
 rw [xab] at hl
 unfold putK putG
 rw [xJ hl]
 cases h:kvs.any fun kv=>decide (kv.1=k) with
 | true =>
  simp only [if_true]
  exact um r q
 | false =>
  simp only [xar,if_false]
  refine ⟨vs++[v],As++([]++[]),by simp,?_,?_⟩
  ·rw [xa0]
   exact q.append (.cons r .nil)
  ·rw [xa0,List.zip_append (by rw [xab]; exact hl)]
   rfl
theorem sW {Hs H:Hp} {fl:Bool} {k:κ} {d:D} {v:V} (r:Rep K Hs d v) (hd:d.flat=true) {kvs:List (κ × D)} {vs:List V} {As:List Addr} (q:aq K Hs H fl (kvs.map (·.2)) vs As) :
  ∃ ws Bs,Bs.Sublist As/\aq K Hs H fl ((putG kvs k d).map (·.2)) ws Bs/\putK ((kvs.map (·.1)).zip vs) k v=((putG kvs k d).map (·.1)).zip ws:=pU (.sh (fun _=>hd) r) q
theorem dX {β:Type} (kvs:List (κ × β)) (k:κ) (v:β):(putG kvs k v).length<=kvs.length+1:=by
 unfold putG
 split
 ·rw [xab]; exact xbb _ _
 ·simp
theorem gU {β:Type} {kvs:List (κ × β)} {k:κ} {v:β} {p:κ × β} (h:p∈putG kvs k v):p.1=k\/p.1∈kvs.map (·.1):=by
 unfold putG at h
 split at h
 ·obtain ⟨q,hq,e⟩:=xaE.mp h
  by_cases hk:q.1=k
  ·rw [if_pos hk] at e; subst e; exact .inl hk
  ·rw [if_neg hk] at e; subst e; exact .inr (xaE.mpr ⟨q,hq,rfl⟩)
 ·rcases xag.mp h with h | h
  ·exact .inr (xaE.mpr ⟨p,h,rfl⟩)
  ·have:p=(k,v):=by simpa using h
   subst this; exact .inl rfl
end
def kW (p:WP) (tk tv:WE):WS:=fun E ρ=>tv ρ fun _ x=>p ρ fun fl d up=>tk ρ fun _ y=>x.flat=true/\match d with
 | .dK kvs=>∃ k,y.key1=some k/\kvs.length<sizeLine/\E.nx (up fl (.dK (putG kvs k x)))
 | .dT kvs=>match y with
  | .tup ys=>∃ ks,cO ys=some ks/\kvs.length<sizeLine/\E.nx (up fl (.dT (putG kvs ks x)))
  | _=>False
 | _=>False
theorem iQ (r:Rep K H d v) (h:d.key1=some k):kOk k=true:=by
 cases r <;> simp [D.key1] at h <;> subst h
 ·rfl
 ·rename_i hz; simp [kOk,hz]
theorem pW (r:Reps K H ds vs) (h:cO ds=some ks):ks.length=ds.length/\∀ k∈ks,kOk k=true:=by
 induction ds generalizing vs ks with
 | nil=>simp [cO] at h; subst h; exact ⟨rfl,fun k hk=>nomatch hk⟩
 | cons d ds ih =>
  obtain ⟨u,us,rfl,r,rs⟩:=r.c
  unfold cO at h
  cases e1:d.key1 with
  | none=>rw [e1] at h; simp at h
  | some k =>
   cases e2:cO ds with
   | none=>rw [e1,e2] at h; simp at h
   | some ks' =>
    rw [e1,e2] at h
    simp at h
    subst h
    obtain ⟨a,b⟩:=ih rs e2
    refine ⟨by simp [a],fun j hj=>?_⟩
    rcases xam.mp hj with rfl | hj
    ·exact iQ r e1
    ·exact b j hj
theorem gh {a b c:Expr} {tk tv:WE} {pos':Pos} (hu:X.A.units+64<cLine) (ho:QP X K a p) (hi:QE X K b tk) (hv:QE X K c tv) (hs:swapsWith c (some (.Subscript a b pos')) pos.line X.env=pure false:=by rfl) :
  QS X K L (.Assign [.Subscript a b pos'] c pos) (kW p tk tv):=by
 refine PS.imp (ps_dput (by lia) ho hi hv hs) fun D σ H hx=>du hx fun Hs ρ tot E sr h k1 k2 k3 k4=>?_
 refine ⟨Hs,ρ,tot,_,sr,h,fun v H1 Hs1 m1 x As1 g1 r1 f1 q1=>⟨Hs1,ρ,tot,_,sr.grow g1,q1,fun u H2 Hs2 fl d up g2 p2 q2=>⟨Hs2,ρ,tot,_,(sr.grow g1).grow g2,q2,fun y H3 Hs3 m3 yd As3 g3 r3 f3 q3=>?_⟩⟩⟩
 obtain ⟨hx,q3⟩:=q3
 have rx:Rep K Hs3 x v:=((r1.grow g2).grow g3).flat g3.wf hx
 have ry:=r3.rep g3.wf
 obtain ⟨As',r,ne,nd,own,k⟩:=p2.ex
 have sm:Same Hs Hs3:=(g1.sh.trans g2.sh).trans g3.sh
 have lv:∀ x∈As',Hs2 x=none/\H2 x≠none:=fun x hx=>⟨own x hx,(r.own x hx).ne⟩
 cases r with
 | sh hf _=>exact absurd rfl ne
 | @dK a0 vs kvs A kk e rs =>
  obtain ⟨key,hk,hz,q⟩:=q3
  have ey:=ry.key hk
  subst ey
  obtain ⟨na,nA⟩:=xax.mp nd
  obtain ⟨ws,Bs,sb,rw',ew⟩:=sW (k:=key) rx hx (rs.grow g3.sh g3.all)
  have hl:kvs.length=vs.length:=by have:=rs.length; rwa [xab] at this
  refine ⟨a0,_,rfl,DPut.k (g3.all _ _ e) (by rw [xbu,xab,<- hl,xbL]; exact hz),?_⟩
  rw [ew]
  have nB:a0∉Bs:=fun z=>na (sb.subset z)
  obtain ⟨tot2,sr2⟩:=k.node (fl2:=fl) (d2:=.dK (putG kvs key x)) g3 lv (fun _ z=>by cases z) id (.dK ⟨xaA (dX _ _ _) hz,fun p hp=>(gU hp).elim (fun z=>by rw [z]; exact iQ ry hk) fun z=>by obtain ⟨p',hp',e'⟩:=xaE.mp z; rw [<- e']; exact kk.2 p' hp'⟩ upd_same (rw'.stay (Same.refl _) fun b hb=>upd_ne fun z=>nB (by subst z; exact hb)))
   (sb.nodup nA) nB fun b hb=>.inl (sb.subset hb)
  exact k1 σ _ Hs3 _ tot2 sm sr2 q
 | @dT a0 vs kvs A kk e rs =>
  cases ry with
  | tup t1 e1 q1' =>
   obtain ⟨key,hk,hz,q⟩:=q3
   obtain ⟨b,eb,e5⟩:=Rep.keyT (.tup t1 e1 q1') hk
   cases eb
   obtain ⟨kl,ko⟩:=pW q1' hk
   obtain ⟨na,nA⟩:=xax.mp nd
   obtain ⟨ws,Bs,sb,rw',ew⟩:=sW (k:=key) rx hx (rs.grow g3.sh g3.all)
   have hl:kvs.length=vs.length:=by have:=rs.length; rwa [xab] at this
   refine ⟨a0,_,rfl,DPut.t (g3.all _ _ e) e5 (by rw [xbu,xab,<- hl,xbL]; exact hz),?_⟩
   rw [ew]
   have nB:a0∉Bs:=fun z=>na (sb.subset z)
   have l1:=q1'.length
   obtain ⟨tot2,sr2⟩:=k.node (fl2:=fl) (d2:=.dT (putG kvs key x)) g3 lv (fun _ z=>by cases z) id (.dT ⟨xaA (dX _ _ _) hz,fun p hp=>(gU hp).elim (fun z=>by rw [z]; exact ⟨by lia,ko⟩) fun z=>by obtain ⟨p',hp',e'⟩:=xaE.mp z; rw [<- e']; exact kk.2 p' hp'⟩ upd_same (rw'.stay (Same.refl _) fun b hb=>upd_ne fun z=>nB (by subst z; exact hb)))
    (sb.nodup nA) nB fun b hb=>.inl (sb.subset hb)
   exact k1 σ _ Hs3 _ tot2 sm sr2 q
  | _=>exact q3.elim
 | _=>exact q3.elim
end
abbrev WJ:=Env->Str->(Str->Prop)->Prop
section
variable {X:Cx} {K:PySem.W.Frag} {e:Expr} {j:WJ}
def Cj:List D->Option (List Str)
 | []=>some []
 | .str x :: xs=>(Cj xs).map (x :: ·)
 | _ :: _=>none
def keyT (k:List Key):D:=.tup (k.map keyD)
def pF:W1:=fun _ x Q=>match x with
 | .list xs=>∃ ks sh,xs=ks.map keyT/\(∀ k∈ks,shOf k=true :: sh)/\∀ ms:List (List Key),ms.Perm ks->(ms.Pairwise fun a b=>ltK b a=false)->Q (.ow true) (.list (ms.map keyT))
 | _=>False
theorem xQ {H:Hp} {ks:List Key} {vs:List V} (r:Reps K H (ks.map keyD) vs):vs=ks.map kV/\∀ k∈ks,kOk k=true:=by
 induction ks generalizing vs with
 | nil=>exact ⟨r.n0,fun k h=>nomatch h⟩
 | cons k ks ih =>
  obtain ⟨u,us,rfl,r1,rs⟩:=Reps.c (d:=keyD k) r
  obtain ⟨e,o⟩:=ih rs
  subst e
  cases k with
  | inl i=>cases r1; exact ⟨rfl,fun j hj=>by rcases xam.mp hj with rfl | hj; rfl; exact o j hj⟩
  | inr x =>
   cases r1 with
   | str hz=>exact ⟨rfl,fun j hj=>by rcases xam.mp hj with rfl | hj; simp [kOk,hz]; exact o j hj⟩
theorem yJ {H:Hp} {ks:List (List Key)} {vs:List V} (r:Reps K H (ks.map keyT) vs):cC H vs ks/\∀ k∈ks,k.length<=sizeLine/\∀ j∈k,kOk j=true:=by
 induction ks generalizing vs with
 | nil=>rw [r.n0]; exact ⟨.nil,fun k h=>nomatch h⟩
 | cons k ks ih =>
  obtain ⟨u,us,rfl,r1,rs⟩:=Reps.c (d:=keyT k) r
  obtain ⟨t,o⟩:=ih rs
  cases r1 with
  | tup hz e q =>
   obtain ⟨e2,o2⟩:=xQ q
   subst e2
   exact ⟨.cons ⟨_,rfl,e⟩ t,fun j hj=>by
    rcases xam.mp hj with rfl | hj
    ·exact ⟨by simpa using hz,o2⟩
    ·exact o j hj⟩
theorem vP:BrC K (pK K) pF:=by
 intro Hs H m x v As Qd Qv w rx h f
 have r1:=rx.rep w
 cases r1 with
 | list z s q =>
  obtain ⟨ks,sh,rfl,hs,h⟩:=h
  obtain ⟨ta,ok⟩:=yJ q
  have hl:=q.length
  rw [xab] at hl
  refine ⟨_,ks,sh,s,ta,hs,fun zs ms l tz pm pw hl'=>?_⟩
  have rr:=kY (K:=K) tz fun k hk=>ok k (pm.mem_iff.mp hk)
  exact f.lst w (by rw [xab,pm.length_eq]; lia) rr (fH ms) (h ms pm pw) l hl'
 | _=>exact h.elim
theorem Ad (hK:X.K=K:=by rfl):CallR X (.builtin "sorted") (pK K):=by subst hK; exact qK
theorem sG:bootBuiltins "sorted" = some (.builtin "sorted"):=by decide +kernel
end
def shF (A:List Addr) (F:Nat->List Addr):Nat->List Addr
 | 0=>A
 | i+1=>F i
def Adr (K:PySem.W.Frag) (Hs H:Hp) (ρ:Env) (σ:St) (tot:List Addr) (F:Nat->List Addr):Prop:=(∀ i fl d,ρ[i]? = some (some (.ow fl d))->∃ v,σ[i]? = some (some v)/\F i≠[]/\RepO K Hs H fl d v (F i)) /\
  (∀ i,(F i).Sublist tot)/\∀ i j,i≠j->∀ a∈F i,a∉F j
theorem Adr.skip {K:PySem.W.Frag} {F:Nat->List Addr} (h:Adr K Hs H ρ σ tot F) (no:∀ fl d,o≠some (.ow fl d)):Adr K Hs H (o :: ρ) (u :: σ) tot (shF [] F):=by
 obtain ⟨a,b,c⟩:=h
 refine ⟨fun i fl d e=>?_,fun i=>?_,fun i j ne x hx=>?_⟩
 ·cases i with
  | zero=>simp at e; exact absurd e (no fl d)
  | succ i=>exact a i fl d (by simpa using e)
 ·cases i with
  | zero=>exact xa2 _
  | succ i=>exact b i
 ·cases i with
  | zero=>exact mem0 hx
  | succ i =>
   cases j with
   | zero=>exact fun z=>mem0 z
   | succ j=>exact c i j (fun z=>ne (by rw [z])) x hx
theorem Adr.own {K:PySem.W.Frag} {tot B:List Addr} {F:Nat->List Addr} (h:Adr K Hs H ρ σ tot F) (n:(B++tot).Nodup) (hs:∀ fl d,sl=.ow fl d->B≠[]/\RepO K Hs H fl d v B):Adr K Hs H (some sl :: ρ) (some v :: σ) (B++tot) (shF B F):=by
 obtain ⟨a,b,c⟩:=h
 obtain ⟨n1,n2,n3⟩:=xak.mp n
 refine ⟨fun i fl d e=>?_,fun i=>?_,fun i j ne x hx=>?_⟩
 ·cases i with
  | zero=>simp at e; exact ⟨v,rfl,hs fl d e⟩
  | succ i=>exact a i fl d (by simpa using e)
 ·cases i with
  | zero=>exact xa5 _ _
  | succ i=>exact (b i).trans (xau _ _)
 ·cases i with
  | zero =>
   cases j with
   | zero=>exact absurd rfl ne
   | succ j=>exact fun z=>n3 x hx x ((b j).subset z) rfl
  | succ i =>
   cases j with
   | zero=>exact fun z=>n3 x z x ((b i).subset hx) rfl
   | succ j=>exact c i j (fun z=>ne (by rw [z])) x hx
theorem SR.addrs {K:PySem.W.Frag} (s:SR K Hs H ρ σ tot):tot.Nodup->∃ F:Nat->List Addr,Adr K Hs H ρ σ tot F:=by
 induction s with
 | nil=>exact fun _=>⟨fun _=>[],fun i fl d e=>by simp at e,fun i=>xa2 _,fun i j _ a h=>mem0 h⟩
 | non s ih =>
  intro n
  obtain ⟨F,h⟩:=ih n
  exact ⟨_,h.skip fun fl d z=>by cases z⟩
 | sh r s ih =>
  intro n
  obtain ⟨F,h⟩:=ih n
  exact ⟨_,h.skip fun fl d z=>by cases z⟩
 | xc s ih =>
  intro n
  obtain ⟨F,h⟩:=ih n
  exact ⟨_,h.skip fun fl d z=>by cases z⟩
 | ow ne r s ih =>
  intro n
  obtain ⟨F,h⟩:=ih (xak.mp n).2.1
  exact ⟨_,h.own n fun fl d e=>by cases e; exact ⟨ne,r⟩⟩
 | lk ne r s ih =>
  intro n
  obtain ⟨F,h⟩:=ih (xak.mp n).2.1
  exact ⟨_,h.own n fun fl d e=>by cases e⟩
abbrev Plan:=List (WE ⊕ Nat)
def mvs:Plan->List Nat
 | []=>[]
 | .inl _ :: r=>mvs r
 | .inr i :: r=>i :: mvs r
def movS:Option (Option Sl)->Option (Md × D)
 | some (some (.sh d))=>some (.sh,d)
 | some (some (.ow fl d))=>some (.ow fl,d)
 | _=>none
def iW:Plan->Env->(List (Md × D)->Prop)->Prop
 | [],_,Q=>Q []
 | .inl t :: r,ρ,Q=>t ρ fun m x=>iW r ρ fun ps=>Q ((m,x) :: ps)
 | .inr i :: r,ρ,Q=>match movS ρ[i]? with
  | some p=>iW r ρ fun ps=>Q (p :: ps)
  | none=>False
def tpM (K:PySem.W.Frag) (pl:Plan):TA:=fun σ H Qv=>∃ (Hs:Hp) (ρ:Env) (tot:List Addr) (F:Nat->List Addr) (Q:List (Md × D)->Prop),SRel K Hs ρ σ H tot/\(∀ i fl d,ρ[i]? = some (some (.ow fl d))->∃ v,σ[i]? = some (some v)/\F i≠[]/\RepO K Hs H fl d v (F i))/\(∀ i,(F i).Sublist tot)/\(∀ i j,i≠j->∀ a∈F i,a∉F j) /\
 iW pl ρ Q/\∀ vs H' Hs' ps As,Grow Hs H Hs' H'->RMs K Hs' H' ps vs As->As.Nodup->(∀ a∈As,Hs' a=none/\(H a=none\/∃ i∈mvs pl,a∈F i))->Q ps->Qv vs H'
abbrev QM (X:Cx) (K:PySem.W.Frag) (es:List Expr) (pl:Plan):Prop:=PA X es (tpM K pl)
section
variable {X:Cx} {K:PySem.W.Frag} {e:Expr} {es:List Expr} {te:WE} {pl:Plan} {pos:Pos}
theorem wK:QM X K [] []:=PA.imp pa_nil fun σ H Qv hx=>by
 obtain ⟨Hs,ρ,tot,F,Q,sr,h1,h2,h3,h,f⟩:=hx
 exact f [] H Hs [] [] (Grow.refl sr.wf) .nil xay (fun a h=>mem0 h) h
theorem qm_e (ha:QE X K e te) (hr:QM X K es pl) (hs:starEach (e :: es) X.env=(false,eval e X.env) :: starEach es X.env:=by rfl):QM X K (e :: es) (.inl te :: pl):=by
 refine PA.imp (pa_cons ha hr hs) fun σ H Qv hx9=>?_
 obtain ⟨Hs,ρ,tot,F,Q,sr,h1,h2,h3,h,f⟩:=hx9
 refine ⟨Hs,ρ,tot,_,sr,h,fun v H1 Hs1 m x As g1 r1 f1 q1=>⟨Hs1,ρ,tot,F,_,sr.grow g1,(fun i fl d e=>?_),h2,h3,q1,fun vs H2 Hs2 ps Bs g2 r2 nd2 o2 q2=>?_⟩⟩
 ·obtain ⟨v,a,b,c⟩:=h1 i fl d e
  exact ⟨v,a,b,c.grow g1.sh g1.all⟩
 ·refine f (v :: vs) H2 Hs2 _ _ (g1.trans g2) (.cons (r1.grow g2) r2) (xak.mpr ⟨f1.1,nd2,fun a ha b hb e=>?_⟩) (fun a ha=>?_) q2
  ·subst e
   rcases (o2 a hb).2 with z | ⟨i,_,z⟩
   ·exact (r1.own a ha).ne z
   ·exact (sr.sr.own a ((h2 i).subset z)).ne (f1.2 a ha).2
  ·rcases xag.mp ha with z | z
   ·exact ⟨g2.hsn (f1.2 a z).1 (r1.own a z).ne,.inl (f1.2 a z).2⟩
   ·exact ⟨(o2 a z).1,(o2 a z).2.imp g1.all.free id⟩
theorem qm_v (ha:PE X e (tVar i)) (hr:QM X K es pl) (hi:i∉mvs pl:=by decide) (hs:starEach (e :: es) X.env=(false,eval e X.env) :: starEach es X.env:=by rfl):QM X K (e :: es) (.inr i :: pl):=by
 refine PA.imp (pa_cons ha hr hs) fun σ H Qv hx9=>?_
 obtain ⟨Hs,ρ,tot,F,Q,sr,h1,h2,h3,h,f⟩:=hx9
 unfold iW at h
 cases hm:movS ρ[i]? with
 | none=>rw [hm] at h; exact h.elim
 | some p =>
  rw [hm] at h
  have key:∃ v A,σ[i]? = some (some v)/\RM K Hs H p.1 p.2 v A/\A.Nodup/\∀ a∈A,a∈F i:=by
   cases e1:ρ[i]? with
   | none=>rw [e1] at hm; cases hm
   | some o =>
    cases o with
    | none=>rw [e1] at hm; cases hm
    | some sl =>
     cases sl with
     | sh d =>
      rw [e1] at hm; cases hm
      obtain ⟨v,a,b⟩:=sr.sr.get e1
      exact ⟨v,[],a,⟨rfl,b⟩,xay,fun a h=>nomatch h⟩
     | lk a fl d=>rw [e1] at hm; cases hm
     | xc a=>rw [e1] at hm; cases hm
     | ow fl d =>
      rw [e1] at hm; cases hm
      obtain ⟨v,a,b,c⟩:=h1 i fl d e1
      exact ⟨v,F i,a,⟨c,b⟩,(h2 i).nodup sr.nod,fun a h=>h⟩
  obtain ⟨v,A,ev,rm,ndA,hA⟩:=key
  refine ⟨v,ev,Hs,ρ,tot,F,_,sr,h1,h2,h3,h,fun vs H2 Hs2 ps Bs g2 r2 nd2 o2 q2=>?_⟩
  refine f (v :: vs) H2 Hs2 _ _ g2 (.cons (rm.grow g2) r2) (xak.mpr ⟨ndA,nd2,fun a ha b hb e=>?_⟩) (fun a ha=>?_) q2
  ·subst e
   rcases (o2 a hb).2 with z | ⟨j,hj,z⟩
   ·exact (rm.own a ha).ne z
   ·exact h3 i j (fun z=>hi (by rw [z]; exact hj)) a (hA a ha) z
  ·rcases xag.mp ha with z | z
   ·have:a∈tot:=(h2 i).subset (hA a z)
    exact ⟨g2.hsn (sr.own a this) (sr.sr.own a this).ne,.inr ⟨i,xad,hA a z⟩⟩
   ·exact ⟨(o2 a z).1,(o2 a z).2.imp id fun ⟨j,hj,q⟩=>⟨j,xac _ hj,q⟩⟩
def uV (pl:Plan):WS:=fun E ρ=>iW pl ρ fun ps=>ps.length<=sizeLine/\E.rt (nM ps) (.tup (ps.map (·.2)))
theorem rF {x1} (h:QM X K es pl):QS X K L (.Return (some (.Tuple es x1 tpos)) pos) (uV pl):=by
 refine PS.imp (ps_ret (pe_tup h)) fun D σ H hx=>du hx fun Hs ρ tot E sr h k1 k2 k3 k4=>?_
 obtain ⟨F,h1,h2,h3⟩:=sr.sr.addrs sr.nod
 refine ⟨Hs,ρ,tot,F,_,sr,h1,h2,h3,h,fun vs H1 Hs1 ps As g1 r1 nd1 o1 q1=>?_⟩
 obtain ⟨hz,q⟩:=q1
 have rl:=r1.reps g1.wf
 have hl:=rl.length
 rw [xab] at hl
 refine ⟨by lia,fun p hp=>?_⟩
 have g2:=newT (vs:=vs) g1.wf hp
 have sm:Same Hs (upd Hs1 p (.tup vs)):=g1.sh.trans g2.sh
 unfold nM at q
 cases e1:ps.all okSh with
 | true =>
  rw [e1] at q
  exact k4 _ _ _ .sh _ [] sm g2.wf ⟨rfl,.tup (by lia) upd_same ((r1.sh g1.wf e1).same g2.sh)⟩ xay (fun a h=>nomatch h) q
 | false =>
  rw [e1] at q
  cases e2:ps.all okOw with
  | false =>
   rw [e2] at q
   exact k4 _ _ _ .bo _ [] sm g2.wf ⟨rfl,.tup (by lia) upd_same (rl.same g2.all)⟩ xay (fun a h=>nomatch h) q
  | true =>
   rw [e2] at q
   obtain ⟨Bs,sb,nz,ro⟩:=r1.ow (fl:=ps.all okFl) g1.wf e2 fun z=>z
   have hne:flats (ps.map (·.2))=false:=by
    cases hf:flats (ps.map (·.2)) with
    | false=>rfl
    | true=>rw [jV hf] at e1; cases e1
   exact k4 _ _ _ (.ow _) _ Bs sm g2.wf ⟨.tup (by lia) upd_same hne (ro.grow g2.sh g2.all),nz e1⟩ (sb.nodup nd1) (fun a ha=>g2.hsn (o1 a (sb.subset ha)).1 (ro.own a ha).ne) q
end
def spLaw:SpD:=fun ds Q=>∃ ns:List Int,ds=[.list (ns.map .int)]/\ns.length<=63/\∀ m,Q m (.bl true)
theorem ints_rep {K:PySem.W.Frag}:∀ (ns:List Int),Reps K H (ns.map .int) (ns.map V.int)
 | []=>.nil
 | n :: ns=>.cons (.int n) (ints_rep ns)
theorem vM {K:PySem.W.Frag} {H:Hp} {a:Addr} {ns:List Int} {E:XK} (hl:ns.length<=63) (hS:SqL K H a (ns.map V.int)):aA K spLaw [.ref a] H (fun v _=>v=.bl true) E:=by
 refine ⟨[.list (ns.map .int)],fun _ d=>d=.bl true,.cons (.list (by rw [xab]; exact xaA hl (by decide)) hS (ints_rep ns)) .nil,⟨ns,rfl,hl,fun _=>rfl⟩,?_⟩
 intro v H' Hs' m d As s w r nd own q
 subst q
 have:=r.rep w
 cases this
 rfl
abbrev sg (x:Str):List Nat:=x.cps.toList
theorem wQ (x y:Str):sg (x++y)=sg x++sg y:=by
 show (x.cps++y.cps).toList=_
 simp [sg]
theorem empty_app (x:Str):Str.empty++x=x:=rA (by rw [<- sg,wQ]; rfl)
def okS (x:Str):Prop:=∀ c∈sg x,c<0x110000
theorem xY (x:Str):PyData.strOk x=true↔okS x:=by
 unfold PyData.strOk okS sg
 rw [Array.all_eq_true']
 simp
theorem atI0 {α:Type} (x:α) (l:List α):atI (x :: l) 0=some x:=by simp [L2.atI,ixN]
theorem atI1 {α:Type} (x y:α) (l:List α):atI (x :: y :: l) 1=some y:=by
 have:=atI_nat (xs:=x :: y :: l) (j:=1) (v:=y) rfl
 exact this
theorem atI2 {α:Type} (x y z:α) (l:List α):atI (x :: y :: z :: l) 2=some z:=by
 have:=atI_nat (xs:=x :: y :: z :: l) (j:=2) (v:=z) rfl
 exact this
theorem zx:Str.empty.length=0:=by decide
end L2.Q
namespace L2.Q.R
open PySem PySem.Spec PyProof.Rows L2.Q
section
variable {f:D->Prop} {k:Kt f}
theorem Eh:onK .non k=f .non:=rfl
theorem H_:onK (.bl b) k=f (.bl b):=rfl
theorem Fe:onK (.int i) k=f (.int i):=rfl
theorem Gn:onK (.str x) k=f (.str x):=rfl
theorem DR:onK (.list xs) k=f (.list xs):=rfl
theorem Ep:onK (.tup xs) k=f (.tup xs):=rfl
theorem G6:onK (.dK xs) k=f (.dK xs):=rfl
theorem Hk:onK (.dT xs) k=f (.dT xs):=rfl
end
theorem CG {f:Bool->Prop} {k:Kt f}:onK true k=f true:=rfl
theorem BK {f:Bool->Prop} {k:Kt f}:onK false k=f false:=rfl
theorem Fl {d:D} {f:Md × D->Prop} {k:Kt f}:onK (Md.sh,d) k=f (.sh,d):=rfl
theorem Gi {b:Bool} {d:D} {f:Md × D->Prop} {k:Kt f}:onK (Md.ow b,d) k=f (.ow b,d):=rfl
theorem Gf {d:D} {f:Md × D->Prop} {k:Kt f}:onK (Md.bo,d) k=f (.bo,d):=rfl
theorem Fp {d:D} {f:Option Sl->Prop} {k:Kt f}:onK (some (.sh d)) k=f (some (.sh d)):=rfl
theorem Gr {b:Bool} {d:D} {f:Option Sl->Prop} {k:Kt f}:onK (some (.ow b d)) k=f (some (.ow b d)):=rfl
theorem Eu {p:Md × D} {f:Option (Md × D)->Prop} {k:Kt f}:onK (some p) k=f (some p):=rfl
theorem Gx {p:Bool} {f:Option Bool->Prop} {k:Kt f}:onK (some p) k=f (some p):=rfl
theorem Eb {d:D} {f:Option (Option Sl)->Prop} {k:Kt f}:onK (some (some (.sh d))) k=f (some (some (.sh d))):=rfl
theorem Gk {b:Bool} {d:D} {f:Option (Option Sl)->Prop} {k:Kt f}:onK (some (some (.ow b d))) k=f (some (some (.ow b d))):=rfl
section
variable {E:nF} {ρ:Env} {Q:Md->D->Prop} {B:Bool->Prop} {t u:WS} {te ta tb tc:WE} {tt tu:WT} {tar:WA} {i j n:Nat} {m m':Md} {d d':D} {sp:SpD} {p:WP} {R:List (Md × D)->Prop}
theorem Gu:bQ E ρ=E.nx ρ:=rfl
theorem G4:wSeq t u E ρ=t { E with nx:=u E } ρ:=rfl
theorem Ih:wRet te E ρ=te ρ E.rt:=rfl
def put (sl:Option Sl) (k:Sl->Prop):Prop:=match sl with
 | some s=>k s
 | none=>False
theorem Gb:put (some (.sh d)) k=k (.sh d):=rfl
theorem Gq:put (some (.ow b d)) k=k (.ow b d):=rfl
theorem G7:wSet i te E ρ=te ρ fun m d=>onK (asg m d) (f:=fun o=>put o fun sl=>E.nx (ρ.set i (some sl))) ⟨⟩:=rfl
theorem Ia:wIfS tt t u E ρ=tt ρ fun b=>onK b (f:=fun b=>if b=true then t E ρ else u E ρ) ⟨⟩:=rfl
theorem Gd:oh i E ρ=onK ρ[i]? (f:=fun o=>match o with
 | some (some (.sh d))=>E.rt .sh d
 | some (some (.ow fl d))=>E.rt (.ow fl) d
 | _=>False) ⟨⟩:=rfl
theorem Fj:uV pl E ρ=iW pl ρ fun ps=>ps.length<=sizeLine/\E.rt (nM ps) (.tup (ps.map (·.2))):=rfl
theorem Am:iW [] ρ R=R []:=rfl
theorem DW:iW (.inl te :: r) ρ R=te ρ fun m x=>iW r ρ fun ps=>R ((m,x) :: ps):=rfl
def mov (o:Option (Md × D)) (k:Md × D->Prop):Prop:=match o with
 | some p=>k p
 | none=>False
theorem BR {p:Md × D} {k:Md × D->Prop}:mov (some p) k=k p:=rfl
theorem Dz:iW (.inr i :: r) ρ R=onK (movS ρ[i]?) (f:=fun o=>mov o fun p=>iW r ρ fun ps=>R (p :: ps)) ⟨⟩:=rfl
theorem GZ:wFrz i t E ρ=t E (frzE i ρ):=rfl
-- tests
def bol (d:D) (B:Bool->Prop):Prop:=match d with
 | .bl b=>B b
 | _=>False
theorem Fg:bol (.bl b) B=B b:=rfl
theorem wB_:wB te ρ B=te ρ fun _ x=>onK x (f:=fun x=>bol x B) ⟨⟩:=rfl
theorem GC:wTru te ρ B=te ρ fun _ x=>onK x (f:=fun x=>∃ b,truD x=some b/\B b) ⟨⟩:=rfl
theorem Ig:wNot tt ρ B=tt ρ fun c=>B (!c):=rfl
theorem HH:wAnd tt tu ρ B=tt ρ fun c=>onK c (f:=fun c=>if c=true then tu ρ B else B false) ⟨⟩:=rfl
theorem wOr_:wOr tt tu ρ B=tt ρ fun c=>onK c (f:=fun c=>if c=true then B true else tu ρ B) ⟨⟩:=rfl
theorem GJ:wYes ρ B=B true:=rfl
-- expressions
theorem Ie:wVar i ρ Q=onK ρ[i]? (f:=fun o=>useS o Q) ⟨⟩:=rfl
theorem Dw:useS (some (some (.sh d))) Q=Q .sh d:=rfl
theorem DN:useS (some (some (.ow b d))) Q=Q .bo d:=rfl
theorem wC_:wC d ρ Q=Q .sh d:=rfl
theorem wOp_:wOp f ta tb ρ Q=ta ρ fun m x=>tb ρ fun n y=>f m x n y Q:=rfl
theorem wUn_:wUn f ta ρ Q=ta ρ fun m x=>f m x Q:=rfl
theorem CN:jN f g ta tb tc ρ Q=ta ρ fun m x=>tb ρ fun n y=>f m x n y fun _ z=>onK z (f:=fun z=>bol z fun k=>onK k (f:=fun k=>if k=true then tc ρ fun l w=>g n y l w Q else Q .sh (.bl false)) ⟨⟩) ⟨⟩:=by
 unfold jN onK bol
 rfl
theorem FW:nq ta tb ρ Q=ta ρ fun _ x=>onK x (f:=fun x=>bol x fun c=>onK c (f:=fun c=>if c=true then tb ρ Q else Q .sh (.bl false)) ⟨⟩) ⟨⟩:=by unfold nq onK bol; rfl
theorem GF:wOrV ta tb ρ Q=ta ρ fun _ x=>onK x (f:=fun x=>bol x fun c=>onK c (f:=fun c=>if c=true then Q .sh (.bl true) else tb ρ Q) ⟨⟩) ⟨⟩:=by unfold wOrV onK bol; rfl
theorem Ec:ak te tar ρ R=te ρ fun m x=>tar ρ fun ps=>R ((m,x) :: ps):=rfl
theorem HX:wNil ρ R=R []:=rfl
theorem G3:wTup tar ρ Q=tar ρ fun ps=>ps.length<=sizeLine/\Q (nM ps) (.tup (ps.map (·.2))):=rfl
theorem HQ:wLst tar ρ Q=tar ρ fun ps=>ps.length<=sizeLine/\Q (zm ps) (.list (ps.map (·.2))):=rfl
theorem Ga:cJ sp tar ρ Q=tar ρ fun ps=>sp (ps.map (·.2)) fun m d=>onK (m,d) (f:=fun p=>Q (retM p.1 p.2) p.2) ⟨⟩:=rfl
-- operators
section
variable {x y:Str} {a b:Int} {xs ys:List D} {kvs:List (Key × D)} {kts:List (List Key × D)}
theorem C_:fAdd m (.int a) m' (.int b) Q=Q .sh (.int (a+b)):=rfl
theorem DK:fAdd m (.str x) m' (.str y) Q=(x.length+y.length<=sizeLine/\Q .sh (.str (x++y))):=rfl
theorem CT:fAdd m (.list xs) m' (.list ys) Q=(xs.length+ys.length<=sizeLine/\((flats xs=true/\flats ys=true/\Q (.ow true) (.list (xs++ys)))\/(m=.sh/\m'=.sh/\Q (.ow false) (.list (xs++ys))))):=rfl
theorem CQ:fAdd m (.tup xs) m' (.tup ys) Q=(xs≠[]/\xs.length+ys.length<=sizeLine/\flats xs=true/\flats ys=true/\Q .sh (.tup (xs++ys))):=rfl
theorem Du:fSub m (.int a) m' (.int b) Q=Q .sh (.int (a - b)):=rfl
theorem Ds:fMul m (.int a) m' (.int b) Q=(CMul a b/\Q .sh (.int (a * b))):=rfl
theorem D_:fDiv m (.int a) m' (.int b) Q=((0<b/\b<1073741824)/\Q .sh (.int (a / b))):=rfl
theorem CW:fMod m (.int a) m' (.int b) Q=(0<b/\Q .sh (.int (a % b))):=rfl
theorem Dd:fPow m (.int a) m' (.int b) Q=(CPow a b/\Q .sh (.int (a ^ b.toNat))):=rfl
theorem En:fLt m (.int a) m' (.int b) Q=Q .sh (.bl (decide (a<b))):=rfl
theorem Ff:fLt m (.str x) m' (.str y) Q=Q .sh (.bl (ltS x y)):=rfl
theorem Em:fLe m (.int a) m' (.int b) Q=Q .sh (.bl (decide (a<=b))):=rfl
theorem FJ:fLe m (.str x) m' (.str y) Q=Q .sh (.bl (!ltS y x)):=rfl
theorem Er:fGt m (.int a) m' (.int b) Q=Q .sh (.bl (decide (b<a))):=rfl
theorem Ed:fEq m (.int a) m' (.int b) Q=Q .sh (.bl (decide (a=b))):=rfl
theorem El:fEq m (.str x) m' (.str y) Q=Q .sh (.bl (decide (x=y))):=rfl
theorem Gm:fEq m (.bl k) m' (.bl l) Q=Q .sh (.bl (decide (k=l))):=rfl
theorem Hn:fEq m (.list xs) m' d Q=(okD 12 (.list xs)=true/\okD 12 d=true/\Q .sh (.bl (eqD (.list xs) d))):=by cases d <;> rfl
theorem Ha:fEq m (.tup xs) m' d Q=(okD 12 (.tup xs)=true/\okD 12 d=true/\Q .sh (.bl (eqD (.tup xs) d))):=by cases d <;> rfl
theorem HR:fEq m .non m' d Q=(okD 12 .non=true/\okD 12 d=true/\Q .sh (.bl (eqD .non d))):=by cases d <;> rfl
theorem Ez:fNe m (.int a) m' (.int b) Q=Q .sh (.bl (!decide (a=b))):=rfl
theorem Et:fNe m (.str x) m' (.str y) Q=Q .sh (.bl (!decide (x=y))):=rfl
theorem Hb:fNe m (.list xs) m' d Q=(okD 12 (.list xs)=true/\okD 12 d=true/\Q .sh (.bl (!eqD (.list xs) d))):=by cases d <;> rfl
theorem Gv:fNe m (.tup xs) m' d Q=(okD 12 (.tup xs)=true/\okD 12 d=true/\Q .sh (.bl (!eqD (.tup xs) d))):=by cases d <;> rfl
theorem G9:fNe m .non m' d Q=(okD 12 .non=true/\okD 12 d=true/\Q .sh (.bl (!eqD .non d))):=by cases d <;> rfl
theorem Hv:fIsN m d m' .non Q=Q .sh (.bl d.isN):=rfl
theorem Ft:yj m d m' .non Q=Q .sh (.bl (!d.isN)):=rfl
theorem Gz:fIn neg m (.str x) m' (.str y) Q=Q .sh (.bl (if neg then !inS x y else inS x y)):=rfl
theorem Ik:fIn neg m d m' (.list ys) Q=(eG d=true/\ys.all eG=true/\Q .sh (.bl (if neg then !inD d ys else inD d ys))):=rfl
theorem Hz:fIn neg m d m' (.tup ys) Q=(eG d=true/\ys.all eG=true/\Q .sh (.bl (if neg then !inD d ys else inD d ys))):=rfl
theorem Hc:fIn neg m d m' (.dK kvs) Q = ∃ k,d.key1=some k/\Q .sh (.bl (if neg then !(getG kvs k).isSome else (getG kvs k).isSome)):=rfl
theorem Ij:fIn neg m (.tup xs) m' (.dT kts) Q = ∃ ks,cO xs=some ks/\Q .sh (.bl (if neg then !(getG kts ks).isSome else (getG kts ks).isSome)):=rfl
theorem Hm:fNeg m (.int a) Q=Q .sh (.int (-a)):=rfl
theorem Ho:fIx m (.list xs) m' (.int a) Q = ∃ d,atI xs a=some d/\onK d (f:=fun d=>Q (itm m d) d) ⟨⟩:=rfl
theorem G_:fIx m (.tup xs) m' (.int a) Q = ∃ d,atI xs a=some d/\onK d (f:=fun d=>Q (itm m d) d) ⟨⟩:=rfl
theorem HN:fIx m (.str x) m' (.int a) Q = ∃ c,atI x.cps.toList a=some c/\Q .sh (.str ⟨#[c]⟩):=rfl
theorem Hl:fIx m (.dK kvs) m' d Q = ∃ k d',d.key1=some k/\getG kvs k=some d'/\onK d' (f:=fun d'=>Q (itm m d') d') ⟨⟩:=rfl
theorem Hf:fIx m (.dT kts) m' (.tup ys) Q = ∃ ks d',cO ys=some ks/\getG kts ks=some d'/\onK d' (f:=fun d'=>Q (itm m d') d') ⟨⟩:=rfl
theorem Fx:fLen m (.str x) Q=Q .sh (.int x.length):=rfl
theorem Fo:fLen m (.list xs) Q=Q .sh (.int xs.length):=rfl
theorem F_:fLen m (.tup xs) Q=Q .sh (.int xs.length):=rfl
theorem Ew:fLen m (.dK kvs) Q=Q .sh (.int kvs.length):=rfl
theorem Gg:fLen m (.dT kts) Q=Q .sh (.int kts.length):=rfl
theorem GR {T:String}:fIsi T m d Q=Q .sh (.bl (isiT d.ty T)):=rfl
theorem Dv:qH m (.list xs) Q=((flats xs=true/\Q (.ow true) (.list xs))\/(m=.sh/\Q (.ow false) (.list xs))):=rfl
theorem Dt:qH m (.tup xs) Q=((flats xs=true/\Q (.ow true) (.list xs))\/(m=.sh/\Q (.ow false) (.list xs))):=rfl
theorem Cr:qH m (.dT kts) Q=Q (.ow true) (.list (kts.map fun kv=>.tup (kv.1.map keyD))):=rfl
theorem wSl_:wSl te tl th ρ Q=te ρ fun m x=>tl ρ fun lo=>th ρ fun hi=>fSl m x lo hi Q:=rfl
theorem BW:gZ ρ O=O none:=rfl
def int' (d:D) (k:Int->Prop):Prop:=match d with
 | .int i=>k i
 | _=>False
theorem Ej:int' (.int a) k=k a:=rfl
theorem Fy:lQ te ρ O=te ρ fun _ x=>onK x (f:=fun x=>int' x fun i=>O (some i)) ⟨⟩:=by unfold lQ onK int'; rfl
theorem GQ {lo hi:Option Int}:fSl m (.str x) lo hi Q=Q .sh (.str (cutS x lo hi)):=rfl
theorem Hh {lo hi:Option Int}:fSl m (.list xs) lo hi Q=((flats xs=true/\Q (.ow true) (.list (cutG xs lo hi)))\/(m=.sh/\Q (.ow false) (.list (cutG xs lo hi)))):=rfl
theorem G8 {lo hi:Option Int}:fSl m (.tup xs) lo hi Q=(flats xs=true/\¬ (HT.sIx xs.length 0 lo=0/\HT.sIx xs.length xs.length hi=xs.length)/\Q .sh (.tup (cutG xs lo hi))):=rfl
end
-- texts
def str' (d:D) (k:Str->Prop):Prop:=match d with
 | .str x=>k x
 | _=>False
theorem Gp:str' (.str x) k=k x:=rfl
def list' (d:D) (k:List D->Prop):Prop:=match d with
 | .list x=>k x
 | _=>False
theorem CZ:list' (.list x) k=k x:=rfl
-- places
theorem wpN_ {P:Bool->D->(Bool->D->Env)->Prop}:wpN i ρ P=onK ρ[i]? (f:=fun o=>match o with
 | some (some (.ow fl d))=>P fl d fun fl2 d2=>ρ.set i (some (.ow fl2 d2))
 | _=>False) ⟨⟩:=rfl
def fl' (o:Option Bool) (k:Bool->Prop):Prop:=match o with
 | some b=>k b
 | none=>False
theorem BV:fl' (some b) k=k b:=rfl
theorem GX:wApp p te E ρ=p ρ fun fl d up=>onK d (f:=fun d=>list' d fun xs=>te ρ fun m x=>xs.length<sizeLine/\onK (jF fl m x) (f:=fun o=>fl' o fun fl2=>E.nx (up fl2 (.list (xs++[x])))) ⟨⟩) ⟨⟩:=by unfold wApp onK list' fl'; rfl
theorem Dh:pP ρ Q=Q (.ow true) (.dK []):=rfl
theorem Cv:pA ρ Q=Q (.ow true) (.dT []):=rfl
def dct (d y:D) (k1:List (Key × D)->Prop) (k2:List (List Key × D)->List D->Prop):Prop:=match d with
 | .dK kvs=>k1 kvs
 | .dT kvs=>match y with
  | .tup ys=>k2 kvs ys
  | _=>False
 | _=>False
theorem Hr:dct (.dK kvs) y k1 k2=k1 kvs:=rfl
theorem Hu:dct (.dT kvs) (.tup ys) k1 k2=k2 kvs ys:=rfl
theorem Fq:kW p tk tv E ρ=tv ρ fun _ x=>p ρ fun fl d up=>tk ρ fun _ y=>x.flat=true/\onK d (f:=fun d=>dct d y (fun kvs=>∃ k,y.key1=some k/\kvs.length<sizeLine/\E.nx (up fl (.dK (putG kvs k x)))) (fun kvs ys=>∃ ks,cO ys=some ks/\kvs.length<sizeLine/\E.nx (up fl (.dT (putG kvs ks x))))) ⟨⟩:=by
 unfold kW onK dct
 rfl
-- loops
variable {LQ:List D->Prop}
theorem Hj:wFor wi g b E ρ=wi ρ fun ds=>gm g b E ds ρ:=rfl
theorem Ck:fG te ρ LQ=te ρ fun m d=>gK m/\onK d (f:=fun d=>list' d LQ) ⟨⟩:=by unfold fG onK list'; rfl
def tup' (d:D) (k:List D->Prop):Prop:=match d with
 | .tup x=>k x
 | _=>False
theorem Ef:tup' (.tup x) k=k x:=rfl
theorem Fz:qW te ρ LQ=te ρ fun m d=>gK m/\onK d (f:=fun d=>tup' d LQ) ⟨⟩:=by unfold qW onK tup'; rfl
theorem Fv:uR te ρ LQ=te ρ fun _ d=>onK d (f:=fun d=>str' d fun z=>LQ (sgnD z)) ⟨⟩:=by unfold uR onK str'; rfl
theorem CK:iI te ρ LQ=te ρ fun _ d=>onK d (f:=fun d=>int' d fun j=>j<=16777216/\-(2 ^ 62)<=j/\LQ (gF 0 j.toNat)) ⟨⟩:=by unfold iI onK int'; rfl
theorem BX:gK .sh=True:=rfl
theorem BL:gK (.ow b)=True:=rfl
theorem BJ:gK .bo=False:=rfl
theorem gN_:gN i d ρ N=N (ρ.set i (some (.sh d))):=rfl
theorem gT_:gT n gs d ρ N=onK d (f:=fun d=>tup' d fun ds=>ds.length=n/\gs ds ρ N) ⟨⟩:=by unfold gT onK tup'; rfl
theorem Es:h_ g gs (d :: ds) ρ N=g d ρ fun ρ'=>gs ds ρ' N:=rfl
theorem HJ:ue [] ρ N=N ρ:=by simp [ue]
theorem Fd:rW wi g tt te tn ix ρ Q=wi ρ fun ds=>fQ g tt te ds (xW tn ix ρ) fun out=>Q (.ow true) (.list out):=rfl
end
theorem B {c:Bool} {f:Bool->Prop} {k:Kt f} (h1:c=true->f true) (h2:c=false->f false):onK c k:=by
 cases c with
 | true=>exact h1 rfl
 | false=>exact h2 rfl
theorem D {p:Prop} [Decidable p] {f:Bool->Prop} {k:Kt f} (h1:p->f true) (h2:¬ p->f false):onK (decide p) k :=
 B (fun h=>h1 (of_decide_eq_true h)) fun h=>h2 (of_decide_eq_false h)
theorem T {c:Bool} {f:Bool->Prop} {k:Kt f} (h:c=true) (h1:f true):onK c k:=by subst h; exact h1
theorem F {c:Bool} {f:Bool->Prop} {k:Kt f} (h:c=false) (h1:f false):onK c k:=by subst h; exact h1
end L2.Q.R
namespace L2
open PySem PySem.Spec PyProof.Rows
section
variable {X:Cx}
def Cy:List V->Hp->VK->Prop:=fun vs H Q=>∃ i j:Int,vs=[.int i,.int j]/\∀ p,H p=none->Q (.ref p) (upd H p (.rng i j))
theorem su:CallR X (.type "range") Cy:=by
 intro pins s σ H xs us Q I r h
 obtain ⟨i,j,rfl,q⟩:=h
 cases r with
 | cons r rr =>
  cases rr with
  | cons r' rr =>
   cases rr
   obtain ⟨t,rfl⟩:=r
   obtain ⟨t',rfl⟩:=r'
   exact call_range_2 ⟨.ref _,_,I.laid (a:=s.heap.objs.size) (o:=.rng i j) (fun _ _ q=>xaj _ q) (xae _) ⟨_,_,_,xaw _ rfl⟩,rfl,q _ I.fresh⟩
def rM (lo:Int) (n:Nat):List V:=(List.range n).map fun i=>.int (lo+(i:Nat))
def zu:List V->Hp->VK->Prop:=fun vs H Q=>∃ p i j,vs=[.ref p]/\H p=some (.rng i j)/\(-(2 ^ 62)<=i/\i<2 ^ 62/\-(2 ^ 62)<=j/\j<2 ^ 62)/\j - i<=16777216/\∀ l,H l=none->Q (.ref l) (upd H l (.lst (rM i (j - i).toNat)))
theorem qp (hc:X.calm=true):CallR X (.type "list") zu:=by
 intro pins s σ H xs us Q I r h
 obtain ⟨p,i,j,rfl,e,⟨h1,h2,h3,h4⟩,hz,q⟩:=h
 obtain ⟨u,rfl,ru⟩:=Vals.one r
 cases ru
 obtain ⟨t,u,v,ho⟩:=(show ObjOk X.prog X.w H s.heap p (.rng i j) from I.hok p _ e)
 have en:Builtin.Range.rangeSize i j 1=((j - i).toNat:Nat):=by rw [rangeSize_one]; split <;> lia
 have z2:(j - i).toNat<=2 ^ 24:=by lia
 refine call_list_range (n:=(j - i).toNat) (I.ok.hd hc) ho (small_one h1 h2 h3 h4) en z2 fun h' tk acc c kp eo hacc=>?_
 refine ⟨.ref _,_,I.laid (a:=s.heap.objs.size) (o:=.lst (rM i (j - i).toNat)) (t':=tk) kp (xae _) ⟨?_,acc.toList,c,?_,by rw [xb2]; exact eo⟩,rfl,q _ I.fresh⟩
 ·rw [rM,xab,xbO,sizeLine_eq]; lia
 ·have go:∀ (n k:Nat) (ac:List Value),ac.length=n->(∀ (m:Nat) (v:Value),ac[m]? = some v->∃ t,v=.int (i+((k+m:Nat):Int) * 1) t)->Vals ((List.range' k n).map fun m=>.int (i+(m:Nat))) ac:=by
   intro n
   induction n with
   | zero=>intro k ac hl _; cases ac with
    | nil=>exact .nil
    | cons _ _=>cases hl
   | succ n ih =>
    intro k ac hl hi
    cases ac with
    | nil=>cases hl
    | cons v ac =>
     rw [List.range'_succ,xat]
     refine .cons ?_ (ih (k+1) ac (by simpa using hl) fun m v h=>?_)
     ·obtain ⟨t,rfl⟩:=hi 0 v rfl
      exact ⟨t,by simp⟩
     ·obtain ⟨t,rfl⟩:=hi (m+1) v (by simpa using h)
      exact ⟨t,by rw [show k+1+m=k+(m+1) by lia]⟩
  have:=go (j - i).toNat 0 acc.toList (by rw [xaI]; exact hacc.1) fun m v h=>by
   obtain ⟨t,rfl⟩:=hacc.2 m v (by simpa using h)
   exact ⟨t,by simp⟩
  rw [rM,List.range_eq_range']
  exact this
end
end L2
namespace L2.Q
open PySem PySem.Spec PyProof.Rows
section
variable {X:Cx} {K:PySem.W.Frag} {e e2:Expr} {te te2:WE} {pos p p2 pos2 cpos apos:Pos}
def j_ (te te2:WE):WE:=fun ρ Q=>te ρ fun _ x=>te2 ρ fun _ y=>match x,y with
 | .int i,.int j=>j - i<=16777216/\(-(2 ^ 62)<=i/\i<2 ^ 62/\-(2 ^ 62)<=j/\j<2 ^ 62)/\Q (.ow true) (.list (gF i (j - i).toNat))
 | _,_=>False
theorem sI (lo:Int) (n:Nat):flats (gF lo n)=true:=jk.mpr fun x hx=>by
 obtain ⟨i,_,rfl⟩:=xaE.mp hx
 rfl
theorem uO (hm:X.mg "list" = none) (hm2:X.mg "range" = none) (hc:X.calm=true) (he:QE X K e te) (he2:QE X K e2 te2) (hg:Gl X "list" := by rfl) (hg2:Gl X "range" := by rfl) (hs:starEach (e :: [e2]) X.env=(false,eval e X.env) :: starEach [e2] X.env:=by rfl) (hs3:starEach (e2 :: []) X.env=(false,eval e2 X.env) :: starEach [] X.env:=by rfl)
  (hs2:starEach [.Call (.Name "range" p2) [e,e2] [] pos2] X.env=(false,eval (.Call (.Name "range" p2) [e,e2] [] pos2) X.env) :: starEach [] X.env:=by rfl) (hpl:(backTo pos2 (starEach [e2] X.env)).any (·.1)=false:=by rfl):QE X K (.Call (.Name "list" p) [.Call (.Name "range" p2) [e,e2] [] pos2] [] pos) (j_ te te2):=by
 refine PE.imp (pe_callTy (qp hc) hg hm boot_list (pa_cons (pe_callTy su hg2 hm2 boot_range (pa_cons he (pa_cons he2 pa_nil hs3) hs) (by decide) (by decide) hs hpl) pa_nil hs2) (by decide) (by decide) hs2) fun σ H Qv hx=>ex4 hx fun Hs ρ tot Q sr h fin=>?_
 refine ⟨Hs,ρ,tot,_,sr,h,fun v H1 Hs1 m d As g1 r1 f1 q1=>⟨Hs1,ρ,tot,_,sr.grow g1,q1,fun u H2 Hs2 n y Bs g2 r2 f2 q2=>?_⟩⟩
 have r:=(r1.grow g2).rep g2.wf
 have r':=r2.rep g2.wf
 cases r with
 | int i=>cases r' with
  | int j =>
   obtain ⟨h1,h2,q2⟩:=q2
   refine ⟨i,j,rfl,fun a ha=>⟨a,i,j,rfl,upd_same,h2,by lia,fun l hl=>?_⟩⟩
   have g3:=(g1.trans g2).trans (newL (o:=.rng i j) g2.wf ha fun _ z=>nomatch z)
   have hz:(gF i (j - i).toNat).length<=sizeLine:=by rw [gF,xab,xbO,sizeLine_eq]; lia
   have:=Fin.lst (Fin.after fin g3) g3.wf hz (iw (K:=K) i (List.range (j - i).toNat)) (sI i (j - i).toNat) q2 l hl
   simpa [rM] using this
  | _=>exact q2.elim
 | _=>cases r' <;> exact q2.elim
def wD1 (tk tv:WE):WE:=fun ρ Q=>tk ρ fun _ x=>tv ρ fun _ y=>∃ k,x.key1=some k/\y.flat=true/\Q (.ow true) (.dK [(k,y)])
theorem xP (he:QE X K e te) (he2:QE X K e2 te2):QE X K (.Dict [some e] [e2] pos) (wD1 te te2):=by
 refine PE.imp (pe_disp (pps_cons he he2 pps_nil) rfl rfl (by simp) (by simp)) fun σ H Qv hx=>ex4 hx fun Hs ρ tot Q sr h fin=>fun a ha=>?_
 have g0:Grow Hs H Hs (upd H a (.dK [])):=newL sr.wf ha fun _ z=>nomatch z
 refine ⟨Hs,ρ,tot,_,sr.grow g0,h,fun v H1 Hs1 m x As g1 r1 f1 q1=>⟨Hs1,ρ,tot,_,(sr.grow g0).grow g1,q1,fun u H2 Hs2 n y Bs g2 r2 f2 q2=>?_⟩⟩
 obtain ⟨k,ek,fy,q2⟩:=q2
 have rx:=(r1.grow g2).rep g2.wf
 have ex:=rx.key ek
 subst ex
 have ry:=r2.flat g2.wf fy
 have gg:=(g0.trans g1).trans g2
 have e2:H2 a=some (.dK []):=g2.all _ _ (g1.all _ _ upd_same)
 have nH:Hs a=none:=sr.wf.sub.free ha
 have n2:Hs2 a=none:=g2.hsn (g1.hsn nH (by rw [upd_same]; exact fun z=>nomatch z)) (by rw [g1.all _ _ upd_same]; exact fun z=>nomatch z)
 refine ⟨e2,[(k,u)],rfl,by simp,?_⟩
 have g3:Grow Hs H Hs2 (upd H2 a (.dK [(k,u)])):=⟨fun b o hb=>by rw [upd_ne (ne_of_none hb ha)]; exact gg.all b o hb,gg.sh,⟨fun b o hb=>by rw [upd_ne (ne_of_none hb n2)]; exact gg.wf.sub b o hb,fun b vs hb=>by
  by_cases z:b=a
  ·subst z; rw [upd_same] at hb; cases hb
  ·rw [upd_ne z] at hb; exact gg.wf.tups b vs hb⟩,gg.new⟩
 exact fin (.ref a) _ Hs2 (.ow true) (.dK [(k,y)]) [a] g3 ⟨.dK (vs:=[u]) (As:=[]) ⟨by rw [sizeLine_eq]; simp,fun p hp=>by
  have:p=(k,y):=by simpa using hp
  subst this; exact iQ rx ek⟩ upd_same (.cons (As:=[]) (.sh (fun _=>fy) ry) .nil),by simp⟩ ⟨by simp,fun b hb=>by
  obtain rfl:b=a:=by simpa using hb
  exact ⟨n2,ha⟩⟩ q2
def E_:W1:=fun _ x Q=>match x with
 | .list xs=>∃ ks b,xs=ks.map keyD/\(∀ k∈ks,isI k=b)/\∀ ms:List Key,ms.Perm ks->(ms.Pairwise fun a b=>lt1 b a=false)->Q (.ow true) (.list (ms.map keyD))
 | .dK kvs=>∃ b,(∀ p∈kvs,isI p.1=b)/\∀ ms:List Key,ms.Perm (kvs.map (·.1))->(ms.Pairwise fun a b=>lt1 b a=false)->Q (.ow true) (.list (ms.map keyD))
 | _=>False
section
variable {Hs H:Hp} {fl:Bool}
theorem aq.erase (k:Nat) (r:aq K Hs H fl ds vs As):∃ Bs,Bs.Sublist As/\aq K Hs H fl (ds.eraseIdx k) (vs.eraseIdx k) Bs:=by
 induction ds generalizing vs As k with
 | nil =>
  obtain ⟨rfl,rfl⟩:=r.n0
  exact ⟨[],List.Sublist.refl _,.nil⟩
 | cons d ds ih =>
  obtain ⟨u,us,A,B,rfl,rfl,r,rs⟩:=r.c
  cases k with
  | zero=>exact ⟨B,xau _ _,rs⟩
  | succ k =>
   obtain ⟨C,sb,q⟩:=ih k rs
   exact ⟨A++C,sb.append_left _,.cons r q⟩
theorem aq.getF {ds:List D} {vs:List V} {As:List Addr} {k:Nat} {d:D} (r:aq K Hs H fl ds vs As) (e:ds[k]? = some d) (hf:d.flat=true) (w:Wf Hs H):∃ v,vs[k]? = some v/\Rep K Hs d v:=by
 induction ds generalizing vs As k with
 | nil=>simp at e
 | cons x ds ih =>
  obtain ⟨u,us,A,B,rfl,rfl,r,rs⟩:=r.c
  cases k with
  | zero =>
   simp at e
   subst e
   exact ⟨_,rfl,(r.rep w.sub fun _ _=>rfl).e_ w.tups hf⟩
  | succ k=>exact ih (k:=k) rs (by simpa using e)
end
def wPop (i:Nat) (p:WP):WS:=fun E ρ=>p ρ fun fl d up=>match d with
 | .list xs=>∃ y,xs[xs.length - 1]? = some y/\y.flat=true/\E.nx ((up fl (.list xs.dropLast)).set i (some (.sh y)))
 | _=>False
theorem mY {α:Type} (xs:List α):xs.eraseIdx (xs.length - 1)=xs.dropLast:=by
 rw [List.dropLast_eq_take,List.eraseIdx_eq_take_drop_succ]
 rw [List.drop_eq_nil_of_le (by lia),xaD]
theorem zG {wp:WP} {i:Nat} {x:Str} {pos':Pos} (hN:X.N.Nodup) (hi:X.N[i]? = some x) (hx:Loc X.env.scope x) (ho:QP X K e wp) (hK:X.K=K:=by rfl)
  (hbase:attributeBase e "pop" X.env (eval e X.env)=eval e X.env:=by rfl) (hline:(apos.endLine == cpos.line)=true:=by rfl)
  (hs:swapsWith (.Call (.Attribute e "pop" apos) [] [] cpos) (some (.Name x pos')) pos.line X.env=pure false:=by rfl) (hf:X.fn x=true\/X.env.scope.names.lookup x=some .local:=by first | exact .inl rfl | exact .inr rfl | assumption) :
  QS X K L (.Assign [.Name x pos'] (.Call (.Attribute e "pop" apos) [] [] cpos) pos) (wPop i wp):=by
 subst hK
 refine PS.imp (ps_set hN hi hx (pe_bm0 PySem.F.plainAttrs_list PySem.F.slot_list_pop PySem.F.type_list_pop mt_pop ho hbase hline) hs hf) fun D σ H hx=>du hx fun Hs ρ tot E sr h k1 k2 k3 k4=>?_
 refine ⟨Hs,ρ,tot,_,sr,h,fun v H1 Hs1 fl d up g1 p1 q1=>?_⟩
 cases d with
 | list xs =>
  obtain ⟨y,ey,fy,q1⟩:=q1
  obtain ⟨a,vs,A,ea,e2,_,rs,nd,hn,k⟩:=p1.put (Grow.refl g1.wf)
  subst ea
  obtain ⟨nA,ndA⟩:=xax.mp nd
  obtain ⟨u,eu,ru⟩:=rs.getF ey fy g1.wf
  obtain ⟨B,sb,rb⟩:=rs.erase (xs.length - 1)
  have hl:=rs.length
  rw [mY] at rb
  rw [hl,mY] at rb
  rw [hl] at eu
  refine ⟨.inl ⟨rfl,_,.inl (.inl e2)⟩,a,vs,u,rfl,rfl,e2,eu,?_⟩
  have hz:vs.dropLast.length<=sizeLine:=by
   rcases p1.ex with ⟨As',r,ne,_⟩
   cases r with
   | sh _ _=>exact absurd rfl ne
   | list hz e3 _=>rw [e2] at e3; cases e3; rw [List.length_dropLast]; lia
  obtain ⟨tot2,sr2⟩:=k fl _ _ B id rb hz (sb.nodup ndA) (fun z=>nA (sb.subset z)) (fun x hx=>.inl (sb.subset hx))
  obtain ⟨tot3,_,sr3⟩:=sr2.xZ i ru
  exact k1 _ _ Hs1 _ tot3 g1.sh sr3 q1
 | _=>exact q1.elim
def oZ (i:Nat) (p:WP) (tk:WE):WS:=fun E ρ=>p ρ fun fl d up=>match d with
 | .list xs=>tk ρ fun _ j=>match j with
  | .int j=>∃ y,0<=j/\xs[j.toNat]? = some y/\y.flat=true/\E.nx ((up fl (.list (xs.eraseIdx j.toNat))).set i (some (.sh y)))
  | _=>False
 | _=>False
theorem vq {wp:WP} {i:Nat} {x:Str} {pos':Pos} (hN:X.N.Nodup) (hi:X.N[i]? = some x) (hx:Loc X.env.scope x) (ho:QP X K e wp) (he:QE X K e2 te2) (hK:X.K=K:=by rfl)
  (hbase:attributeBase e "pop" X.env (eval e X.env)=eval e X.env:=by rfl)
  (hfew:((backTo cpos (starEach [e2] X.env)).all (fun x=>!x.1) && (backToKw cpos (keywordEach [] X.env)).all (fun x=>x.1.isSome)
   && decide ([e2].length+([]:List Keyword).length+(if ([]:List Keyword).isEmpty then 0 else 1)<30))=true:=by rfl)
  (hline:(apos.endLine == cpos.line)=true:=by rfl) (hss:starEach (e2 :: []) X.env=(false,eval e2 X.env) :: starEach [] X.env:=by rfl) (hplain:(backTo cpos (starEach [] X.env)).any (·.1)=false:=by rfl)
  (hs:swapsWith (.Call (.Attribute e "pop" apos) [e2] [] cpos) (some (.Name x pos')) pos.line X.env=pure false:=by rfl) (hf:X.fn x=true\/X.env.scope.names.lookup x=some .local:=by first | exact .inl rfl | exact .inr rfl | assumption) :
  QS X K L (.Assign [.Name x pos'] (.Call (.Attribute e "pop" apos) [e2] [] cpos) pos) (oZ i wp te2):=by
 subst hK
 refine PS.imp (ps_set hN hi hx (pe_bm PySem.F.plainAttrs_list PySem.F.slot_list_pop PySem.F.type_list_pop mt_popAt ho (pa_cons he pa_nil hss) hbase hfew hline hss hplain) hs hf) fun D σ H hx=>du hx fun Hs ρ tot E sr h k1 k2 k3 k4=>?_
 refine ⟨Hs,ρ,tot,_,sr,h,fun v H1 Hs1 fl d up g1 p1 q1=>?_⟩
 cases d with
 | list xs =>
  obtain ⟨a1,vs1,e1,s1⟩:=p1.isL g1.wf
  subst e1
  refine ⟨.inl ⟨rfl,_,s1⟩,Hs1,ρ,tot,_,sr.grow g1,q1,fun w H2 Hs2 m jd As g2 r2 f2 q2=>?_⟩
  have rj:=r2.rep g2.wf
  cases rj with
  | int j =>
   obtain ⟨y,hj,ey,fy,q2⟩:=q2
   obtain ⟨a,vs,A,ea,e2,e21,rs,nd,hn,k⟩:=p1.put g2
   cases ea
   obtain ⟨nA,ndA⟩:=xax.mp nd
   obtain ⟨u,eu,ru⟩:=rs.getF ey fy g2.wf
   obtain ⟨B,sb,rb⟩:=rs.erase j.toNat
   have hl:=rs.length
   have hz0:vs.length<=sizeLine:=by
    rcases p1.ex with ⟨As',r,ne,_⟩
    cases r with
    | sh _ _=>exact absurd rfl ne
    | list hz e3 _=>rw [e21] at e3; cases e3; exact hz
   have hlt:j.toNat<vs.length:=by
    rcases Nat.lt_or_ge j.toNat vs.length with q | q
    ·exact q
    ·rw [xbx q] at eu; cases eu
   have hsl:sizeLine<2 ^ 62:=by rw [sizeLine_eq]; decide
   refine ⟨a1,vs,j,j.toNat,u,rfl,rfl,e2,by lia,by lia,?_,eu,?_⟩
   ·unfold seqIndex?
    simp only [show ¬ j<0 by lia,if_false]
    rw [if_pos (by simp only [xaz,decide_eq_true_eq]; lia)]
   ·have hz:(vs.eraseIdx j.toNat).length<=sizeLine:=by rw [List.length_eraseIdx]; split <;> lia
    obtain ⟨tot2,sr2⟩:=k fl _ _ B id rb hz (sb.nodup ndA) (fun z=>nA (sb.subset z)) (fun x hx=>.inl (sb.subset hx))
    obtain ⟨tot3,_,sr3⟩:=sr2.xZ i ru
    exact k1 _ _ Hs2 _ tot3 (g1.sh.trans g2.sh) sr3 q2
  | _=>exact q2.elim
 | _=>exact q1.elim
end
abbrev WIL:=Env->(List D->Prop)->Prop
end L2.Q
namespace L2.Q.R
open PySem PySem.Spec PyProof.Rows L2.Q
section
variable {E:nF} {ρ:Env} {Q:Md->L2.Q.D->Prop} {te te2 tk:WE} {i:Nat} {d:L2.Q.D} {p:WP} {a:Addr} {b:Bool} {LQ:List L2.Q.D->Prop}
theorem Ei {f:Option Sl->Prop} {k:Kt f}:onK (some (.lk a b d)) k=f (some (.lk a b d)):=rfl
theorem Fb {f:Option (Option Sl)->Prop} {k:Kt f}:onK (some (some (.lk a b d))) k=f (some (some (.lk a b d))):=rfl
theorem Dn:useS (some (some (.lk a b d))) Q=Q .bo d:=rfl
theorem BP:j_ te te2 ρ Q=te ρ fun _ x=>te2 ρ fun _ y=>onK x (f:=fun x=>int' x fun i=>onK y (f:=fun y=>int' y fun j=>j - i<=16777216/\(-(2 ^ 62)<=i/\i<2 ^ 62/\-(2 ^ 62)<=j/\j<2 ^ 62)/\Q (.ow true) (.list (gF i (j - i).toNat))) ⟨⟩) ⟨⟩:=by
 unfold j_ onK int'
 congr 1
 funext _ x
 congr 1
 funext _ y
 cases x <;> cases y <;> rfl
theorem wD1_:wD1 tk te ρ Q=tk ρ fun _ x=>te ρ fun _ y=>∃ k,x.key1=some k/\y.flat=true/\Q (.ow true) (.dK [(k,y)]):=rfl
theorem Gy:wPop i p E ρ=p ρ fun fl d up=>onK d (f:=fun d=>list' d fun xs=>∃ y,xs[xs.length - 1]? = some y/\y.flat=true/\onK y (f:=fun y=>E.nx ((up fl (.list xs.dropLast)).set i (some (.sh y)))) ⟨⟩) ⟨⟩:=by unfold wPop onK list'; rfl
theorem Ca:oZ i p tk E ρ=p ρ fun fl d up=>onK d (f:=fun d=>list' d fun xs=>tk ρ fun _ j=>onK j (f:=fun j=>int' j fun j=>∃ y,0<=j/\xs[j.toNat]? = some y/\y.flat=true/\onK y (f:=fun y=>E.nx ((up fl (.list (xs.eraseIdx j.toNat))).set i (some (.sh y)))) ⟨⟩) ⟨⟩) ⟨⟩:=by unfold oZ onK list' int'; rfl
def own' (o:Option (Option Sl)) (k:Bool->L2.Q.D->Prop):Prop:=match o with
 | some (some (.ow fl d))=>k fl d
 | _=>False
theorem BZ:own' (some (some (.ow b d))) k=k b d:=rfl
theorem Dk:p_ te ρ LQ=te ρ fun m d=>gK m/\onK d (f:=fun d=>list' d fun xs=>LQ (ju xs)) ⟨⟩:=by unfold p_ onK list'; rfl
end
end L2.Q.R
namespace L2
open PySem PySem.Spec PyProof.Rows Builtin Builtin.Str Builtin.Int
def repS (n:Int) (z:Str):Str:=⟨(List.replicate n.toNat z.cps.toList).flatten.toArray⟩
theorem jL (xs:Array Nat):∀ (k:Nat) (acc:Array Nat),(List.replicate k xs).foldl (· ++ ·) acc=acc++(List.replicate k xs.toList).flatten.toArray
 | 0,acc=>by simp
 | k+1,acc=>by
  rw [xbn,List.foldl_cons,jL xs k,xbn,xbN]
  apply Array.ext'
  simp
theorem xH (h:1<=n):Txt.mul z n=repS n z:=by
 unfold Txt.mul repS
 rw [if_neg (by lia)]
 by_cases h1:n=1
 ·subst h1
  simp
 ·by_cases h0:z.length=0
  ·have hz:z.cps = #[]:=xaS h0
   rw [if_pos (by simp [h0])]
   obtain ⟨c⟩:=z
   cases hz
   simp
  ·rw [if_neg (by simp [h1,h0]),jL]
   simp
def Ai:R2:=fun x y H Q=>match x,y with
 | .int n,.str z=>(1<=n/\n<=100/\z.length<=100)/\Q (.str (repS n z)) H
 | _,_=>False
end L2
namespace L2
open PySem PySem.Spec PyProof.Rows
end L2
namespace L2.Q
open PySem PySem.Spec PyProof.Rows
section
variable {X:Cx} {K:PySem.W.Frag} {e a b:Expr} {ta tb:WE} {p pos:Pos} {x:Str} {id:String}
def fAll:W1:=fun _ x Q=>match x with
 | .list xs=>∃ bs:List Bool,xs=bs.map D.bl/\Q .sh (.bl (bs.all (fun b=>b)))
 | _=>False
theorem zY {H:Hp} {bs:List Bool} {vs:List V} (r:Reps K H (bs.map D.bl) vs):vs=bs.map V.bl:=by
 induction bs generalizing vs with
 | nil=>exact r.n0
 | cons b bs ih =>
  obtain ⟨u,us,rfl,r1,rs⟩:=Reps.c (d:=D.bl b) r
  cases r1
  rw [ih rs]; rfl
theorem Aw:BrC K (rAll K) fAll:=by
 intro Hs H m x v As Qd Qv w rx h f
 have r1:=rx.rep w
 cases r1 with
 | list z s q =>
  obtain ⟨bs,rfl,h⟩:=h
  cases zY q
  exact ⟨bs,s,f.sh w (.bl _) h⟩
 | _=>exact h.elim
theorem lJ (n:Int) (z:Str):(repS n z).length=n.toNat * z.length:=by
 unfold repS Str.length
 rw [xal,len_rep,xaI]
theorem wH:bootBuiltins "min" = some (.builtin "min"):=by decide +kernel
def yu:R2:=fun x y H Q=>match x,y with
 | .int i,.int j=>Q (.int (if j<i then j else i)) H
 | _,_=>False
def uT:W2:=fun _ x _ y Q=>match x,y with
 | .int i,.int j=>Q .sh (.int (if j<i then j else i))
 | _,_=>False
theorem uq:Br2 K yu uT:=by
 intro Hs H m x v As n y u Bs Qd Qv w rx ry h f
 have r1:=rx.rep w
 have r2:=ry.rep w
 cases r1 with
 | int i=>cases r2 with
  | int j=>exact f.sh w (.int _) h
  | _=>exact h.elim
 | _=>cases r2 <;> exact h.elim
theorem uC (hc:CallR X (.builtin id) fun xs H Q=>∃ x y,xs=[x,y]/\r x y H Q) (br:Br2 K r f) (hg:Gl X x) (hm:X.mg x=none) (hv:bootBuiltins x=some (.builtin id)) (ha:QE X K a ta) (hb:QE X K b tb)
  (hs:starEach [a,b] X.env=(false,eval a X.env) :: starEach [b] X.env:=by rfl) (hs2:starEach [b] X.env=(false,eval b X.env) :: starEach [] X.env:=by rfl) (hn:x ≠ "__name__" := by decide) (hdb:(x == ("__debug__" : Str))=false:=by decide)
  (hpl:(backTo pos (starEach [b] X.env)).any (·.1)=false:=by rfl):QE X K (.Call (.Name x p) [a,b] [] pos) (wOp f ta tb):=by
 refine PE.imp (pe_callB hc hg hm hv (pa_cons ha (pa_cons hb pa_nil hs2) hs) hn hdb hs hpl) fun σ H Qv h=>?_
 obtain ⟨Hs,ρ,tot,Q,sr,h,fin⟩:=il br σ H Qv h
 exact ⟨Hs,ρ,tot,Q,sr,h,fun v H1 Hs1 m x As g1 r1 f1 q1=>by
  obtain ⟨Hs2,ρ2,tot2,Q2,sr2,h2,fin2⟩:=fin v H1 Hs1 m x As g1 r1 f1 q1
  exact ⟨Hs2,ρ2,tot2,Q2,sr2,h2,fun u H2 Hs3 n y Bs g2 r2 f2 q2=>⟨v,u,rfl,fin2 u H2 Hs3 n y Bs g2 r2 f2 q2⟩⟩⟩
theorem vX (hc:X.calm=true:=by rfl):CallR X (.builtin "min") fun xs H Q=>∃ x y,xs=[x,y]/\yu x y H Q:=fun pins s σ H xs us Q I r hx9=>by
 obtain ⟨x,y,e,q⟩:=hx9
 subst e
 unfold yu at q
 split at q
 ·exact call_min2 hc pins s σ H _ us Q I r ⟨_,_,rfl,q⟩
 ·exact q.elim
end
end L2.Q
namespace L2.Q.R
open PySem PySem.Spec PyProof.Rows L2.Q
section
variable {Q:Md->L2.Q.D->Prop} {m m':Md} {xs:List L2.Q.D} {a b:Int}
theorem Ib:fAll m (.list xs) Q = ∃ bs:List Bool,xs=bs.map L2.Q.D.bl/\Q .sh (.bl (bs.all (fun b=>b))):=rfl
theorem FZ:uT m (.int a) m' (.int b) Q=Q .sh (.int (if b<a then b else a)):=rfl
end
end L2.Q.R
namespace L2.Q
open PySem PySem.Spec PyProof.Rows
theorem mV (O:Nat->List D->Prop) (Iv:Env->Prop):∀ (xs:List D) (i:Nat) (pre:List D) (ρ:Env) (k:List D->Prop),Iv ρ->O i pre ->
  (∀ j x,xs[j]? = some x->∀ ρ,Iv ρ->∀ out,O (i+j) out->∀ N1:Env->Prop,∀ N2:Env->D->Prop,(∀ ρ' d,Iv ρ'->O (i+j+1) (out++[d])->N2 ρ' d)->g x ρ fun ρ1=>tc ρ1 fun b=>if b=true then te ρ1 fun m d=>okEl m d/\N2 ρ1 d else N1 ρ1) ->
  (∀ out,O (i+xs.length) (pre++out)->k out)->fQ g tc te xs ρ k
 | [],i,pre,_,k,_,h0,_,h=>h [] (by simpa using h0)
 | x :: xs,i,pre,ρ,k,iv,h0,hs,h=>by
  refine hs 0 x rfl ρ iv pre h0 _ _ (fun ρ' d iv' o'=>?_)
  refine mV O Iv xs (i+1) (pre++[d]) ρ' _ iv' o' (fun j y hy ρ iv out ho=>?_) fun out ho=>?_
  ·have:=hs (j+1) y (by simpa using hy) ρ iv out (by rwa [show i+(j+1)=i+1+j by lia])
   rwa [show i+(j+1)+1=i+1+j+1 by lia] at this
  ·refine h (d :: out) ?_
   rw [xaO] at ho
   rwa [xaH,show i+(xs.length+1)=i+1+xs.length by lia]
end L2.Q
namespace TS
open PySem PySem.SetTable
def adv (M:Nat) (p:Probe):Probe :=
 if p.more>0 then { p with j:=p.j+1,more:=p.more - 1 } else
 { p with j:=(leap M p.i p.perturb).1,more:=runEnd M (leap M p.i p.perturb).1 - (leap M p.i p.perturb).1,i:=(leap M p.i p.perturb).1,perturb:=(leap M p.i p.perturb).2 }
def ps (M:Nat) (h:Int):Nat->Probe
 | 0=>{ j:=bits h % (M+1),more:=runEnd M (bits h % (M+1)) - bits h % (M+1),i:=bits h % (M+1),perturb:=bits h,dummy:=none }
 | n+1=>adv M (ps M h n)
def J (M:Nat) (h:Int) (n:Nat):Nat:=(ps M h n).j
def Up (xs:Array Nat):Prop:=∀ i j:Nat,i<j->j<xs.size->xs.getD i 0<xs.getD j 0
theorem oY {xs:Array Nat} {i d d':Nat} (h:i<xs.size):xs.getD i d=xs.getD i d':=by simp [Array.getD,h]
theorem lr {xs:Array Nat} (U:Up xs) (j:Nat):∀ (fuel lo hi:Nat),hi - lo<=fuel->lo<=hi->hi<=xs.size->(∀ i<lo,xs.getD i 0<j)->(∀ i,hi<=i->i<xs.size->j<=xs.getD i 0) ->
  below.go xs j fuel lo hi<=xs.size/\(∀ i<below.go xs j fuel lo hi,xs.getD i 0<j)/\(∀ i,below.go xs j fuel lo hi<=i->i<xs.size->j<=xs.getD i 0)
 | 0,lo,hi,hf,h1,h2,h3,h4=>by
  obtain rfl:lo=hi:=by lia
  exact ⟨h2,h3,h4⟩
 | fuel+1,lo,hi,hf,h1,h2,h3,h4=>by
  unfold below.go
  by_cases c:lo<hi
  ·rw [if_pos c]
   dsimp only
   have hm:(lo+hi) / 2<xs.size:=by lia
   by_cases d:xs.getD ((lo+hi) / 2) j<j
   ·rw [if_pos d]
    rw [oY (d':=0) hm] at d
    refine lr U j fuel _ _ (by lia) (by lia) h2 (fun i hi'=>?_) h4
    by_cases e:i=(lo+hi) / 2
    ·rw [e]; exact d
    ·exact Nat.lt_trans (U i _ (by lia) hm) d
   ·rw [if_neg d]
    rw [oY (d':=0) hm] at d
    refine lr U j fuel _ _ (by lia) (by lia) (by exact xaP ‹_›) h3 fun i hi' hs=>?_
    by_cases e:i=(lo+hi) / 2
    ·rw [e]; exact xbA ‹_›
    ·have:=U ((lo+hi) / 2) i (by lia) hs; lia
  ·rw [if_neg c]
   obtain rfl:lo=hi:=by lia
   exact ⟨h2,h3,h4⟩
theorem cN (U:Up xs) (j:Nat):below xs j<=xs.size/\(∀ i<below xs j,xs.getD i 0<j)/\(∀ i,below xs j<=i->i<xs.size->j<=xs.getD i 0) :=
 lr U j xs.size 0 xs.size (by lia) (by lia) (xae _) (fun i h=>absurd h (Nat.not_lt_zero i)) fun i h1 h2=>by lia
theorem below_at (U:Up xs) (h:i<xs.size):below xs (xs.getD i 0)=i:=by
 obtain ⟨a,b,c⟩:=cN U (xs.getD i 0)
 by_cases h1:below xs (xs.getD i 0)<i
 ·have:=c _ (xae _) (by lia)
  have:=U _ i h1 h
  lia
 ·by_cases h2:i<below xs (xs.getD i 0)
  ·have:=b i h2; lia
  ·lia
def taken (xs:Array Nat) (j:Nat):Bool:=xs[below xs j]? == some j
theorem tV {xs:Array Nat} {i j:Nat} (h:xs[i]? = some j):i<xs.size/\xs.getD i 0=j:=by
 obtain ⟨h1,h2⟩:=xbh.mp h
 exact ⟨h1,by simp [Array.getD,h1,h2]⟩
theorem yC {xs:Array Nat} {i:Nat} (h:i<xs.size):xs[i]? = some (xs.getD i 0):=by simp [Array.getD,h]
theorem iT {xs:Array Nat} (U:Up xs) {j:Nat}:taken xs j=true↔∃ i,i<xs.size/\xs.getD i 0=j:=by
 unfold taken
 rw [beq_iff_eq]
 constructor
 ·intro h; exact ⟨_,tV h⟩
 ·rintro ⟨i,h,rfl⟩
  rw [below_at U h]
  exact yC h
theorem lA {xs:Array Nat} (U:Up xs) {j:Nat} (h:taken xs j=true):below xs j<xs.size/\xs.getD (below xs j) 0=j:=by
 unfold taken at h
 rw [beq_iff_eq] at h
 exact tV h
theorem eE {α:Type} (xs:Array α) {p:Nat} (x:α) (h:p<=xs.size):(insertAt xs p x).size=xs.size+1:=by
 unfold insertAt
 simp
 lia
theorem ins_get {α:Type} (xs:Array α) {p:Nat} (x:α) (h:p<=xs.size) (i:Nat):(insertAt xs p x)[i]? = if i<p then xs[i]? else if i=p then some x else xs[i - 1]? := by
 unfold insertAt
 have hs:((xs.extract 0 p).push x).size=p+1:=by simp; exact Nat.min_eq_left ‹_›
 by_cases h1:i<p
 ·rw [if_pos h1,Array.getElem?_append_left (by lia),Array.getElem?_push,if_neg (by simp; lia),xbt]
  rw [if_pos (by lia)]; simp
 ·rw [if_neg h1]
  by_cases h2:i=p
  ·rw [if_pos h2,Array.getElem?_append_left (by lia),Array.getElem?_push,if_pos (by simp; lia)]
  ·rw [if_neg h2,Array.getElem?_append_right (by lia),hs,xbt]
   by_cases h3:i - (p+1)<min xs.size xs.size - p
   ·rw [if_pos h3]
    congr 1; lia
   ·rw [if_neg h3,xbs (by lia)]
theorem cF (h:p<=xs.size) (i:Nat):(insertAt xs p x).getD i 0=if i<p then xs.getD i 0 else if i=p then x else xs.getD (i - 1) 0:=by
 have e:∀ (ys:Array Nat) (k:Nat),ys.getD k 0=ys[k]?.getD 0:=fun ys k=>by
  simp [xbe]
 rw [e,ins_get xs x h]
 split
 ·rw [e]
 ·split
  ·rfl
  ·rw [e]
theorem wM (U:Up xs) (hj:taken xs j=false):Up (insertAt xs (below xs j) j):=by
 obtain ⟨a,b,c⟩:=cN U j
 have ne:∀ i,i<xs.size->xs.getD i 0≠j:=fun i hi e=>by
  have:=(iT U (j:=j)).mpr ⟨i,hi,e⟩
  rw [hj] at this; cases this
 intro i k hik hk
 rw [eE xs j a] at hk
 rw [cF a,cF a]
 by_cases h1:k<below xs j
 ·rw [if_pos (by lia),if_pos h1]; exact U i k hik (by lia)
 ·rw [if_neg h1]
  by_cases h2:k=below xs j
  ·rw [if_pos h2,if_pos (by lia)]; exact b i (by lia)
  ·rw [if_neg h2]
   by_cases h3:i<below xs j
   ·rw [if_pos h3]; exact U i (k - 1) (by lia) (by lia)
   ·rw [if_neg h3]
    by_cases h4:i=below xs j
    ·rw [if_pos h4]
     have:=c (k - 1) (by lia) (by lia)
     have:=ne (k - 1) (by lia)
     lia
    ·rw [if_neg h4]; exact U (i - 1) (k - 1) (by lia) (by lia)
theorem uf (U:Up xs) (hj:taken xs j=false):taken (insertAt xs (below xs j) j) k=(decide (k=j) || taken xs k):=by
 have a:=(cN U j).1
 have U':=wM U hj
 apply xaW.mpr
 rw [iT U',Bool.or_eq_true,decide_eq_true_eq,iT U]
 rw [eE xs j a]
 constructor
 ·rintro ⟨i,hi,e⟩
  rw [cF a] at e
  by_cases h1:i<below xs j
  ·rw [if_pos h1] at e; exact .inr ⟨i,by lia,e⟩
  ·rw [if_neg h1] at e
   by_cases h2:i=below xs j
   ·rw [if_pos h2] at e; exact .inl e.symm
   ·rw [if_neg h2] at e; exact .inr ⟨i - 1,by lia,e⟩
 ·rintro (rfl | ⟨i,hi,e⟩)
  ·exact ⟨below xs k,by lia,by rw [cF a,if_neg (by lia),if_pos rfl]⟩
  ·by_cases h1:i<below xs j
   ·exact ⟨i,by lia,by rw [cF a,if_pos h1]; exact e⟩
   ·exact ⟨i+1,by lia,by rw [cF a,if_neg (by lia),if_neg (by lia)]; exact e⟩
def Reach (M:Nat) (place:Array Nat) (h:Int) (j:Nat):Prop:=∃ n,n<=10 * (M+13)/\J M h n=j/\∀ k<n,taken place (J M h k)=true
structure TI {α:Type} (t:SetTable) (es:Array (Int × α)):Prop where
 pw:∃ m,t.mask+1=2 ^ m/\3<=m
 sz:t.place.size=es.size
 up:Up t.place
 le:∀ i,i<t.place.size->t.place.getD i 0<=t.mask
 dm:t.dummies = #[]
 few:es.size * 5<t.mask * 3
 path:∀ i h x,es[i]? = some (h,x)->Reach t.mask t.place h (t.place.getD i 0)
section
variable {α:Type} {t:SetTable} {es:Array (Int × α)}
theorem TI.slot (T:TI t es) (j:Nat):t.slot j=if taken t.place j then .live (below t.place j) else .empty:=by
 unfold SetTable.slot taken
 dsimp only
 split
 ·rfl
 ·have:has t.dummies j=false:=by rw [T.dm]; rfl
  rw [this]; rfl
theorem TI.free (T:TI t es):∃ e,e<=t.mask/\taken t.place e=false:=by
 have hf:=T.few
 have hs:=T.sz
 by_cases c:∃ e,e<=t.mask/\taken t.place e=false
 ·exact c
 ·exfalso
  have all:∀ e,e<=t.mask->taken t.place e=true:=fun e he=>by
   cases z:taken t.place e with
   | true=>rfl
   | false=>exact absurd ⟨e,he,z⟩ c
  -- slot e stands at place at most e
  have go:∀ e,e<=t.mask->e<=below t.place e:=by
   intro e
   induction e with
   | zero=>intro _; exact xao _
   | succ e ih =>
    intro he
    have h1:=lA T.up (all e (by exact xaP ‹_›))
    have h2:=lA T.up (all (e+1) he)
    have:=ih (by exact xaP ‹_›)
    obtain ⟨_,b,c⟩:=cN T.up (e+1)
    by_cases z:below t.place e<below t.place (e+1)
    ·walk_at "s1"
    ·have:=c (below t.place e) (by exact xbA ‹_›) h1.1
     lia
  have:=go t.mask (xae _)
  have:=(lA T.up (all t.mask (xae _))).1
  lia
theorem TI.put (T:TI t es) (hj:j<=t.mask) (hn:taken t.place j=false) (hr:Reach t.mask t.place h j) (ht:t'.mask=t.mask) (hp:t'.place=insertAt t.place (below t.place j) j) (hd:t'.dummies = #[])
  (hf:(es.size+1) * 5<t.mask * 3):TI t' (insertAt es (below t.place j) (h,x)):=by
 have a:=(cN T.up j).1
 have a':below t.place j<=es.size:=by rw [<- T.sz]; exact a
 refine ⟨by rw [ht]; exact T.pw,by rw [hp,eE _ _ a,eE _ _ a',T.sz],by rw [hp]; exact wM T.up hn,fun i hi=>?_,hd,by rw [eE _ _ a',ht]; exact hf,fun i g y e=>?_⟩
 ·rw [hp,eE _ _ a] at hi
  rw [hp,cF a,ht]
  split
  ·exact T.le i (by lia)
  ·split
   ·exact hj
   ·exact T.le (i - 1) (by lia)
 ·have mono:∀ {g:Int} {k:Nat},Reach t.mask t.place g k->Reach t'.mask t'.place g k:=fun {g k} ⟨n,h1,h2,h3⟩=>⟨n,by rw [ht]; exact h1,by rw [ht]; exact h2,fun q hq=>by
   rw [hp,ht,uf T.up hn,h3 q hq,Bool.or_true]⟩
  rw [ins_get es _ a'] at e
  rw [hp,cF a,<- hp]
  by_cases h1:i<below t.place j
  ·rw [if_pos h1] at e ⊢
   exact mono (T.path i g y e)
  ·rw [if_neg h1] at e ⊢
   by_cases h2:i=below t.place j
   ·rw [if_pos h2] at e ⊢
    cases e
    exact mono hr
   ·rw [if_neg h2] at e ⊢
    exact mono (T.path (i - 1) g y e)
end
theorem mQ {α:Type} [DecidableEq α]:∀ {l m:List α},l.Nodup->(∀ x∈l,x∈m)->l.length<=m.length
 | [],_,_,_=>xao _
 | x :: l,m,nd,h=>by
  rw [xax] at nd
  have hx:=h x xad
  have:=mQ (l:=l) (m:=m.erase x) nd.2 fun y hy=>(List.mem_erase_of_ne (fun e=>nd.1 (by rw [<- e]; exact hy))).mpr (h y (xac _ hy))
  rw [List.length_erase_of_mem hx] at this
  have:0<m.length:=List.length_pos_of_mem hx
  simp only [xaH]; lia
def occ (owner:Array (Option Nat)) (j:Nat):Bool:=(owner.getD j (some 0)).isSome
structure OI (M:Nat) (hs:List Int) (owner:Array (Option Nat)):Prop where
 sz:owner.size=M+1
 lt:∀ j v:Nat,owner[j]? = some (some v)->v<hs.length
 inj:∀ j j' v:Nat,owner[j]? = some (some v)->owner[j']? = some (some v)->j=j'
 all:∀ v:Nat,v<hs.length->∃ j:Nat,owner[j]? = some (some v)
 path:∀ j v:Nat,owner[j]? = some (some v)->∃ n,n<=10 * (M+13)/\J M (hs.getD v 0) n=j/\∀ q<n,occ owner (J M (hs.getD v 0) q)=true
theorem xT (h:j<owner.size):occ owner j=true↔∃ v,owner[j]? = some (some v):=by
 unfold occ
 rw [xbF h]
 simp only [Array.getD,h,dite_true,Option.some.injEq]
 cases hh:owner[j] with
 | none =>
  have:owner.getInternal j h=none:=hh
  rw [this]; simp
 | some v =>
  have:owner.getInternal j h=some v:=hh
  rw [this]; simp
theorem OI.free (O:OI M hs owner) (hl:hs.length<=M):∃ e,e<=M/\occ owner e=false:=by
 by_cases c:∃ e,e<=M/\occ owner e=false
 ·exact c
 ·exfalso
  have all:∀ e,e<=M->∃ v,owner[e]? = some (some v):=fun e he=>by
   refine (xT (by rw [O.sz]; lia)).mp ?_
   cases z:occ owner e with
   | true=>rfl
   | false=>exact absurd ⟨e,he,z⟩ c
  have nd:((List.range (M+1)).map fun j=>(owner.getD j none).getD 0).Nodup:=by
   rw [List.nodup_iff_pairwise_ne,xbQ]
   refine List.Pairwise.imp_of_mem ?_ (List.nodup_iff_pairwise_ne.mp List.nodup_range)
   intro a b ha hb hne z
   obtain ⟨va,ea⟩:=all a (by have:=xaV.mp ha; lia)
   obtain ⟨vb,eb⟩:=all b (by have:=xaV.mp hb; lia)
   rw [xbe,xbe,ea,eb] at z
   have z:va=vb:=z
   subst z
   exact hne (O.inj _ _ _ ea eb)
  have:=mQ (m:=List.range hs.length) nd fun x hx=>by
   obtain ⟨j,hj,rfl⟩:=xaE.mp hx
   obtain ⟨v,e⟩:=all j (by have:=xaV.mp hj; lia)
   rw [xbe,e]
   exact xaV.mpr (O.lt _ _ e)
  simp at this
  lia
theorem OI.nil (M:Nat):OI M [] (Array.replicate (M+1) none):=by
 have no:∀ (j v:Nat),¬ (Array.replicate (M+1) (none:Option Nat))[j]? = some (some v):=fun j v z=>by
  rw [Array.getElem?_replicate] at z
  split at z <;> cases z
 exact ⟨by simp,fun j v z=>absurd z (no j v),fun j j' v z _=>absurd z (no j v),fun v hv=>absurd hv (Nat.not_lt_zero v),fun j v z=>absurd z (no j v)⟩
section
variable {prog:Program} {w:World} {K:Type} [DecidableEq K] {knd:KeyKind prog w K}
abbrev De (knd:KeyKind prog w K) (k:List K):Int:=tupleKeyHash knd k
def Cw (knd:KeyKind prog w K) (p:List K × Addr):Int × Value:=(De knd p.1,.ref p.2)
structure SetT (knd:KeyKind prog w K) (h:Heap) (a:Addr) (ks:List (List K × Addr)):Prop where
 ob:∃ o es ep t,h.get? a=some o/\o.ExactSet/\o.data=.set es ep t/\TI t es/\t.mask<=8191/\t.led=(!w.params.followText "set-order")/\es.toList=ks.map (Cw knd)
 nd:(ks.map (·.1)).Nodup
 is:∀ p∈ks,IsTupleKey knd h p.1 p.2
end
local macro_rules | `(tactic| walk_at $s:str) => do
 let x:=s.getString
 if x.startsWith "PV" then `(tactic| exact $(Lean.mkIdent (.str (.str (.num (.str (.str (.str .anonymous "_private") "PySem") "SetOps") 0) "PySem") (x.drop 2).toString)))
 else Lean.Macro.throwUnsupported
section
variable {prog:Program} {w:World} {K:Type} [DecidableEq K] {knd:KeyKind prog w K}
theorem SetT.ne (S:SetT knd h a ks) (hx:IsTupleKey knd h k x):x≠a:=by
 obtain ⟨⟨o,es,ep,t,ho,hex,_⟩,_,_⟩:=S
 obtain ⟨o',items,n,ho',hc,_⟩:=hx
 intro z
 subst z
 rw [ho] at ho'
 cases ho'
 rw [hex.1] at hc
 exact absurd hc (by decide)
end
end TS
namespace TS
open PySem PySem.SetTable PyProof.Rows
section
def SIt (h:Heap) (I:Addr) (first:Value) (i:Nat) (a:Addr) (n ep:Nat):Prop :=
 h.get? I=some { cls:=.type "set_iterator",dict:=none,data:=.fields #[first,.int i 0,.ref a,.int n 0,.int ep 0],slots:=#[] }
def SOb (h:Heap) (a:Addr) (es:Array (Int × Value)) (ep:Nat) (t:SetTable):Prop:=∃ o,h.get? a=some o/\o.data=.set es ep t
variable {a I:Addr} {es:Array (Int × Value)} {ep:Nat} {t:SetTable} {first:Value} {i n:Nat}
def PV (ys:List (Int × Value)) (i:Nat) (v:Value):Prop:=∃ e,ys[i]? = some e/\v=e.2
theorem SIt.keep (x:SIt h I first i a n ep) (e:∀ o,h.get? I=some o->h'.get? I=some o):SIt h' I first i a n ep:=e _ x
theorem SOb.keep (x:SOb h a es ep t) (e:∀ o,h.get? a=some o->h'.get? a=some o):SOb h' a es ep t:=let ⟨o,ho,r⟩:=x; ⟨o,e _ ho,r⟩
end
end TS
namespace Tim
open PySem PyProof.Rows
end Tim
namespace TS
open PySem PySem.SetTable PyProof.Rows
end TS
namespace L2
open PySem PySem.Spec PyProof.Rows
end L2
namespace TS
open PySem PySem.SetTable PyProof.Rows
end TS
namespace L2
open PySem PySem.Spec PyProof.Rows
end L2
namespace L2.Q
open PySem PySem.Spec PyProof.Rows
end L2.Q
namespace L2.Q.R
open PySem PySem.Spec PyProof.Rows L2.Q
end L2.Q.R
namespace L2
open PySem PySem.Spec PyProof.Rows
end L2
namespace L2.Q
open PySem PySem.Spec PyProof.Rows
end L2.Q
namespace L2.Q.R
open PySem PySem.Spec PyProof.Rows L2.Q
end L2.Q.R
namespace L2.Q
open PySem PySem.Spec PyProof.Rows PySem.W
abbrev bmVE:List Value:=[.type "ValueError",.type "Exception",.type "BaseException",.type "object"]
structure XcK (K:PySem.W.Frag) (C:Addr):Prop where
 ex:excIn K C bmVE "ValueError.__new__" = true
 gx:findIn K (.ref C) "__getattr__" = some none
 ga:findIn K (.ref C) "__getattribute__" = some (some (.builtin "BaseException.__getattribute__"))
 cl:findIn K (.ref C) "__class__" = some (some (.builtin "object.__class__"))
 ob:mroIn K C (.type "object")=some true
theorem XcK.obj {K:PySem.W.Frag} (x:XcK K C) (X:K.In h):∃ bm N nm q bs hdct sn sub ab col dd k0 k1 k2 k3 k5 mN,
  h.get? C=some (excClassObj nm q C N bs bm hdct sn sub ab col dd k0 k1 k2 k3 k5 "ValueError.__new__")/\h.Ns N mN/\mN "__init__" = none/\OwnTail h bmVE bm:=by
 have q:=x.ex
 unfold excIn at q
 split at q
 ·rename_i dd cd sl ho
  split at q
  ·rename_i C' bm k0 k1 k2 k3 n k5 hm hs
   simp only [xaz,beq_iff_eq,xcg] at q
   obtain ⟨⟨⟨⟨⟨e1,e2⟩,hdel⟩,ht⟩,hok⟩,hni⟩:=q
   cases e1; cases e2
   cases cd
   dsimp only at hm hdel hok hni
   cases hm; cases hdel
   have hsl:sl = #[k0,k1,k2,k3,some (.builtin "ValueError.__new__"),k5]:=by
    cases sl
    dsimp only at hs
    rw [hs]
   cases hsl
   exact ⟨bm,_,_,_,_,_,_,_,_,_,dd,k0,k1,k2,k3,k5,_,X _ _ ho,.of_isNs (isNs_of_in X hok),nsMap_none_of_in X hok hni,tail_of_in X ht⟩
  ·cases q
 ·cases q
section
variable {prog:Program} {w:World} {A:Around} {E:Value->Shared->Prop} {h:Heap} {g:Array GenState} {d:Drawn} {t:Nat} {os:OsState} {a C:Addr} {o:Obj} {K:PySem.W.Frag}
theorem vC {R:Result->Shared->Prop} (x:XcK K C) (X:K.In h) (hx:h.get? a=some o) (hc:o.cls=.ref C) (hq:R (.ok (.ret (.ref C))) ⟨h,g,d,t,os⟩) :
  codeAny (model prog w) A (.call (.builtin "getset_descriptor.__get__") ⟨[.builtin "object.__class__",.ref a,.ref C],[]⟩) R ⟨h,g,d,t,os⟩:=by
 obtain ⟨bm,N,nm,q,bs,hdct,sn,sub,ab,col,dd,k0,k1,k2,k3,k5,mN,hC,hN,hni,T⟩:=x.obj X
 have hT5:(⟨h,g,d,t,os⟩:Shared).TypeIs (.builtin "object.__class__") "getset_descriptor" := F.typeOf_object_class
 have hcB:(Value.ref C :: bm).contains (.type (".".intercalate ("object.__class__".cutAt '.').dropLast))=true:=by
  rw [F.owner_object_class,xce,T.hasType (X := "object") (b:=true) rfl]; rfl
 refine codeAny_call_builtin F.slot_gs_get.plain F.entry_gs_get (F.slot_gs_get.check _ _ _ _ _ _ _ _ hT5 (F.args_gs_get _ _ _) ?_)
 repeat (any_goals (first | assumption | (with_reducible refine wpAny_loadPart_at hx ?_; rw [hc]) | (with_reducible refine wpAny_isSubtype_exc hC ?_; rw [hcB]) | wp_step))
 refine ⟨Code.quiet_builtin _ (by decide +kernel),codeAny_builtin F.entry_object_class ?_⟩
 repeat (any_goals (first | assumption | (with_reducible refine wpAny_loadPart_at hx ?_; rw [hc]) | wp_step))
theorem qw (x:XcK K C) (X:K.In h) (hx:h.get? a=some o) (hc:o.cls=.ref C) (hq:Q (.done (.ret (.ref C))) ⟨h,g,d,t,os⟩) :
  wpAny (model prog w) A (Builtin.«object.__getattribute__» ⟨[.ref a,.str "__class__" tk],[]⟩) Q E ⟨h,g,d,t,os⟩:=by
 have hT5:(⟨h,g,d,t,os⟩:Shared).TypeIs (.builtin "object.__class__") "getset_descriptor" := F.typeOf_object_class
 have f5:=F.typeOf_object_class
 have f6:=F.slot_gs_get.lookup
 have f7:=F.slot_gs_set.lookup
 have Lk:=looks_findIn (M:=model prog w) X x.cl
 repeat (any_goals (first | assumption | (with_reducible refine wpAny_loadPart_at hx ?_; rw [hc]) | with_reducible refine Lk.at ?_ | wp_step))
 refine vC x X hx hc ?_
 repeat (any_goals (first | assumption | wp_step))
theorem yr (x:XcK K C) (X:K.In h) (hx:h.get? a=some o) (hc:o.cls=.ref C) (hq:Q (.ref C) ⟨h,g,d,t,os⟩) :
  wpAny (model prog w) A (getAttrBy (.ref a) (.str "__class__" tk) false) Q E ⟨h,g,d,t,os⟩:=by
 have f3:=F.attr_ValueError.ga.bind (.ref a)
 have hx2:(Value.builtin "BaseException.__getattribute__" == Value.builtin "object.__getattribute__")=false:=by decide +kernel
 have hx1:(onTheHeap (Value.ref C) && Value.builtin "BaseException.__getattribute__" == Value.builtin "object.__getattribute__")=false:=by rw [hx2]; rfl
 have Lk:=looks_findIn (M:=model prog w) X x.ga
 have Lg:=looks_findIn (M:=model prog w) X x.gx
 repeat (any_goals (first | assumption | (with_reducible refine wpAny_loadPart_at hx ?_; rw [hc]) | with_reducible refine Lk.at ?_ | with_reducible refine Lg.at ?_ | wp_step))
 obtain ⟨bm,N,nm,q,bs,hdct,sn,sub,ab,col,dd,k0,k1,k2,k3,k5,mN,hC,hN,hni,T⟩:=x.obj X
 have hk:builtinKind "BaseException.__getattribute__" = some .slot:=by decide +kernel
 have hsplit:splitId "BaseException.__getattribute__" = some ("BaseException", "__getattribute__"):=by decide +kernel
 have hcB:(Value.ref C :: bm).contains (.type "BaseException")=true:=by rw [xce,T.hasType (X := "BaseException") (b:=true) rfl]; rfl
 have chk:∀ {Q':Unit->Shared->Prop} {E':Value->Shared->Prop} {A':Around},Q' () ⟨h,g,d,t,os⟩->wpAny (model prog w) A' (checkBuiltinCall "BaseException.__getattribute__" ⟨[.ref a,.str "__class__" tk],[]⟩) Q' E' ⟨h,g,d,t,os⟩:=fun {Q' E' A'} hq'=>by
  have ha:=F.args_bexc_ga (.ref a) (.str "__class__" tk)
  simp only [checkBuiltinCall,hk,hsplit]
  refine xaa ?_
  unfold isInstance
  repeat (first | (with_reducible refine wpAny_loadPart_at hx ?_; rw [hc]) | (with_reducible refine wpAny_isSubtype_exc hC ?_; rw [hcB]) | wp_step)
  exact hq'
 refine codeAny_call_builtin F.attr_ValueError.ga.plain F.entry_bexc_ga (chk (qw x X hx hc ?_))
 repeat (any_goals (first | assumption | wp_step))
theorem qR (x:XcK K C) (X:K.In h) (hx:h.get? a=some o) (hc:o.cls=.ref C) (hq:Q (some (.ref C)) ⟨h,g,d,t+1,os⟩):wpAny (model prog w) A (getAttr? (.ref a) "__class__") Q E ⟨h,g,d,t,os⟩:=by
 unfold getAttr? getAttrBy?
 repeat (any_goals (first | assumption | with_reducible apply yr x X hx hc | wp_step))
end
def XAt (a C:Addr) (h:Heap):Prop:=∃ o,h.get? a=some o/\o.cls=.ref C
theorem XcK.looks {K:PySem.W.Frag} (x:XcK K C) (X:K.In h):Looks M h (isType (.ref C)) true:=by
 obtain ⟨bm,N,nm,q,bs,hdct,sn,sub,ab,col,dd,k0,k1,k2,k3,k5,mN,hC,hN,hni,T⟩:=x.obj X
 intro A' Q' E' s' k q
 unfold isType loadHead
 exact xaa (wpAny_loadPart (k _ _ hC) (xah q))
theorem vB {K:PySem.W.Frag} (x:XcK K C):KitX K (.ref a) (.ref C) (XAt a C) where
 ty:=fun M h X p=>by
  obtain ⟨o,h1,h2⟩:=p
  exact h2 ▸ (Looks.ld h1).andThen .now
 it:=fun M h X p=>x.looks X
 ne:=fun h tp dd its n sl X htp=>by
  obtain ⟨bm,N,nm,q,bs,hdct,sn,sub,ab,col,dd,k0,k1,k2,k3,k5,mN,hC,hN,hni,T⟩:=x.obj X
  refine Bool.eq_false_iff.mpr fun q=>?_
  have e:C=tp:=Value.ref.inj (beq_iff_eq.mp q)
  subst e
  have z:=congrArg (fun o=>o.map (·.data)) (hC.symm.trans htp)
  cases z
 ca:=fun {prog w A E Q s} X p k=>by
  obtain ⟨h,g,d,t,os⟩:=s
  obtain ⟨o,h1,h2⟩:=p
  exact qR x X h1 h2 k
theorem nZ {K:PySem.W.Frag} {a C R:Addr} {os:OsState} (x:XcK K C) (r:XcK K R) (sub:mroIn K C (.ref R)=some true) (X:K.In h) (p:XAt a C h)
  (hq:Q true ⟨h,g,d,t,os⟩):wpAny M A (excMatches (.ref a) (.ref R)) Q E ⟨h,g,d,t,os⟩:=by
 obtain ⟨bm,N,nm,q,bs,hdct,sn,sub',ab,col,dd,k0,k1,k2,k3,k5,mN,hC,hN,hni,T⟩:=r.obj X
 obtain ⟨oe,he,hcls⟩:=p
 have hcB:(Value.ref R :: bm).contains (.type "BaseException")=true:=by rw [xce,T.hasType (X := "BaseException") (b:=true) rfl]; rfl
 have f:=tc_notTuple
 have Lk:=looks_mroIn (M:=M) X sub
 unfold excMatches
 repeat (first | (with_reducible refine wpAny_loadPart_at he ?_; rw [hcls]) | with_reducible refine wpAny_loadPart_at hC ?_ | (with_reducible refine wpAny_isSubtype_exc hC ?_; rw [hcB]) | with_reducible refine Lk.at ?_ | wp_step)
 exact hq
theorem FunFrames.rebase {h base B:Heap}:∀ {l:List PySem.Env},h.FunFrames base l->(∀ b∈frs l,B.get? b=none)->h.FunFrames B l
 | [],_,_=>trivial
 | env :: rest,⟨hk,⟨L,o,hf,hn,ho,hd⟩,hr⟩,hB=>⟨hk,⟨L,o,hf,hB L (by unfold frs; rw [xaN,hf]; exact xad),ho,hd⟩,
   FunFrames.rebase hr fun b hb=>hB b (by unfold frs; rw [xaN,hf]; exact xac _ hb)⟩
theorem ObjOk.there {P:Program} (x:ObjOk P w H h a o):∃ u,h.get? a=some u:=by
 cases o with
 | lst xs=>obtain ⟨_,_,_,_,e⟩:=x; exact ⟨_,e⟩
 | tup xs=>obtain ⟨_,_,_,_,e,_⟩:=x; exact ⟨_,e⟩
 | dK kvs=>obtain ⟨_,_,_,_,o,_,_,e,_⟩:=x; exact ⟨_,e⟩
 | dT kvs=>obtain ⟨_,_,_,_,o,_,_,e,_⟩:=x; exact ⟨_,e⟩
 | set S n=>obtain ⟨o,_,_,_,e,_⟩:=x; exact ⟨_,e⟩
 | ins C dx fs=>obtain ⟨_,_,_,e,_⟩:=x; exact ⟨_,e⟩
 | own y=>exact x
 | xd fs=>obtain ⟨_,⟨_,_,_,e,_⟩,_⟩:=x; exact ⟨_,e⟩
 | rng lo hi=>obtain ⟨_,_,_,e⟩:=x; exact ⟨_,e⟩
 | frz ob u=>obtain ⟨e,_⟩:=x; exact ⟨_,e⟩
 | tbl ps=>exact ⟨_,(show h.get? a=some _ from x)⟩
 | met f y=>exact ⟨_,(show h.get? a=some _ from x)⟩
 | ext φ=>obtain ⟨_,e,_⟩:=x; exact e
def Cov (B:Heap) (fs:List Addr) (H':Hp) (h₀ h:Heap):Prop:=∀ b o,h.get? b=some o->(H' b≠none\/h₀.get? b≠none)->b∉fs->B.get? b=some o
def CXx (P:Program) (w:World) (mg:Str->Option Value) (rn:List Str):CXT:=fun outer H s E e s' =>
 ∃ a n C a0 H' B,e=.ref a/\(n∈rn/\mg n=some (.ref C))/\s'.os=s.os/\AllBare s'.gens/\Un (frs outer) [] H H' s.heap s'.heap/\HOk P w H' s'.heap /\
  Heap.FlyingW B outer a (.ref C) a0 s'.heap/\Cov B (frs outer) H' s.heap s'.heap/\(∀ b∈frs outer,H' b=none)/\E (.ref C) none H'
structure dh (fs:List Addr) (H':Hp) (h₀ h h':Heap):Prop where
 keep:∀ b o,h.get? b=some o->(H' b≠none\/h₀.get? b≠none)->b∉fs->h'.get? b=some o
 slot:∀ b o,h.get? b=some o->b∈fs->∃ sl,h'.get? b=some { o with slots:=sl }
theorem dh.of {B:Heap} (c:Cov B (frs l) H' h₀ h) (st:B.StaysIn h') (up:h.UpToSlots h') (ff:h.FunFrames base l):dh (frs l) H' h₀ h h' :=
 ⟨fun b o e k n=>st b o (c b o e k n),fun b o e m=>by
  obtain ⟨_,o',e',d⟩:=ff.mem m
  rw [e] at e'; cases e'
  exact up b o e d⟩
theorem dh.trans (a:dh fs H' h₀ h h1) (b:dh fs H' h₀ h1 h2):dh fs H' h₀ h h2 :=
 ⟨fun x o e k n=>b.keep x o (a.keep x o e k n) k n,fun x o e m=>by
  obtain ⟨_,e1⟩:=a.slot x o e m
  obtain ⟨sl,e2⟩:=b.slot x _ e1 m
  exact ⟨sl,e2⟩⟩
theorem dh.un (m:dh fs H' h₀ h h') (u:Un fs [] H H' h₀ h):Un fs [] H H' h₀ h' where
 keep:=fun b o e n nb nx=>m.keep b o (u.keep b o e n nb nx) (.inr (by rw [e]; exact fun z=>nomatch z)) nb
 slot:=fun b o e n hb nx=>by
  obtain ⟨_,e1⟩:=u.slot b o e n hb nx
  obtain ⟨sl,e2⟩:=m.slot b _ e1 hb
  exact ⟨sl,e2⟩
 free:=u.free
 there:=fun b o e nx=>by
  obtain ⟨o',e1⟩:=u.there b o e nx
  by_cases hb:b∈fs
  ·obtain ⟨sl,e2⟩:=m.slot b o' e1 hb
   exact ⟨_,e2⟩
  ·exact ⟨o',m.keep b o' e1 (.inr (by rw [e]; exact fun z=>nomatch z)) hb⟩
 tups:=u.tups
 frzs:=u.frzs
 tbls:=u.tbls
theorem dh.hok {P:Program} (m:dh fs H' h₀ h h') (f:∀ b∈fs,H' b=none) (x:HOk P w H' h):HOk P w H' h':=fun a o e =>
 (x a o e).stay (fun b u hb q=>by
  have hH:H' b≠none:=by
   rcases hb with z | z
   ·rw [z,e]; exact fun z=>nomatch z
   ·rw [z]; exact fun z=>nomatch z
  exact m.keep b u q (.inl hH) fun z=>hH (f b z)) (fun _ q=>q) fun _ _ q=>q
section
variable {X:Cx} {pins:List (Addr × Obj)} {σ:St} {H H':Hp} {s:Shared} {e:Value}
theorem Cov.up {B h h':Heap} (hst:X.stack=X.env :: X.outer) (hf:X.env.frame=some X.env.locals) (hex:X.ex=[]) (I:Inv X pins σ H s) (un:Un (frs X.stack) [] H H' s.heap h) (c:Cov B (frs X.stack) H' s.heap h) (m:dh (frs X.stack) H' s.heap h h') (fr:∀ b∈frs X.stack,H' b=none) (hok:HOk X.prog X.w H' h) :
  Un X.fs [] X.H₀ H' X.s₀.heap h'/\Cov B X.fs H' X.s₀.heap h':=by
 have hs:∀ b,b∈frs X.stack↔b=X.env.locals\/b∈X.fs:=fun b=>by
  rw [hst]; unfold frs; rw [xaN,hf]; exact xam
 have neL:∀ b o,X.s₀.heap.get? b=some o->b≠X.env.locals:=fun b o e=>xav (xap (xan e) I.ok.above)
 have nex:∀ b:Addr,b∉X.ex:=fun b z=>by rw [hex] at z; exact nomatch z
 have m':=m.un un
 have th:∀ b o,X.s₀.heap.get? b=some o->∃ o',s.heap.get? b=some o':=fun b o e=>I.base.there b o e (nex b)
 refine ⟨⟨fun b o e n nb nx=>?_,fun b o e n hb nx=>?_,fun b o e n nx=>?_,fun b o e nx=>?_,fun b xs e=>un.tups b xs (I.base.tups b xs e),fun b ob u e=>un.frzs b ob u (I.base.frzs b ob u e),fun b ps e=>?_⟩,fun b o e k nb=>?_⟩
 ·exact m'.keep b o (I.base.keep b o e n nb (nex b)) (I.base.free b o e n (nex b)) (fun z=>((hs b).mp z).elim (neL b o e) nb) (by simp)
 ·obtain ⟨_,e1⟩:=I.base.slot b o e n hb (nex b)
  obtain ⟨sl,e2⟩:=m'.slot b _ e1 (I.base.free b o e n (nex b)) ((hs b).mpr (.inr hb)) (by simp)
  exact ⟨sl,e2⟩
 ·obtain ⟨o',e1⟩:=th b o e
  exact un.free b o' e1 (I.base.free b o e n (nex b)) (by simp)
 ·obtain ⟨o',e1⟩:=th b o e
  exact m'.there b o' e1 (by simp)
 ·obtain ⟨m1,e1⟩:=I.base.tbls b ps e
  obtain ⟨m2,e2⟩:=un.tbls b _ e1
  exact ⟨m1++m2,by rw [e2,xbf]⟩
 ·have key:∀ o',h.get? b=some o'->(H' b≠none\/s.heap.get? b≠none)->b∉frs X.stack->B.get? b=some o:=fun o' e' k' n'=>by
   have:=m.keep b o' e' k' n'
   rw [e] at this; cases this
   exact c b o e' k' n'
  rcases k with k | k
  ·have nf:b∉frs X.stack:=fun z=>k (fr b z)
   cases q:H' b with
   | none=>exact absurd q k
   | some u =>
    obtain ⟨o',e'⟩:=ObjOk.there (hok b u q)
    exact key o' e' (.inl k) nf
  ·cases q:X.s₀.heap.get? b with
   | none=>exact absurd q k
   | some o0 =>
    obtain ⟨o1,e1⟩:=th b o0 q
    obtain ⟨o2,e2⟩:=un.there b o1 e1 (by simp)
    exact key o2 e2 (.inr (by rw [e1]; exact fun z=>nomatch z)) fun z=>((hs b).mp z).elim (neL b o0 q) nb
end
section
variable {P:Program} {w:World} {K:PySem.W.Frag} {mg:Str->Option Value} {base:Heap} {N:List Str} {qual:Str} {scope:Scope} {f:Addr} {cd:Value} {A:Around} {outer:List PySem.Env} {s₀:Shared} {H₀:Hp} {E:XK} {rn:List Str}
theorem uH (hf:env.frame=some L) (h:b∈frs l):b∈frs (env :: l):=by
 unfold frs; rw [xaN,hf]; exact xac _ h
theorem Ag:Passes (CXx P w mg rn) (cxOf (CXx P w mg rn) P w K mg base N qual scope f cd A outer s₀ H₀ E) E:=by
 intro pins σ H s e s' I hx
 obtain ⟨a,n,C,a0,H',B,he,hn,os,bare,un,hok,fly,cov,fr,hE⟩:=hx
 subst he
 refine wpAny_leaves_onW I.ok.frames rfl fly fun h' fly' up=>?_
 have mv:=dh.of cov fly'.1 up fly.2.2.1
 obtain ⟨u1,c1⟩:=Cov.up (X:=cxOf (CXx P w mg rn) P w K mg base N qual scope f cd A outer s₀ H₀ E) rfl rfl rfl I un cov mv fr hok
 exact ⟨a,n,C,a0,H',B,rfl,hn,os.trans I.os,bare,u1,mv.hok fr hok,fly',c1,fun b hb=>fr b (uH rfl hb),hE⟩
def nJ (X:Cx) (rn:List Str) (E:XK):Prop:=∀ (pins:List (Addr × Obj)) (σ:St) (H:Hp) (s:Shared) (h':Heap) (e:Addr) (n:Str) (C:Addr) (vs:List Value),Inv X pins σ H s->Heap.MadeExcOf s.heap h' e (.ref C) vs ->
 n∈rn->X.mg n=some (.ref C)->E (.ref C) none H->X.xe (.ref e) { s with heap:=h' }
theorem wN:nJ (cxOf (CXx P w mg rn) P w K mg base N qual scope f cd A outer s₀ H₀ E) rn E:=by
 intro pins σ H s h' e n C vs I hx hn hm hE
 have st:=I.stack
 have ff:s.heap.FunFrames (hideAll s.heap (frs (envOfC qual scope s₀.heap.objs.size f cd :: outer))) (envOfC qual scope s₀.heap.objs.size f cd :: outer):=FunFrames.rebase st fun b hb=>hideAll_none _ hb
 refine wpAny_leaves_madeW (h:=s.heap) I.ok.frames rfl (fun b o q=>of_hideAll _ q) ff hx fun h'' t fly tup hnt up=>?_
 have ff':h'.FunFrames (hideAll s.heap (frs (envOfC qual scope s₀.heap.objs.size f cd :: outer))) (envOfC qual scope s₀.heap.objs.size f cd :: outer):=ff.of_keeps fun b o q _=>⟨o,hx.keeps b o q,rfl⟩
 have hok:HOk P w H h':=I.hok.kept hx.keeps
 have fr:∀ b∈frs (envOfC qual scope s₀.heap.objs.size f cd :: outer),H b=none:=I.stkFree
 have cov:Cov (hideAll s.heap (frs (envOfC qual scope s₀.heap.objs.size f cd :: outer))) (frs (envOfC qual scope s₀.heap.objs.size f cd :: outer)) H s.heap h':=fun b o q k nb=>by
  have ho:∃ o1,s.heap.get? b=some o1:=by
   rcases k with k | k
   ·cases z:H b with
    | none=>exact absurd z k
    | some u=>exact ObjOk.there (I.hok b u z)
   ·exact Option.ne_none_iff_exists'.mp k
  obtain ⟨o1,e1⟩:=ho
  have e2:=hx.keeps b o1 e1
  rw [q] at e2; cases e2
  exact hideAll_get _ e1 nb
 have mv:dh (frs (envOfC qual scope s₀.heap.objs.size f cd :: outer)) H s.heap h' h'':=dh.of cov fly.1 up ff'
 obtain ⟨u1,c1⟩:=Cov.up (X:=cxOf (CXx P w mg rn) P w K mg base N qual scope f cd A outer s₀ H₀ E) rfl rfl rfl I (Un.kept hx.keeps) cov mv fr hok
 exact ⟨e,n,C,_,H,_,rfl,⟨hn,hm⟩,I.os,I.bare,u1,mv.hok fr hok,fly,c1,fun b hb=>fr b (uH rfl hb),hE⟩
theorem Dy {X:Cx}:Passes (CXx P w mg rn) X E0:=by
 intro _ _ _ _ _ _ _ hx
 obtain ⟨_,_,_,_,_,_,_,_,_,_,_,_,_,_,_,h⟩:=hx
 exact h.elim
def LX (rn:List Str) (mg:Str->Option Value) (E:XK):Str->Hp->Prop:=fun n H'=>n∈rn->∀ C,mg n=some (.ref C)->E (.ref C) none H'
def dI (K:PySem.W.Frag) (rn:List Str) (mg:Str->Option Value) (sp:SpD):Sp:=fun vs H Qv E=>∃ ds Qd,Reps K H ds vs/\sp ds Qd /\
 (∀ v H' Hs' m d As,Same H Hs'->Wf Hs' H'->RM K Hs' H' m d v As->As.Nodup->(∀ a∈As,Hs' a=none)->Qd m d->Qv v H') /\
 ∀ n H',Same H H'->Qd (.ow false) (.str n)->LX rn mg E n H'
theorem qt (h:dI K rn mg sp vs H Qv E) (hp:∀ ds Q,sp ds Q->t { nx:=fun _=>Q .sh .non,rt:=Q } (bj N.length ds)) :
  tpS K (LX rn mg E) t { nx:=fun _ H'=>Qv .non H',rt:=Qv } (start N vs) H:=by
 obtain ⟨ds,Qd,rs,hs,fin,fx⟩:=h
 have hl:=rs.length
 refine ⟨H,bj N.length ds,[],{ nx:=fun _=>Qd .sh .non,rt:=Qd },⟨?_,⟨Same.refl _,fun _ _ e=>e⟩,xay,fun a h=>nomatch h⟩,hp ds Qd hs,?_,?_,?_,?_,fx⟩
 ·unfold bj start
  rw [hl]
  exact SR.start rs
 ·exact fun σ' H' Hs' ρ' tot' s sr q=>fin .non H' Hs' .sh .non [] s sr.wf ⟨rfl,.non⟩ xay (fun a h=>nomatch h) q
 ·exact fun σ' H' Hs' ρ' tot' s sr q=>q.elim
 ·exact fun σ' H' Hs' ρ' tot' s sr q=>q.elim
 ·exact fun v H' Hs' m d As s w r nd own q=>fin v H' Hs' m d As s w r nd own q
theorem FunX.ok {st:Stmt} {ps:List Str} (F:Fun K x qual st f fd) (S:FnScope N ps (defScope st)) (len:∀ ds Q,sp ds Q->ds.length=ps.length)
  (hbody:∀ (cdv:Value) (A:Around) (outer:List PySem.Env) (s:Shared) (H:Hp) (E:XK),Room k (A.deeper (envOfC qual (defScope st) s.heap.objs.size f cdv))->QSs (cxOf (CXx P w mg rn) P w K mg base N qual (defScope st) f cdv A outer s H E) K (LX rn mg E) (defBody st) t)
  (hp:∀ ds Q,sp ds Q->t { nx:=fun _=>Q .sh .non,rt:=Q } (bj N.length ds)):FnOk P w K mg base (CXx P w mg rn) (k+1) f fd ps (dI K rn mg sp):=by
 obtain ⟨oc,od,kV,doc,pm,an,cdv,ct,osl,rfl,lk,hcd⟩:=F.ex
 exact fn_of lk hcd S (fun vs H Q E ⟨ds,Qd,rs,hs,_⟩=>by rw [<- rs.length]; exact len ds Qd hs) fun A outer s H vs Q E hr hsp=>⟨_,hbody cdv A outer s H E hr,qt hsp hp⟩
structure CalX (P:Program) (w:World) (K:PySem.W.Frag) (mg:Str->Option Value) (base:Heap) (rn:List Str) (k:Nat) (x:Str) (ps:List Str) (sp:SpD):Prop where
 ex:∃ (g:Addr) (fd:FuncData),mg x=some (.ref g)/\PySem.W.keepIn K (.ref g)=true/\Binds K fd ps []/\FnOk P w K mg base (CXx P w mg rn) k g fd ps (dI K rn mg sp)
theorem Fun.calX {st:Stmt} {ps:List Str} (F:Fun K x qual st f fd) (hm:mg x=some (.ref f)) (ok:FnOk P w K mg base (CXx P w mg rn) k f fd ps (dI K rn mg sp))
  (h:∀ (kV doc pm:Value) (an:Option Addr) (cdv ct:Value) (us:List Value),us.length=ps.length->bindArgs (PySem.W.fnOf x qual (defArgs st) (defBody st) (defScope st) .none kV doc pm an cdv ct) ⟨us,[]⟩=pure (ps.zip us)):CalX P w K mg base rn k x ps sp:=⟨f,fd,hm,F.kp,F.binds h,ok⟩
end
def XCl (K:PySem.W.Frag) (mg:Str->Option Value) (n:Str):Prop:=∃ C,mg n=some (.ref C)/\XcK K C
def xch (m:Md) (d:D) (Y:Str->Prop) (N:Prop):Prop:=match m,d with
 | .ow false,.str n=>Y n
 | _,_=>N
theorem sZ {K:PySem.W.Frag} (r:RM K Hs H m d v As) (h:xch m d Y N):N:=by
 unfold xch at h
 split at h
 ·obtain ⟨r,ne⟩:=r
  cases r
  exact absurd rfl ne
 ·exact h
section
variable {X:Cx} {K:PySem.W.Frag} {rn:List Str} {E:XK} {e:Expr} {es:List Expr} {te:WE} {t:WA} {pos:Pos}
def pX (n:Str) (te:WE):WS:=fun E ρ=>te ρ fun _ _=>E.rt (.ow false) (.str n)
theorem vg (hc:X.calm=true) (ok:nJ X rn E) (hn:x∈rn) (hm:X.mg x=some (.ref C)) (xc:XcK X.K C) (ha:PA X [e] ta) (hg:Gl X x) (hdb:(x == ("__debug__" : Str))=false)
  (he:starEach [e] X.env=[(false,eval e X.env)]):PS X (.Raise (some (.Call (.Name x np) [e] [] cpos)) none pos) (fun D σ H=>ta σ H fun vs H1=>vs.length<=sizeLine/\E (.ref C) none H1):=by
 intro pins s σ H D I h
 obtain ⟨bm,N,nm,q,bs,hdct,sn,sub,ab,col,dd,k0,k1,k2,k3,k5,mN,hC,hN,hni,T⟩:=xc.obj I.mod.kin
 refine wpAny_Raise_call_subT (C:=C) (nm:=nm) (q:=q) (N:=N) (bs:=bs) (bm:=bm) (hdct:=hdct) (sn:=sn) (sub:=sub) (ab:=ab) (col:=col) (dd:=dd) (k0:=k0) (k1:=k1) (k2:=k2) (k3:=k3) (k5:=k5)
  F.excBase_ValueError (mN:=mN) (T.hasType F.excBase_ValueError.hasBase) (I.ok.hd hc) (by rw [he]; rfl) hni (ld_glob I hg hm ⟨rfl,?_⟩ hdb)
 have h2:=ha cpos pins s σ H _ I h
 rw [he] at h2 ⊢
 exact Calls.evalArgs_plain (thn h2 fun vs s1 ⟨xs,H1,I1,r,hl,q⟩=>⟨rfl,by rw [<- r.length]; exact hl,I1.bk _ _ hC,hN.keeps I1.bk,T.keeps I1.bk,fun h' e' hx=>ok pins σ H1 s1 h' e' x C vs I1 hx hn hm q⟩)
theorem pM (hc:X.calm=true) (ok:nJ X rn E) (xc:XCl K X.mg x) (hn:x∈rn) (he:QE X K e te) (hg:Gl X x:=by rfl) (hdb:(x == ("__debug__" : Str))=false:=by decide) (hK:X.K=K:=by rfl)
  (hs:starEach [e] X.env=[(false,eval e X.env)]:=by rfl):QS X K (LX rn X.mg E) (.Raise (some (.Call (.Name x np) [e] [] cpos)) none pos) (pX x te):=by
 subst hK
 obtain ⟨C,hm,xc⟩:=xc
 refine PS.imp (vg hc ok hn hm xc (pa_cons he pa_nil hs) hg hdb hs) fun D σ H hx=>cY hx fun Hs ρ tot E' sr h k1 k2 k3 k4 kx=>?_
 exact ⟨Hs,ρ,tot,_,sr,h,fun v H1 Hs1 m d As g1 r1 f1 q1=>⟨(by decide:1<=sizeLine),kx x H1 (g1.sh.trans g1.wf.sub) q1 hn C hm⟩⟩
section
variable {k:Nat} {x:Str} {ps:List Str} {sp:SpD} {p cpos:Pos}
theorem m8 (C:CalX X.prog X.w X.K X.mg X.base rn k x ps sp) (hr:Room k X.A) (hx:Passes (CXx X.prog X.w X.mg rn) X E) (ha:PA X (e :: es) ta) (hg:Gl X x) (hdb:(x == ("__debug__" : Str))=false) (he:starEach (e :: es) X.env=(false,eval e X.env) :: starEach es X.env)
  (hpl:(backTo pos (starEach es X.env)).any (·.1)=false):PE X (.Call (.Name x p) (e :: es) [] pos) (tCall (dI X.K rn X.mg sp) [] E ta):=by
 obtain ⟨g,fd,hm,hk,hb,F⟩:=C.ex
 exact pe_call F hr hg hm hk hb .nil hx ha hdb he hpl
theorem fZ {σ:St} {H:Hp} {Qv:VK} {Hs:Hp} {ρ:Env} {tot:List Addr} {Y:Str->Prop} {Q:Md->D->Prop} (sr:SRel K Hs ρ σ H tot) (h:t ρ fun ps=>sp (ps.map (·.2)) fun m d=>xch m d Y (onK (m,d) (f:=fun p=>Q (retM p.1 p.2) p.2) ⟨⟩))
  (f:∀ v H' Hs' m d As,Grow Hs H Hs' H'->RM K Hs' H' m d v As->bZ Hs' H As->Q m d->Qv v H') (fx:∀ n H',Same Hs H'->Y n->LX rn X.mg E n H'):tCall (dI K rn X.mg sp) [] E (tpA K t) σ H Qv:=by
 refine ⟨Hs,ρ,tot,_,sr,h,fun vs H1 Hs1 ps As g1 r1 f1 q1=>?_⟩
 refine ⟨_,_,by rw [xaD]; exact r1.reps g1.wf,q1,fun v H' Hs' m d As s w r nd own q=>?_,fun n H' s q=>fx n H' (g1.sh.trans (g1.wf.sub.trans s)) q⟩
 obtain ⟨As',r',fr⟩:=oF g1.wf s w r nd own
 exact Fin.after f g1 v H' _ (retM m d) d As' (eZ g1.wf s w) r' fr (sZ r q)
def sS (sp:SpD) (t:WA):WE:=fun ρ Q=>t ρ fun ps=>sp (ps.map (·.2)) fun m d=>xch m d (fun _=>False) (onK (m,d) (f:=fun p=>Q (retM p.1 p.2) p.2) ⟨⟩)
def qe (sp:SpD) (t:WA):WS:=fun E ρ=>t ρ fun ps=>sp (ps.map (·.2)) fun m d=>xch m d (fun n=>E.rt (.ow false) (.str n)) (onK (m,d) (f:=fun _=>E.nx ρ) ⟨⟩)
variable (C:CalX X.prog X.w X.K X.mg X.base rn k x ps sp) (hr:Room k X.A)
include C hr
theorem Br (ha:QA X K (e :: es) t) (hK:X.K=K:=by rfl) (hg:Gl X x:=by rfl) (hdb:(x == ("__debug__" : Str))=false:=by decide) (he:starEach (e :: es) X.env=(false,eval e X.env) :: starEach es X.env:=by rfl)
  (hpl:(backTo pos (starEach es X.env)).any (·.1)=false:=by rfl):QE X K (.Call (.Name x p) (e :: es) [] pos) (sS sp t):=by
 subst hK
 exact PE.imp (m8 C hr Dy ha hg hdb he hpl) fun σ H Qv h=>ex4 h fun Hs ρ tot Q sr h f=>fZ sr h f fun n H' _ z=>z.elim
variable (hx:Passes (CXx X.prog X.w X.mg rn) X E)
include hx
theorem pq (ha:QA X K (e :: es) t) (hs:swapsWith (.Call (.Name x p) (e :: es) [] cpos) none pos.line X.env=pure false:=by rfl) (hK:X.K=K:=by rfl) (hg:Gl X x:=by rfl) (hdb:(x == ("__debug__" : Str))=false:=by decide) (he:starEach (e :: es) X.env=(false,eval e X.env) :: starEach es X.env:=by rfl)
  (hpl:(backTo cpos (starEach es X.env)).any (·.1)=false:=by rfl):QS X K (LX rn X.mg E) (.Expr (.Call (.Name x p) (e :: es) [] cpos) pos) (qe sp t):=by
 subst hK
 exact PS.imp (ps_expr (m8 C hr hx ha hg hdb he hpl) hs) fun D σ H hx=>cY hx fun Hs ρ tot E' sr h k1 k2 k3 k4 kx=>fZ (Q:=fun _ _=>E'.nx ρ) sr h (fun v H1 Hs1 m d As g1 r1 f1 q1=>k1 σ H1 Hs1 ρ tot g1.sh (sr.grow g1) q1) kx
end
def wIsx (j:Nat) (a:Addr) (b:Bool):WE:=fun ρ Q=>ρ[j]? = some (some (.xc a))/\Q .sh (.bl b)
theorem iz (hm:X.mg "isinstance" = none) (hp:(a,oe)∈X.pn) (hcl:oe.cls=.ref C) (xc:XcK X.K C) (hk:kitOne X.K (.ref C) c=some b) (he:PE X e (tVar j)) (ht:PE X e2 (tC vc)) (hvc:∀ u,RelV vc u->u=c)
  (hg:Gl X "isinstance" := by rfl) (hs:starEach (e :: [e2]) X.env=(false,eval e X.env) :: starEach [e2] X.env:=by rfl) (hs2:starEach (e2 :: []) X.env=(false,eval e2 X.env) :: starEach [] X.env:=by rfl) (hpl:(backTo pos (starEach [e2] X.env)).any (·.1)=false:=by rfl) :
  QE X K (.Call (.Name "isinstance" p) [e,e2] [] pos) (wIsx j a b):=by
 have hc:CallR X (.builtin "isinstance") (fun xs H Q=>xs=[.ref a,vc]/\Q (.bl b) H):=by
  intro pins s σ H xs us Q I r h
  obtain ⟨rfl,q⟩:=h
  obtain ⟨u,v,rfl,ru,rv⟩:=Vals.two r
  obtain rfl:u=Value.ref a:=ru
  obtain rfl:=hvc v rv
  obtain ⟨ho,_⟩:=I.pin (a,oe) (xai _ hp)
  exact kia_one (vB xc) I.kIn ⟨oe,ho,hcl⟩ hk (fun z=>nomatch z) fun tk=>⟨.bl b,H,I.tok tk,rfl,q⟩
 refine PE.imp (pe_callB hc hg hm fC (pa_cons he (pa_cons ht pa_nil hs2) hs) (by decide) (by decide) hs hpl) fun σ H Qv hx=>ex4 hx fun Hs ρ tot Q sr h f=>?_
 obtain ⟨ea,q⟩:=h
 obtain ⟨v,e1,r⟩:=sr.sr.get ea
 have r:v=V.ref a:=r
 subst r
 exact ⟨_,e1,rfl,Fin.sh f sr.wf (.bl _) q⟩
end
abbrev fX (X:Cx) (pn:List (Addr × Obj)) (xe:Value->Shared->Prop):Cx:={ X with pn:=pn,xe:=xe }
abbrev inHand (X:Cx) (pn:List (Addr × Obj)) (a:Addr):Cx:={ X with A:=X.A.mark (some (.ref a)),calm:=false,pn:=pn,xe:=fun _ _=>False }
abbrev xg (X:Cx) (H:Hp) (s:Shared) (p:Addr × Obj):Prop:=s.heap.get? p.1=some p.2/\H p.1=none/\p.1≠X.env.locals/\p.1∉X.fs/\∀ v,p.2.data≠.cell v
section
variable {X:Cx} {pins pins' pn:List (Addr × Obj)} {σ:St} {H:Hp} {s:Shared} {xe:Value->Shared->Prop} {a:Addr}
theorem Inv.fX (I:Inv X pins σ H s) (h:∀ p∈pn++pins',xg X H s p):Inv (fX X pn xe) pins' σ H s :=
 ⟨⟨I.ok.mod,I.ok.kind,I.ok.glob,I.ok.blt,I.ok.above,I.ok.inj,I.ok.has,I.ok.cab,I.ok.hd,I.ok.frames,I.ok.stk,I.ok.exf,I.ok.bs,I.ok.bsz,I.ok.noex,I.ok.exfs,I.ok.funs,I.ok.frf⟩,I.os,I.bare,I.base,I.loc,I.cell,I.free,I.freeC,h,I.hok,I.len⟩
theorem Inv.jH (I:Inv (L2.Q.fX X pn xe) pins' σ H s) (h:∀ p∈X.pn++pins,p∈pn++pins'):Inv X pins σ H s :=
 ⟨⟨I.ok.mod,I.ok.kind,I.ok.glob,I.ok.blt,I.ok.above,I.ok.inj,I.ok.has,I.ok.cab,I.ok.hd,I.ok.frames,I.ok.stk,I.ok.exf,I.ok.bs,I.ok.bsz,I.ok.noex,I.ok.exfs,I.ok.funs,I.ok.frf⟩,I.os,I.bare,I.base,I.loc,I.cell,I.free,I.freeC,fun p hp=>I.pin p (h p hp),I.hok,I.len⟩
theorem Inv.inHand (I:Inv (L2.Q.fX X pn xe) pins' σ H s) (h:∀ p∈pn2++pins2,xg X H s p):Inv (L2.Q.inHand X pn2 a) pins2 σ H s :=
 ⟨⟨I.ok.mod,I.ok.kind,I.ok.glob,I.ok.blt,I.ok.above,I.ok.inj,I.ok.has,I.ok.cab,(fun z=>nomatch z),I.ok.frames,I.ok.stk,I.ok.exf,I.ok.bs,I.ok.bsz,I.ok.noex,I.ok.exfs,I.ok.funs,I.ok.frf⟩,I.os,I.bare,I.base,I.loc,I.cell,I.free,I.freeC,h,I.hok,I.len⟩
theorem Inv.DX (I:Inv (L2.Q.fX X pn xe) pins σ H s):Inv (L2.Q.fX X pn xe2) pins σ H s :=
 ⟨⟨I.ok.mod,I.ok.kind,I.ok.glob,I.ok.blt,I.ok.above,I.ok.inj,I.ok.has,I.ok.cab,I.ok.hd,I.ok.frames,I.ok.stk,I.ok.exf,I.ok.bs,I.ok.bsz,I.ok.noex,I.ok.exfs,I.ok.funs,I.ok.frf⟩,I.os,I.bare,I.base,I.loc,I.cell,I.free,I.freeC,I.pin,I.hok,I.len⟩
theorem Inv.xf (I:Inv (L2.Q.inHand X pn a) pins' σ H s) (hd:X.calm=true->X.A.handled=none) (h:∀ p∈X.pn++pins,p∈pn++pins'):Inv X pins σ H s :=
 ⟨⟨I.ok.mod,I.ok.kind,I.ok.glob,I.ok.blt,I.ok.above,I.ok.inj,I.ok.has,I.ok.cab,hd,I.ok.frames,I.ok.stk,I.ok.exf,I.ok.bs,I.ok.bsz,I.ok.noex,I.ok.exfs,I.ok.funs,I.ok.frf⟩,I.os,I.bare,I.base,I.loc,I.cell,I.free,I.freeC,fun p hp=>I.pin p (h p hp),I.hok,I.len⟩
theorem SP.jH {D:Ends} (h:SP (L2.Q.fX X pn xe) pins' D f s) (hp:∀ p∈X.pn++pins,p∈pn++pins'):SP X pins D f s:=by
 cases f with
 | next=>obtain ⟨σ',H',I,q⟩:=h; exact ⟨σ',H',Inv.jH I hp,q⟩
 | brk=>obtain ⟨σ',H',I,q⟩:=h; exact ⟨σ',H',Inv.jH I hp,q⟩
 | cont=>obtain ⟨σ',H',I,q⟩:=h; exact ⟨σ',H',Inv.jH I hp,q⟩
 | ret u=>obtain ⟨v,σ',H',I,r,q⟩:=h; exact ⟨v,σ',H',Inv.jH I hp,r,q⟩
theorem Inv.forget (I:Inv X pins σ H s) (hn:h'.Ns X.env.locals m) (hs:Heap.SameBut X.env.locals s.heap h'):Inv X pins (List.replicate X.N.length none) H { s with heap:=h',toks:=t }:=by
 have ne:∀ b o,X.s₀.heap.get? b=some o->b≠X.env.locals:=fun b o e=>xav (xap (xan e) I.ok.above)
 refine ⟨I.ok,I.os,I.bare,⟨fun b o e n hb hx=>(hs.2 b (ne b o e)).trans (I.base.keep b o e n hb hx),fun b o e n hb hx=>?_,I.base.free,fun b o e hx=>?_,I.base.tups,I.base.frzs,I.base.tbls⟩,⟨m,hn,fun i x v e1 e2=>?_⟩,fun x c e=>?_,I.free,I.freeC,fun p hp=>?_,fun b o e=>?_,xbS⟩
 ·obtain ⟨sl,e1⟩:=I.base.slot b o e n hb hx
  exact ⟨sl,(hs.2 b (ne b o e)).trans e1⟩
 ·obtain ⟨o',e1⟩:=I.base.there b o e hx
  exact ⟨o',(hs.2 b (ne b o e)).trans e1⟩
 ·rw [xbK] at e2
  split at e2 <;> cases e2
 ·obtain ⟨v,z⟩:=I.cell x c e
  exact ⟨v,z.sameBut hs (I.cne x c e)⟩
 ·obtain ⟨e,n,nl,nf,d⟩:=I.pin p hp
  exact ⟨(hs.2 p.1 nl).trans e,n,nl,nf,d⟩
 ·refine (I.hok b o e).stay (fun c u hc q=>(hs.2 c ?_).trans q) (fun _ q=>q) fun _ _ q=>q
  intro z
  rcases hc with w | w
  ·rw [<- w,z,I.free] at e; cases e
  ·rw [z,I.free] at w; cases w
end
theorem SR.nones {K:PySem.W.Frag}:∀ σ:St,SR K Hs H (List.replicate σ.length none) σ []
 | []=>.nil
 | _ :: σ=>.non (SR.nones σ)
theorem SR.exc {K:PySem.W.Frag}:∀ (σ:St) (j:Nat),SR K Hs H ((List.replicate σ.length none).set j (some (.xc a))) (σ.set j (some (.ref a))) []
 | [],_=>.nil
 | _ :: σ,0=>.xc (SR.nones σ)
 | _ :: σ,j+1=>.non (SR.exc σ j)
theorem Cov.next {P:Program} {B:Heap} (c:Cov B fs H' h₀ h) (m:dh fs H' h₀ h h') (hok:HOk P w H' h) (th:∀ b o,h₀.get? b=some o->∃ o',h.get? b=some o'):Cov B fs H' h₀ h':=fun b o e k nb=>by
 have ho:∃ o',h.get? b=some o':=by
  rcases k with k | k
  ·cases z:H' b with
   | none=>exact absurd z k
   | some u=>exact ObjOk.there (hok b u z)
  ·obtain ⟨o0,e0⟩:=Option.ne_none_iff_exists'.mp k
   exact th b o0 e0
 obtain ⟨o',e'⟩:=ho
 have e2:=m.keep b o' e' k nb
 rw [e] at e2; cases e2
 exact c b o e' k nb
def wTry (body:WS) (ρh:Addr->Env) (hd:Addr->Str->WS):WS:=fun E ρ =>
 body { E with rt:=fun m d=>xch m d (fun n=>∀ a,hd a n { nx:=fun _=>False,rt:=E.rt } (ρh a)) (E.rt m d) } ρ
structure Be (K:PySem.W.Frag) (mg:Str->Option Value) (rn:List Str) (R:Str):Prop where
 ex:∃ r,mg R=some (.ref r)/\XcK K r/\∀ n C,n∈rn->mg n=some (.ref C)->XcK K C/\mroIn K C (.ref r)=some true
theorem zJ {X:Cx} {K:PySem.W.Frag} {R:Str}
  (xr:Be X.K X.mg rn R) (hN:X.N.Nodup) (hj:X.N[j]? = some en) (hl:X.env.scope.names.lookup en=some .local) (hst:X.stack=X.env :: X.outer) (hf:X.env.frame=some X.env.locals)
  (hρ:∀ a,ρh a=(List.replicate X.N.length none).set j (some (.xc a)))
  (hb:∀ pn xe E1,Passes (CXx X.prog X.w X.mg rn) (fX X pn xe) E1->QSs (fX X pn xe) K (LX rn X.mg E1) body wb)
  (hh:∀ pn a oe n C,n∈rn->X.mg n=some (.ref C)->XcK X.K C->(a,oe)∈pn->oe.cls=.ref C->QSs (inHand X pn a) K L (b₀ :: suite) (hd a n)) (hg:Gl X R:=by rfl) (hdb:(R == ("__debug__" : Str))=false:=by decide) :
  QS X K L (.Try body [.ExceptHandler (some (.Name R np)) (some en) (b₀ :: suite) hpos] [] [] pos) (wTry wb ρh hd):=by
 intro pins s σ H D I hx
 obtain ⟨Hs,ρ,tot,E,sr,h,k1,k2,k3,k4,kx⟩:=hx
 obtain ⟨r,hm,xr,sub⟩:=xr.ex
 have sp0:∀ p∈X.pn++pins,p∈(X.pn++pins)++[]:=fun p hp=>by rw [xaD]; exact hp
 have hbody:=hb (X.pn++pins) (fun e s'=>∃ pins' σ' H1 s1,Inv (fX X (X.pn++pins) X.xe) pins' σ' H1 s1/\CXx X.prog X.w X.mg rn X.stack H1 s1 (fun c _ H'=>∃ n C,c=.ref C/\n∈rn/\X.mg n=some (.ref C)/\Same Hs H'/\∀ a,hd a n { nx:=fun _=>False,rt:=E.rt } (ρh a)) e s') _
  (fun pins' σ' H1 s1 e s' I1 c=>⟨pins',σ',H1,s1,Inv.DX I1,c⟩)
  [] s σ H D (Inv.fX I fun p hp=>I.pin p (by rw [xaD] at hp; exact hp)) ⟨Hs,ρ,tot,_,sr,h,k1,k2,k3,fun v H' Hs' m d As s2 w2 r2 nd own q=>k4 v H' Hs' m d As s2 w2 r2 nd own (sZ r2 q),fun n H' s2 q hn C hC=>⟨n,C,rfl,hn,hC,s2,q⟩⟩
 refine wpAny_Try_except (xaZ hbody (fun f s1 hs=>?_) fun e s' hx=>?_)
 ·have hs:=SP.jH hs sp0
  cases f with
  | next =>
   obtain ⟨σ',H',I',q⟩:=hs
   exact pss_nil pins s1 σ' H' D I' q
  | brk=>exact hs
  | cont=>exact hs
  | ret u=>exact hs
 ·obtain ⟨pins',σ',H1,s1,I1,a,n',C,a0,H',B,rfl,hn',os,bare,un,hok,fly,cov,fr,n,C2,eC,hn,hm2,sm,hq⟩:=hx
  cases eC
  obtain ⟨xc,hsub⟩:=sub n C hn hm2
  obtain ⟨hh',g',d',t',os'⟩:=s'
  obtain rfl:os'=s1.os:=os
  have fly1:Heap.FlyingW B (X.env :: X.outer) a (.ref C) a0 hh':=hst ▸ fly
  have th:∀ b o,s1.heap.get? b=some o->∃ o',hh'.get? b=some o':=fun b o e=>un.there b o e (by simp)
  refine wpAny_looks_onW (hst ▸ I.ok.frames) hf fly1 fun h4 held up4=>wpAny_landsW held fun h5 fly5 up5=>?_
  have mv5:dh (frs X.stack) H' s1.heap hh' h5:=dh.of cov fly5.1 (up4.trans up5) fly.2.2.1
  have cov5:=cov.next mv5 hok th
  have un5:=mv5.un un
  have hok5:=mv5.hok fr hok
  have I5:Inv (fX X (X.pn++pins) X.xe) pins' σ' H' ⟨h5,g',d',t',s1.os⟩:=I1.call (h':=h5) (g':=g') (d':=d') (t':=t') (ch:=[]) un5 hok5 bare (fun b z=>absurd z (by simp))
  refine wpAny_handleBy_cons (codeAny_handlers_test ?_) (by intro q; cases q)
  refine ld_glob (X:=inHand X (X.pn++pins) a) (pins:=pins') (Inv.inHand I5 fun p hp=>I5.pin p hp) hg hm ?_ hdb
  refine nZ xc xr hsub I5.kIn fly5.there (codeAny_handlers_suite_as ?_)
  refine lands_againW fly5 fun h6 fly6 up6=>?_
  have ff5:h5.FunFrames B X.stack:=hst ▸ fly5.2.2.1
  have mv6:dh (frs X.stack) H' s1.heap h5 h6:=dh.of cov5 fly6.1 up6 ff5
  have un6:=mv6.un un5
  have hok6:=mv6.hok fr hok5
  have I6:Inv (fX X (X.pn++pins) X.xe) pins' σ' H' ⟨h6,g',d',t',s1.os⟩:=I1.call (h':=h6) (g':=g') (d':=d') (t':=t') (ch:=[]) un6 hok6 bare (fun b z=>absurd z (by simp))
  obtain ⟨oe,vs,he,hcl,hdt,_⟩:=fly6.first
  have nf:a∉frs X.stack:=fun z=>by
   have ff6:h6.FunFrames B X.stack:=hst ▸ fly6.2.2.1
   obtain ⟨_,o,e1,d1⟩:=ff6.mem z
   rw [he] at e1; cases e1
   exact d1 vs hdt
  have na:H' a=none:=by
   cases z:H' a with
   | none=>rfl
   | some u =>
    have:=(cov5.next mv6 hok5 fun b o e=>un5.there b o e (by simp)) a oe he (.inl (by rw [z]; exact fun z=>nomatch z)) nf
    rw [fly6.2.1] at this; cases this
  have frm:∀ b,b∈frs X.stack↔b=X.env.locals\/b∈X.fs:=fun b=>by
   rw [hst]; unfold frs; rw [xaN,hf]; exact xam
  have pa:xg X H' ⟨h6,g',d',t',s1.os⟩ (a,oe):=⟨he,na,fun z=>nf ((frm a).mpr (.inl z)),fun z=>nf ((frm a).mpr (.inr z)),fun v z=>by rw [hdt] at z; cases z⟩
  have I6h:Inv (inHand X ((a,oe) :: (X.pn++pins)) a) [] σ' H' ⟨h6,g',d',t',s1.os⟩:=Inv.inHand I6 fun p hp=>by
   rw [xaD] at hp
   rcases xam.mp hp with z | z
   ·rw [z]; exact pa
   ·exact I6.pin p (xai _ z)
  refine store_ok2 (X:=inHand X ((a,oe) :: (X.pn++pins)) a) (v:=.ref a) I6h hN hj (.inl hl) rfl (fun s7 I7 _=>?_) (.inr hl)
  refine xaZ (hh ((a,oe) :: (X.pn++pins)) a oe n C hn hm2 xc xad hcl [] s7 (σ'.set j (some (.ref a))) H' { nx:=fun _ _=>False,rt:=D.rt } I7
   ⟨H',ρh a,[],_,⟨by rw [hρ a,<- (show σ'.length=X.N.length from I1.len)]; exact SR.exc σ' j,⟨Same.refl _,fun _ _ e=>e⟩,xay,fun a h=>nomatch h⟩,hq a,fun _ _ _ _ _ _ _ z=>z,fun _ _ _ _ _ _ _ z=>z,fun _ _ _ _ _ _ _ z=>z,
    fun v H2 Hs2 m d As s2=>k4 v H2 Hs2 m d As (sm.trans s2),fun n H2 s2=>kx n H2 (sm.trans s2)⟩) (fun f s8 hs=>?_) fun _ _ z=>z.elim
  cases f with
  | next=>obtain ⟨_,_,_,z⟩:=hs; exact z.elim
  | brk=>obtain ⟨_,_,_,z⟩:=hs; exact z.elim
  | cont=>obtain ⟨_,_,_,z⟩:=hs; exact z.elim
  | ret u =>
   obtain ⟨v,σ8,H8,I8,rv,q⟩:=hs
   have I9:Inv X pins σ8 H8 s8:=Inv.xf I8 I.ok.hd fun p hp=>by rw [xaD]; exact xac _ hp
   obtain ⟨m,hn8,_⟩:=id I9.loc
   exact wpAny_nameGoes hl hn8 (by rw [I9.ok.kind]; rfl) fun h9 m9 hn9 sb=>⟨v,_,H8,Inv.forget I9 hn9 sb,rv,q⟩
end L2.Q
namespace L2.Q
open PySem PySem.Spec PyProof.Rows
theorem lu:bootBuiltins "ValueError" = some (.type "ValueError"):=by decide +kernel
end L2.Q
namespace L2.Q.R
open PySem PySem.Spec PyProof.Rows L2.Q
section
variable {E:nF} {ρ:Env} {Q:Md->L2.Q.D->Prop} {te:WE} {tar:WA} {j:Nat} {a:Addr} {b:Bool} {sp:SpD} {n:Str} {d:L2.Q.D} {Y:Str->Prop} {N:Prop} {t:WS} {ρh:Addr->Env} {hd:Addr->Str->WS}
theorem CP:pX n te E ρ=te ρ fun _ _=>E.rt (.ow false) (.str n):=rfl
theorem Df:sS sp tar ρ Q=tar ρ fun ps=>sp (ps.map (·.2)) fun m d=>xch m d (fun _=>False) (onK (m,d) (f:=fun p=>Q (retM p.1 p.2) p.2) ⟨⟩):=rfl
theorem DP:qe sp tar E ρ=tar ρ fun ps=>sp (ps.map (·.2)) fun m d=>xch m d (fun n=>E.rt (.ow false) (.str n)) (onK (m,d) (f:=fun _=>E.nx ρ) ⟨⟩):=rfl
theorem GK:wTry t ρh hd E ρ=t { E with rt:=fun m d=>xch m d (fun n=>∀ a,hd a n { nx:=fun _=>False,rt:=E.rt } (ρh a)) (E.rt m d) } ρ:=rfl
theorem Ii:wIsx j a b ρ Q=(ρ[j]? = some (some (.xc a))/\Q .sh (.bl b)):=rfl
theorem Gw:xch (.ow false) (.str n) Y N=Y n:=rfl
theorem FQ:xch .sh d Y N=N:=rfl
theorem Fw:xch .bo d Y N=N:=rfl
theorem EY:xch (.ow true) d Y N=N:=rfl
theorem Hq:xch (.ow b) (.list xs) Y N=N:=by cases b <;> rfl
theorem Hw:xch (.ow b) (.tup xs) Y N=N:=by cases b <;> rfl
theorem GD:xch (.ow b) (.dK xs) Y N=N:=by cases b <;> rfl
theorem Hi:xch (.ow b) (.dT xs) Y N=N:=by cases b <;> rfl
end
end L2.Q.R
namespace L2
open PySem PySem.Spec PyProof.Rows Builtin Builtin.Str Builtin.Int
section
variable {prog:Program} {w:World} {A:Around} {E:Value->Shared->Prop} {s:Shared} {x:Str} {n:Int} {t u:Tok}
theorem jf (hok:MulOk x n) (h:∀ t' k,Q (.str (Txt.mul x n) t') { s with toks:=k }):wpAny (model prog w) A (binaryOp .Mult (.str x t) (.int n u)) Q E s:=by
 refine P.mul_str hok.1 hok.2.1 hok.2.2 ?_
 unfold Txt.mul at h
 by_cases h1:n<1
 ·rw [if_pos h1]; have h':=h s.toks (s.toks+1); rw [if_pos h1] at h'; exact ⟨by decide,h'⟩
 ·rw [if_neg h1]; refine post_val_or_made (fun hc=>fits_reps (hok.2.2 h1 (by simpa using hc))) fun t' k=>?_
  have h':=h t' k; rw [if_neg h1] at h'; exact h'
end
def Ay:R2:=fun x y H Q=>Ai y x H Q
theorem yg {X:Cx}:OpR X (binaryOp .Mult) Ay:=by
 intro pins s σ H y x u v Q I ry rx h
 unfold Ay Ai at h
 split at h
 ·rename_i n z
  obtain ⟨⟨h1,h2,h3⟩,q⟩:=h
  obtain ⟨t,rfl⟩:=rx
  obtain ⟨t',rfl⟩:=ry
  refine jf ⟨?_,fun _ _=>?_,fun _ _=>?_⟩ fun t' k=>⟨.str (repS n z),H,I.tok _,⟨_,by rw [xH h1]⟩,q⟩
  ·have a1:¬ n < -(2 ^ 63:Int):=by lia
   have a2:¬ n >= 2 ^ 63:=by lia
   rw [decide_eq_false a1,decide_eq_false a2]; rfl
  ·have:(2 ^ 63 - 1:Int) / 100<=(2 ^ 63 - 1) / n:=by
    apply Int.le_ediv_of_mul_le (by lia)
    have:(2 ^ 63 - 1:Int) / 100 * n<=(2 ^ 63 - 1:Int) / 100 * 100:=Int.mul_le_mul_of_nonneg_left h2 (by decide)
    lia
   have e:(2 ^ 63 - 1:Int) / 100=92233720368547758:=by decide
   lia
  ·have:z.length * n.toNat<=100 * 100:=Nat.mul_le_mul h3 (by lia)
   have hs:=sizeLine_eq
   simp only [tooLong,decide_eq_false_iff_not]
   generalize z.length * n.toNat=m at this ⊢
   lia
 ·exact h.elim
end L2
namespace L2.Q
open PySem PySem.Spec PyProof.Rows
section
variable {X:Cx} {K:PySem.W.Frag} {a:Expr} {ta:WE}
def wFz (t:WE):WE:=fun ρ Q=>t ρ fun m d=>gK m/\Q .sh d
theorem q_fz (h:QE X K a ta):QE X K a (wFz ta):=by
 refine PE.imp h fun σ H Qv hx=>ex4 hx fun Hs ρ tot Q sr h fin=>?_
 refine ⟨Hs,ρ,tot,_,sr,h,fun v H1 Hs1 m d As g1 r1 f1 q1=>?_⟩
 obtain ⟨nb,q⟩:=q1
 cases m with
 | sh=>exact fin v H1 Hs1 .sh d As g1 r1 f1 q
 | bo=>exact nb.elim
 | ow fl =>
  obtain ⟨r,ne⟩:=r1
  have hn:∀ a∈As,Hs1 a=none:=fun a h=>(f1.2 a h).1
  have s:=fW (H:=H1) hn
  refine fin v H1 (frzH Hs1 H1 As) .sh d [] ⟨g1.all,g1.sh.trans s,rC g1.wf r.own,fun c hc=>?_⟩ ⟨rfl,r.rep s fun c hc=>by unfold frzH; rw [if_pos hc]⟩ ⟨xay,fun _ h=>mem0 h⟩ q
  unfold frzH at hc
  split at hc
  ·rename_i m
   exact .inr (f1.2 c m).2
  ·exact g1.new c hc
def anyD (ys:List D) (x:D):Bool:=ys.any fun z=>eqD z x
def fInR (neg:Bool):W2:=fun _ x _ y Q=>∃ ys,(y=.list ys\/y=.tup ys)/\okD 12 x=true/\okD 12 y=true/\Q .sh (.bl (if neg then !anyD ys x else anyD ys x))
def rInR (K:PySem.W.Frag) (neg:Bool):R2:=fun x y H Q=>∃ d e xs,L2.Rep K H d x/\L2.Rep K H e y/\(e=.list xs\/e=.tuple xs)/\d.canLay0=true/\PyData.canLayAll0 xs=true/\d.depth<=60/\Q (.bl (if neg then !(xs.any fun z=>PyData.eqv z d) else xs.any fun z=>PyData.eqv z d)) H
theorem qZ (hu:X.A.units+64<cLine):OpR X (compareOp .NotIn) (rInR X.K true):=by
 intro pins s σ H x y v u Q I rx ry h
 obtain ⟨d,e,xs,h1,h2,h3,h4,h5,h6,q⟩:=h
 obtain ⟨as,r1⟩:=h1.reads I rx
 obtain ⟨bs,r2⟩:=h2.reads I ry
 rcases h3 with rfl | rfl
 ·exact PySem.SeqAt.notIn_list_reads r2 r1 h5 h4 (by lia) ⟨.bl _,H,I,rfl,q⟩
 ·exact PySem.SeqAt.notIn_tuple_reads r2 r1 h5 h4 (by lia) ⟨.bl _,H,I,rfl,q⟩
theorem yP (hu:X.A.units+64<cLine) (hK:X.K=K:=by rfl):OpR X (compareOp .NotIn) (rInR K true):=by subst hK; exact qZ hu
theorem yo (ys:List D) (x:D):((pys ys).any fun z=>PyData.eqv z x.py)=anyD ys x:=by
 induction ys with
 | nil=>rfl
 | cons y ys ih =>
  rw [pys,xba,ih]
  rfl
theorem zT:Br2 K (rInR K neg) (fInR neg):=by
 intro Hs H m x v As n y u Bs Qd Qv w rx ry h f
 obtain ⟨ys,hy,o1,o2,q⟩:=h
 have l1:=jE 12 x o1
 have l2:=jE 12 y o2
 refine ⟨x.py,y.py,pys ys,(rx.rep w).l2 o1,(ry.rep w).l2 o2,?_,l1.1,?_,by lia,?_⟩
 ·rcases hy with rfl | rfl
  ·exact .inl rfl
  ·exact .inr rfl
 ·rcases hy with rfl | rfl
  ·exact l2.1
  ·exact l2.1
 ·rw [yo]
  exact f.sh w (.bl _) q
def owl (o:Option (Option Sl)) (k:List D->Prop):Prop:=match o with
 | some (some (.ow true (.list xs)))=>k xs
 | _=>False
def intD (y:D) (k:Int->Prop):Prop:=match y with
 | .int i=>k i
 | _=>False
def outM (d:D):Md:=bif d.flat then .sh else .ow true
end
end L2.Q
namespace L2.Q.R
open PySem PySem.Spec PyProof.Rows L2.Q
section
variable {ρ:Env} {te:WE} {m m':Md} {x:L2.Q.D} {ys:List L2.Q.D} {Q:Md->L2.Q.D->Prop}
theorem Fi:owl (some (some (.ow true (.list ys)))) k=k ys:=rfl
theorem Ek:intD (.int i) k=k i:=rfl
theorem wFz_:wFz te ρ Q=te ρ fun m d=>gK m/\Q .sh d:=rfl
theorem Eg:fInR neg m x m' (.list ys) Q=(okD 12 x=true/\okD 12 (.list ys)=true/\Q .sh (.bl (if neg then !anyD ys x else anyD ys x))):=by
 apply propext
 exact ⟨fun ⟨zs,h,a,b,c⟩=>by rcases h with h | h <;> cases h; exact ⟨a,b,c⟩,fun ⟨a,b,c⟩=>⟨ys,.inl rfl,a,b,c⟩⟩
theorem Gj:fInR neg m x m' (.tup ys) Q=(okD 12 x=true/\okD 12 (.tup ys)=true/\Q .sh (.bl (if neg then !anyD ys x else anyD ys x))):=by
 apply propext
 exact ⟨fun ⟨zs,h,a,b,c⟩=>by rcases h with h | h <;> cases h; exact ⟨a,b,c⟩,fun ⟨a,b,c⟩=>⟨ys,.inr rfl,a,b,c⟩⟩
end
end L2.Q.R
namespace L2
open PySem PySem.Spec PyProof.Rows
section
variable {prog:Program} {w:World} {A:Around} {E:Value->Shared->Prop} {s:Shared}
theorem xV {κ:Type} [DecidableEq κ] {kd:HeapKind prog w κ} {d b:Addr} {xs:List (κ × Addr × Value)} {k:κ} {r:Value} {Q:Value->Shared->Prop} (hu:kd.room A) (hk:kd.is s.heap k b) (hm:s.heap.DictOfH kd d xs) (hz:xs.length<=sizeLine)
  (h1:∀ p,atKey xs k=some p->Q p.2 { s with toks:=s.toks+kd.draws k })
  (h2:atKey xs k=none->∀ h',h'.DictOfH kd d (storedH xs k b r)->Heap.SameBut d s.heap h'->Q r { s with heap:=h',toks:=s.toks+kd.draws k }):wpAny (model prog w) A (dictSetDefault d (.ref b) r) Q E s:=by
 obtain ⟨o,es,ep,ho,hc,hd,he,his,hn⟩:=hm
 unfold dictSetDefault
 try with_reducible refine wpAny_holding ?_
 refine xaa (kd.pyHash hu hk (xaa (wpAny_dictFind_heap (s:={ s with toks:=s.toks+kd.draws k }) hu hk ho hd he his hn (fun no=>?_) fun j p hj=>?_)))
 ·have nk:=atKey_none_of_get no
  refine xaa (wpAny_rule (xaa (wpAny_updateDictKeys (hz:=by have e:=size_of_entries he; lia) (s:={ s with toks:=s.toks+kd.draws k }) ho hd (xah (h2 nk _ ?_ (Heap.SameBut.update ..))))))
  rw [storedH_new nk]
  refine ⟨_,_,ep+1,Heap.get?_update_self _ ho (Obj.isFreed_of_dict (Obj.data_mapDictKeys hd _)),hc.mapDictKeys _,Obj.data_mapDictKeys hd _,by simp [he,entryOfKey],fun x hx=>?_,?_⟩
  ·rcases xag.mp hx with q | q
   ·exact kd.keeps (his x q) ho hd (Heap.SameBut.update ..)
   ·obtain rfl:=xaY.mp q
    exact kd.keeps hk ho hd (Heap.SameBut.update ..)
  ·rw [xa0]
   refine xak.mpr ⟨hn,by simp,fun x hx y hy e=>?_⟩
   obtain rfl:y=k:=by simpa using hy
   exact not_mem_keys_of_get no (e ▸ hx)
 ·refine xaa (wpAny_dictEntries (s:={ s with toks:=s.toks+kd.draws k }) ho hd ?_)
  rw [entry_at he j,hj]
  exact xaa (wpAny_rule (xah (h1 _ (atKey_of_get hn hj))))
theorem vH {κ:Type} [DecidableEq κ] (kd:HeapKind prog w κ) (d b:Addr) (hd:(d == sysModules)=false) (r:Value) :
  MeetsIn prog w (Builtin.«dict.setdefault» ⟨[.ref d,.ref b,r],[]⟩) (fun A R s=>kd.room A.in1/\∃ k xs,kd.is s.heap k b/\s.heap.DictOfH kd d xs/\xs.length<=sizeLine /\
   (∀ p,atKey xs k=some p->R (.ok (.ret p.2)) { s with toks:=s.toks+kd.draws k }) /\
   (atKey xs k=none->∀ h',h'.DictOfH kd d (storedH xs k b r)->Heap.SameBut d s.heap h'->R (.ok (.ret r)) { s with heap:=h',toks:=s.toks+kd.draws k })) :=
 .of_wp fun A R s hx9=>by
  obtain ⟨hu,k,xs,hk,hm,hz,h1,h2⟩:=hx9
  unfold Builtin.«dict.setdefault» Builtin.Dict.keyAndDefault
  refine xaa (xaa (wpAny_notOrdered_dict hm.typeIs ?_))
  refine (show wpAny _ _ (pure (d,Value.ref b,some r)) _ _ s from xah ?_)
  refine (show wpAny _ _ (if (d == sysModules)=true then _ else (dictSetDefault d (Value.ref b) r >>= _)) _ _ s from ?_)
  rw [if_neg (by rw [hd]; decide)]
  exact xaa (xV hu hk hm hz (fun p q=>xah ⟨p.2,rfl,h1 p q⟩) fun q h' a c=>xah ⟨r,rfl,h2 q h' a c⟩)
end
section
variable {X:Cx} {pins:List (Addr × Obj)} {σ:St} {H:Hp} {s:Shared} {a b:Addr} {A:Around} {E:Value->Shared->Prop}
theorem vO (hu:A.units+1<cLine) (I:Inv X pins σ H s) (e:H a=some (.dT kvs)) (eb:H b=some (.tup (k.map kV))) (hl:kvs.length<sizeLine) (rv:RelV v r)
  (h1:∀ v' w' s',valV kvs k=some v'->Inv X pins σ H s'->RelV v' w'->Q w' s') (h2:valV kvs k=none->∀ s',Inv X pins σ (upd H a (.dT (putK kvs k v))) s'->Q r s') :
  wpAny (model X.prog X.w) A (call (.builtin "dict.setdefault") [.ref a,.ref b,r]) Q E s:=by
 obtain ⟨z,hd,xs,rel,dd⟩:=dt_of I.hok e
 have hz:xs.length<=sizeLine:=by rw [<- Paired.length rel]; exact z
 have hp:(putK kvs k v).length<=sizeLine:=by have:=length_putK kvs k v; lia
 have vl:=rel.val k
 refine call_meetsIn PySem.F.slot_dict_setdefault dd.typeIs PySem.F.entry_dict_setdefault (PySem.F.args_dict_setdefault_3 _ _ _) (vH (tupleKind (mixKind X.prog X.w)) a b hd r) ⟨tupleKind_room_in1 hu,k,xs,key_of I.hok eb,dd,hz,fun p hp'=>?_,fun hn h' dd' hs=>?_⟩
 ·rw [hp'] at vl
  cases ev:valV kvs k with
  | none=>rw [ev] at vl; exact (vl:False).elim
  | some v'=>rw [ev] at vl; exact h1 v' _ _ ev (I.tok _) vl
 ·have ev:valV kvs k=none:=by
   rw [hn] at vl
   cases ev:valV kvs k with
   | none=>rfl
   | some v'=>rw [ev] at vl; exact (vl:False).elim
  refine h2 ev _ ?_
  obtain ⟨q,es,ep,hq,g2,g3,g4,_,g5⟩:=dd'
  refine d_write I (by rw [e]; exact True.intro) hs ⟨q,hq⟩ ⟨hp,hd,_,(rel.put k eb rv).keeps fun c ys ec=>?_,q,es,ep,hq,g2,g3,g4,g5⟩
  rw [upd_ne (ne_of ec e fun z=>nomatch z)]
  exact ec
end
def tSd (td ty tx:TE):TE:=fun σ H Q=>td σ H fun x H1=>∃ a,x=.ref a/\IsD H1 a/\ty σ H1 fun y H2=>tx σ H2 fun z H3=>∃ kvs k b,H3 a=some (.dT kvs)/\y=.ref b/\H3 b=some (.tup (k.map kV))/\kvs.length<sizeLine /\
 (∀ v,valV kvs k=some v->Q v H3)/\(valV kvs k=none->Q z (upd H3 a (.dT (putK kvs k z))))
theorem Cu {X:Cx} (hu:X.A.units+1<cLine) (ho:PE X o td) (he:PE X e ty) (hf:PE X f tx) (m:M2 X o "setdefault" apos e f cpos):PE X (.Call (.Attribute o "setdefault" apos) [e,f] [] cpos) (tSd td ty tx):=by
 intro pins s σ H Q I h
 refine wpAny_Call_method m.base m.few m.line PySem.F.plainAttrs_dict PySem.F.slot_dict_setdefault PySem.F.type_dict_setdefault (thn (ho pins s σ H _ I h) fun u s1 hx9=>?_)
 obtain ⟨x,H1,I1,rx,a,ex,d,q1⟩:=hx9
 subst ex
 cases (show u=Value.ref a from rx)
 have td:=isD_at I1 d
 refine ⟨td.1,td.2.1,?_⟩
 rw [m.trees]
 refine Calls.callWith_builtin rfl (Calls.evalArgs_plain (Calls.spliced_cons (thn (he pins s1 σ H1 _ I1 q1) fun iv s2 hx5=>L2.ex2 hx5 fun y H2 I2 ry q2=>Calls.spliced_cons (thn (hf pins s2 σ H2 _ I2 q2) fun fv s3 ⟨z,H3,I3,rz,kvs,k,b,e1,e2,e3,hl,q3,q4⟩=>Calls.spliced_nil ?_))))
 subst e2
 cases (show iv=Value.ref b from ry)
 exact vO hu I3 e1 e3 hl rz (fun v' w' s' ev I' r'=>⟨v',H3,I',r',q3 v' ev⟩) fun ev s' I'=>⟨z,_,I',rz,q4 ev⟩
end L2
namespace L2.Q
open PySem PySem.Spec PyProof.Rows
section
variable {X:Cx} {K:PySem.W.Frag} {a b c:Expr} {ta tb tc:WE} {pos apos cpos:Pos}
def onD (x:D) (f:List (Key × D)->Prop) (g:List (List Key × D)->Prop):Prop:=match x with
 | .dK kvs=>f kvs
 | .dT kvs=>g kvs
 | _=>False
def tupD (y:D) (k:List D->Prop):Prop:=match y with
 | .tup ys=>k ys
 | _=>False
def gotG (o:Option D) (m n:Md) (z:D) (Q:Md->D->Prop):Prop:=match o with
 | some d=>Q (itm m d) d
 | none=>Q n z
def wGet (ta tb tc:WE):WE:=fun ρ Q=>ta ρ fun m x=>onD x (fun kvs=>tb ρ fun _ y=>tc ρ fun n z=>∃ k,y.key1=some k/\gotG (getG kvs k) m n z Q)
 (fun kvs=>tb ρ fun _ y=>tc ρ fun n z=>tupD y fun ys=>∃ ks,cO ys=some ks/\gotG (getG kvs ks) m n z Q)
theorem oW (hx:tpE K (wGet ta tb tc) σ H Qv):tDGet2 (tpE K ta) (tpE K tb) (tpE K tc) σ H Qv:=ex4 hx fun Hs ρ tot Q sr h fin=>by
 refine ⟨Hs,ρ,tot,_,sr,h,fun v H1 Hs1 m x As g1 r1 f1 q1=>?_⟩
 have got:∀ {o:Option V} {d? : Option D} {H2 H3 Hs2 Hs3:Hp} {w:V} {n:Md} {z:D} {Cs:List Addr},Grow Hs1 H1 Hs2 H2->Grow Hs2 H2 Hs3 H3->RM K Hs3 H3 n z w Cs->bZ Hs3 H2 Cs->(match d? with
   | some d=>∃ v,o=some v/\Rep K H3 d v/\(m=.sh->Rep K Hs3 d v)
   | none=>o=none)->gotG d? m n z Q->Qv (o.getD w) H3:=by
  intro o d? H2 H3 Hs2 Hs3 w n z Cs g2 g3 r3 f3 l q
  cases d? with
  | none=>rw [show o=none from l]; exact fin w H3 Hs3 n z Cs ((g1.trans g2).trans g3) r3 (f3.of (g1.trans g2).all) q
  | some d =>
   obtain ⟨v',e,u1,u2⟩:=l
   rw [e]
   exact (Fin.after fin ((g1.trans g2).trans g3)).itm g3.wf u1 u2 q
 have core:∀ G:Hp,Same G H1->(∀ H3 Hs3,Grow Hs1 H1 Hs3 H3->∀ d v,Rep K G d v->Rep K H3 d v/\(m=.sh->Rep K Hs3 d v))->Rep K G x v->∃ a,v=.ref a/\IsD H1 a/\tpE K tb σ H1 fun y H2=>tpE K tc σ H2 fun z H3=>∃ o,DGet H3 a y o/\Qv (o.getD z) H3:=by
  intro G sg up r
  cases r with
  | dK kk s q =>
   refine ⟨_,rfl,.inl ⟨_,Same.rd sg s⟩,Hs1,ρ,tot,_,sr.grow g1,q1,fun u H2 Hs2 n y Bs g2 r2 f2 q2=>⟨Hs2,ρ,tot,_,(sr.grow g1).grow g2,q2,fun w H3 Hs3 n3 z Cs g3 r3 f3 q3=>?_⟩⟩
   have ry:=(r2.grow g3).rep g3.wf
   obtain ⟨k,hk,q4⟩:=q3
   have ev:=ry.key hk
   subst ev
   refine ⟨_,DGet.k' (Same.rd (g2.trans g3).all (Same.rd sg s)),got g2 g3 r3 f3 ?_ q4⟩
   have z:=zip_get (k:=k) q
   split
   ·rename_i d e
    rw [e] at z
    obtain ⟨v',e',r'⟩:=z
    exact ⟨v',e',up _ _ (g2.trans g3) _ _ r'⟩
   ·rename_i e
    rw [e] at z
    exact z
  | dT kk s q =>
   refine ⟨_,rfl,.inr ⟨_,Same.rd sg s⟩,Hs1,ρ,tot,_,sr.grow g1,q1,fun u H2 Hs2 n y Bs g2 r2 f2 q2=>⟨Hs2,ρ,tot,_,(sr.grow g1).grow g2,q2,fun w H3 Hs3 n3 z Cs g3 r3 f3 q3=>?_⟩⟩
   have ry:=(r2.grow g3).rep g3.wf
   cases ry with
   | tup t2 e2 p2 =>
    obtain ⟨k,hk,q4⟩:=q3
    obtain ⟨b',eb,e3⟩:=Rep.keyT (.tup t2 e2 p2) hk
    cases eb
    refine ⟨_,DGet.t' (Same.rd (g2.trans g3).all (Same.rd sg s)) e3,got g2 g3 r3 f3 ?_ q4⟩
    have z:=zip_get (k:=k) q
    split
    ·rename_i d e
     rw [e] at z
     obtain ⟨v',e',r'⟩:=z
     exact ⟨v',e',up _ _ (g2.trans g3) _ _ r'⟩
    ·rename_i e
     rw [e] at z
     exact z
   | _=>exact q3.elim
  | _=>exact q1.elim
 rcases r1.here g1.wf with ⟨hm,r⟩ | ⟨hm,r⟩
 ·exact core Hs1 g1.wf.sub (fun H3 Hs3 g d v q=>⟨q.same (g1.wf.sub.trans g.all),fun _=>q.same g.sh⟩) r
 ·exact core H1 (Same.refl H1) (fun H3 Hs3 g d v q=>⟨q.same g.all,fun z=>absurd z hm⟩) r
theorem Bp (hu:X.A.units+64<cLine) (ha:QE X K a ta) (hb:QE X K b tb) (hc:QE X K c tc) (hm:M2 X a "get" apos b c cpos:=by exact ⟨rfl,rfl,rfl,rfl⟩):QE X K (.Call (.Attribute a "get" apos) [b,c] [] cpos) (wGet ta tb tc) :=
 PE.imp (pe_dget2 (by lia) ha hb hc hm) fun σ H Qv hx=>oW hx
theorem vY (hu:X.A.units+64<cLine) (ha:QE X K a ta) (hb:QE X K b tb) (hm:M1 X a "get" apos b cpos:=by exact ⟨rfl,rfl,rfl,rfl⟩):QE X K (.Call (.Attribute a "get" apos) [b] [] cpos) (wGet ta tb (wC .non)) :=
 PE.imp (pe_dget1 (by lia) ha hb hm) fun σ H Qv hx=>pQ (oW hx) fun x H1 ⟨a,e,d,q⟩=>⟨a,e,d,pQ q fun y H2 q2=>ex4 q2 fun Hs ρ tot Q sr q f=>f .non H2 Hs .sh .non [] (Grow.refl sr.wf) ⟨rfl,.non⟩ ⟨xay,fun _ h=>mem0 h⟩ q⟩
def appD (d x:D):D:=match d with
 | .list xs=>.list (xs++[x])
 | d=>d
def sdG:List (List Key × D)->List Key->D->List (List Key × D)
 | [],k,x=>[(k,.list [x])]
 | p :: r,k,x=>if p.1=k then (p.1,appD p.2 x) :: r else p :: sdG r k x
def sdN (kvs:List (List Key × D)) (k:List Key):List (List Key × D):=match getG kvs k with
 | some _=>kvs
 | none=>kvs++[(k,.list [])]
def vZ:Option D->Prop
 | none=>True
 | some (.list xs)=>xs.length<sizeLine
 | _=>False
def owdT (o:Option (Option Sl)) (k:List (List Key × D)->Prop):Prop:=match o with
 | some (some (.ow true (.dT kvs)))=>k kvs
 | _=>False
def wSd (i:Nat) (tk te:WE):WS:=fun E ρ=>owdT ρ[i]? fun kvs=>tk ρ fun _ y=>tupD y fun ys=>∃ ks,cO ys=some ks/\kvs.length<sizeLine/\vZ (getG kvs ks) /\
 te (ρ.set i (some (.ow true (.dT (sdN kvs ks))))) fun _ x=>x.flat=true/\E.nx (ρ.set i (some (.ow true (.dT (sdG kvs ks x)))))
theorem bw {κ β:Type} [DecidableEq κ] (p:κ × β) (r:List (κ × β)) (k:κ):getG (p :: r) k=if p.1=k then some p.2 else getG r k:=by
 by_cases h:p.1=k <;> simp [getG,h]
theorem zU:∀ {kvs:List (List Key × D)},getG kvs k=some d->∃ j,(kvs.map (·.2))[j]? = some d/\(∀ vs:List V,vs.length=kvs.length->valV ((kvs.map (·.1)).zip vs) k=vs[j]?) /\
  ∀ x,(sdG kvs k x).map (·.1)=kvs.map (·.1)/\(sdG kvs k x).map (·.2)=(kvs.map (·.2)).set j (appD d x)
 | [],h=>by simp [getG] at h
 | p :: kvs,h=>by
  rw [bw] at h
  by_cases e:p.1=k
  ·rw [if_pos e] at h
   cases h
   refine ⟨0,rfl,fun vs hl=>?_,fun x=>?_⟩
   ·cases vs with
    | nil=>cases hl
    | cons v vs=>exact valV_pos (p:=(p.1,v)) e
   ·simp [sdG,e]
  ·rw [if_neg e] at h
   obtain ⟨j,h1,h2,h3⟩:=zU h
   refine ⟨j+1,by simpa using h1,fun vs hl=>?_,fun x=>?_⟩
   ·cases vs with
    | nil=>cases hl
    | cons v vs =>
     show valV ((p.1,v) :: (kvs.map (·.1)).zip vs) k=_
     rw [valV_neg (p:=(p.1,v)) e,h2 vs (by simpa using hl)]
     rfl
   ·simp [sdG,e,h3 x]
theorem lR:∀ {kvs:List (List Key × D)},getG kvs k=none->getG (kvs++[(k,d)]) k=some d
 | [],_=>by simp [getG]
 | p :: kvs,h=>by
  rw [bw] at h
  by_cases e:p.1=k
  ·rw [if_pos e] at h; cases h
  ·rw [if_neg e] at h
   rw [xbU,bw,if_neg e,lR h]
theorem oM:∀ {kvs:List (List Key × D)},getG kvs k=none->sdG (kvs++[(k,.list [])]) k x=sdG kvs k x
 | [],_=>by simp [sdG,appD]
 | p :: kvs,h=>by
  rw [bw] at h
  by_cases e:p.1=k
  ·rw [if_pos e] at h; cases h
  ·rw [if_neg e] at h
   rw [xbU,sdG,sdG,if_neg e,if_neg e,oM h]
theorem SRel.place (sr:SRel K Hs ρ σ H tot) (e:ρ[i]? = some (some (.ow fl d))):∃ v,σ[i]? = some (some v)/\Place K Hs H σ fl d v fun fl2 d2=>ρ.set i (some (.ow fl2 d2)):=by
 obtain ⟨v,As,t,e2,ne,r,sb,g⟩:=SR.put i sr.sr e sr.nod
 refine ⟨v,e2,As,r,ne,sb.nodup sr.nod,fun a h=>sr.own a (sb.subset h),fun Hs2 H2 fl2 d2 As2 s2 w2 n2 _ r2 ne2 nd2 o2 st=>?_⟩
 obtain ⟨t2,x,y,z⟩:=g Hs2 H2 fl2 d2 As2 s2 r2 ne2 nd2 (fun a ha m=>(o2 a ha).2.elim id fun q=>absurd q (sr.sr.own a m).ne) fun a ha m=>st a (sr.sr.own a ha).ne m
 exact ⟨t2,z,w2,x,fun a h=>(y a h).elim (fun q=>n2 a (sr.own a q) (sr.sr.own a q).ne) fun q=>(o2 a q).1⟩
theorem oV (sr:SRel K Hs ρ σ H tot) (e1:ρ[i]? = some (some (.ow true (.dT kvs)))) (hg:getG kvs ks=some (.list xs)) :
  ∃ a kvv c ws,σ[i]? = some (some (.ref a))/\H a=some (.dT kvv)/\valV kvv ks=some (.ref c)/\H c=some (.lst ws)/\ws.length=xs.length /\
   ∀ x y,x.flat=true->Rep K Hs x y->ws.length<sizeLine->∃ tot2,SRel K Hs (ρ.set i (some (.ow true (.dT (sdG kvs ks x))))) σ (upd H c (.lst (ws++[y]))) tot2:=by
 obtain ⟨v,e2,pl⟩:=sr.place e1
 obtain ⟨As',r,ne,nd,own,k⟩:=pl.ex
 cases r with
 | sh hf _=>exact absurd rfl ne
 | @dT a0 vs _ A kk e rs =>
  obtain ⟨na,nA⟩:=xax.mp nd
  obtain ⟨j,ej,ev,es⟩:=zU hg
  obtain ⟨w,B,e3,r3,sb,g⟩:=rs.at ej nA
  have hl:vs.length=kvs.length:=by have:=rs.length; rw [xab] at this; exact this.symm
  cases r3 with
  | sh hf _=>exact absurd (hf rfl) (by simp [D.flat])
  | @list c ws _ B' hz ec rs' =>
   have cA:c∈A:=sb.subset xad
   refine ⟨a0,_,c,ws,e2,e,(ev vs hl).trans e3,ec,rs'.length.symm,fun x y hx rx hw=>?_⟩
   have hca:a0≠c:=fun z=>na (z ▸ cA)
   obtain ⟨nc,nB⟩:=xax.mp (sb.nodup nA)
   have r4:RepO K Hs (upd H c (.lst (ws++[y]))) true (.list (xs++[x])) (.ref c) (c :: B'):=by
    have:=(rs'.stay (H':=upd H c (.lst (ws++[y]))) (Same.refl _) fun b hb=>upd_ne fun z=>nc (z ▸ hb)).append (aq.cons (As:=[]) (.sh (fun _=>hx) rx) .nil)
    rw [xaD,xaD] at this
    exact .list (by rw [xaB]; exact hw) upd_same this
   obtain ⟨As2,n2,y2,_,r5⟩:=g Hs (upd H c (.lst (ws++[y]))) true _ _ (Same.refl _) id r4 (sb.nodup nA) (fun _ h _=>h) (fun b _ nb=>upd_ne fun z=>nb (z ▸ xad))
   have in2:∀ b∈As2,b∈A:=fun b hb=>(y2 b hb).elim (fun q=>q.1) fun q=>sb.subset q
   obtain ⟨k1,k2⟩:=es x
   have kl:(sdG kvs ks x).length=kvs.length:=by have:=congrArg List.length k1; simpa using this
   refine k Hs _ true (.dT (sdG kvs ks x)) (a0 :: As2) (Same.refl _) (ph sr.wf (own c (xac _ cA)) fun _ z=>nomatch z) (fun _ h _=>h) id (.dT (vs:=vs) ⟨by rw [kl]; exact kk.1,fun p hp=>?_⟩ (by rw [upd_ne hca,k1]; exact e) (by rw [k2]; exact r5)) (by simp) (xax.mpr ⟨fun z=>na (in2 _ z),n2⟩) (fun b hb=>?_) fun b _ nb=>upd_ne fun z=>nb (z ▸ xac _ cA)
   ·have:p.1∈kvs.map (·.1):=k1 ▸ List.mem_map_of_mem hp
    obtain ⟨p',hp',e'⟩:=xaE.mp this
    rw [<- e']; exact kk.2 p' hp'
   ·have hb':b∈a0 :: A:=(xam.mp hb).elim (fun z=>z ▸ xad) fun z=>xac _ (in2 b z)
    exact ⟨own b hb',.inl hb'⟩
theorem wX {te:WE} {Hs H:Hp} {ρ:Env} {σ:St} {tot:List Addr} {i:Nat} {kvs:List (List Key × D)} {ks:List Key} {xs:List D} {a:Addr} {kvv:List (List Key × V)} {v':V} {R:Env->Prop} {G:Hp->Prop} (sr:SRel K Hs ρ σ H tot) (e1:ρ[i]? = some (some (.ow true (.dT kvs)))) (hg:getG kvs ks=some (.list xs)) (hz:xs.length<sizeLine)
  (eσ:σ[i]? = some (some (.ref a))) (eH:H a=some (.dT kvv)) (ev:valV kvv ks=some v') (q:te ρ fun _ x=>x.flat=true/\R (ρ.set i (some (.ow true (.dT (sdG kvs ks x)))))) (k1:∀ H' Hs' ρ' tot',Same Hs Hs'->SRel K Hs' ρ' σ H' tot'->R ρ'->G H') :
  tyV K "list" v' H/\tCons (tpE K te) tNil σ H fun us H2=>rAppend v' us H2 fun _ H3=>G H3:=by
 obtain ⟨a',kv',c,ws,f1,f2,f3,f4,f5,f6⟩:=oV sr e1 hg
 have ea:a'=a:=by rw [f1] at eσ; cases eσ; rfl
 subst ea
 have ek:kv'=kvv:=by rw [f2] at eH; cases eH; rfl
 subst ek
 have e':v'=.ref c:=by rw [f3] at ev; cases ev; rfl
 subst e'
 refine ⟨.inl ⟨rfl,_,.inl (.inl f4)⟩,Hs,ρ,tot,_,sr,q,fun y H2 Hs2 m x Cs g2 r2 fr2 q2=>?_⟩
 obtain ⟨hx,q2⟩:=q2
 obtain ⟨b',kv2,c2,ws2,h1,h2,h3,h4,h5,h6⟩:=oV (sr.grow g2) e1 hg
 have ea:b'=a':=by rw [f1] at h1; cases h1; rfl
 subst ea
 have ek:kv2=kv':=by rw [g2.all _ _ f2] at h2; cases h2; rfl
 subst ek
 have e':c2=c:=by rw [f3] at h3; cases h3; rfl
 subst e'
 obtain ⟨tot2,sr2⟩:=h6 x y hx (r2.flat g2.wf hx) (by lia)
 exact ⟨c2,ws2,y,rfl,rfl,h4,by lia,k1 _ Hs2 _ tot2 g2.sh sr2 q2⟩
theorem set_own {α:Type} {ρ:List α} {i:Nat} {x:α} (h:ρ[i]? = some x):ρ.set i x=ρ:=by
 apply xbP
 intro j
 rw [List.getElem?_set]
 split
 ·rename_i e
  subst e
  have:=(xas.mp h).1
  rw [if_pos this,h]
 ·rfl
theorem CV {L:Str->Hp->Prop} {i:Nat} {p1 p2 p3 p4 p5:Pos} (hu:X.A.units+64<cLine) (he:PE X a (tVar i)) (hb:QE X K b tb) (hc:QE X K c tc) (hK:X.K=K:=by rfl) (hm:M2 X a "setdefault" p1 b (.List [] p2) p3:=by exact ⟨rfl,rfl,rfl,rfl⟩)
  (hs:swapsWith (.Call (.Attribute (.Call (.Attribute a "setdefault" p1) [b,.List [] p2] [] p3) "append" p4) [c] [] p5) none pos.line X.env=pure false:=by rfl)
  (hbase:attributeBase (.Call (.Attribute a "setdefault" p1) [b,.List [] p2] [] p3) "append" X.env (eval (.Call (.Attribute a "setdefault" p1) [b,.List [] p2] [] p3) X.env)=eval (.Call (.Attribute a "setdefault" p1) [b,.List [] p2] [] p3) X.env:=by rfl)
  (hfew:((backTo p5 (starEach [c] X.env)).all (fun x=>!x.1) && (backToKw p5 (keywordEach [] X.env)).all (fun x=>x.1.isSome)
   && decide ([c].length+([]:List Keyword).length+(if ([]:List Keyword).isEmpty then 0 else 1)<30))=true:=by rfl)
  (hline:(p4.endLine == p5.line)=true:=by rfl) (hss:starEach (c :: []) X.env=(false,eval c X.env) :: starEach [] X.env:=by rfl) (hplain:(backTo p5 (starEach [] X.env)).any (·.1)=false:=by rfl) :
  QS X K L (.Expr (.Call (.Attribute (.Call (.Attribute a "setdefault" p1) [b,.List [] p2] [] p3) "append" p4) [c] [] p5) pos) (wSd i tb tc):=by
 subst hK
 refine PS.imp (ps_expr (pe_bm PySem.F.plainAttrs_list PySem.F.slot_list_append PySem.F.type_list_append mt_append (Cu (by lia) he hb (dH (K:=X.K) az) hm) (pa_cons hc pa_nil hss) hbase hfew hline hss hplain) hs) fun D σ H hx=>du hx fun Hs ρ tot E sr h k1 k2 k3 k4=>?_
 unfold wSd owdT at h
 split at h
 ·rename_i kvs e1
  obtain ⟨v,e2,pl⟩:=sr.place e1
  obtain ⟨As',r,ne,nd,own,k⟩:=pl.ex
  have lv:∀ x∈As',Hs x=none/\H x≠none:=fun x hx=>⟨own x hx,(r.own x hx).ne⟩
  cases r with
  | sh hf _=>exact absurd rfl ne
  | @dT a0 vs _ A kk e rs =>
   refine ⟨_,e2,a0,rfl,.inr ⟨_,.inl e⟩,Hs,ρ,tot,_,sr,h,fun u H2 Hs2 m y Bs g2 r2 f2 q2=>?_⟩
   refine ⟨Hs2,ρ,tot,fun m d=>m=.ow true/\d=.list [],sr.grow g2,⟨xao _,rfl,rfl⟩,fun w H3 Hs3 n z Cs g3 r3 f3 q3=>?_⟩
   obtain ⟨rfl,rfl⟩:=q3
   have ry:=(r2.grow g3).rep g3.wf
   cases ry with
   | tup t2 ey p2 =>
    obtain ⟨ks,hk,hz,hsh,q⟩:=q2
    obtain ⟨b',eb,e3⟩:=Rep.keyT (.tup t2 ey p2) hk
    cases eb
    have g:=g2.trans g3
    have hl:kvs.length=vs.length:=by have:=rs.length; rwa [xab] at this
    have srg:=sr.grow g
    have zg:=zip_get (k:=ks) (rs.reps (G:=H) sr.wf.sub fun _ _=>rfl)
    refine ⟨_,ks,_,g.all _ _ e,rfl,e3,by rw [xbu,xab,<- hl,xbL]; exact hz,fun v' ev=>?_,fun ev=>?_⟩
    ·cases hg:getG kvs ks with
     | none=>rw [hg] at zg; rw [zg] at ev; cases ev
     | some d =>
      rw [hg] at hsh
      cases d with
      | list xs =>
       rw [show sdN kvs ks=kvs by unfold sdN; rw [hg],set_own e1] at q
       exact wX (G:=fun H'=>D.nx σ H') srg e1 hg hsh e2 (g.all _ _ e) ev q fun H' Hs' ρ' tot' s1 s2 q'=>k1 σ H' Hs' ρ' tot' (g.sh.trans s1) s2 q'
      | _=>exact hsh.elim
    ·have hg:getG kvs ks=none:=by
      cases hg:getG kvs ks with
      | none=>rfl
      | some d=>rw [hg] at zg; obtain ⟨v',z,_⟩:=zg; rw [z] at ev; cases ev
     rw [show sdN kvs ks=kvs++[(ks,.list [])] by unfold sdN; rw [hg]] at q
     obtain ⟨r3,_⟩:=r3
     cases r3 with
     | sh hf _=>exact absurd (hf rfl) (by simp [Q.D.flat])
     | @list c ws _ B' hw ec rs' =>
      cases rs'
      obtain ⟨na,nA⟩:=xax.mp nd
      have fc:=f3.2 c xad
      have hHc:H c=none:=g2.all.free fc.2
      have cA:∀ b∈a0 :: A,b≠c:=fun b hb z=>by
       subst z
       rcases xam.mp hb with rfl | hb
       ·rw [e] at hHc; cases hHc
       ·exact (rs.own _ hb).ne hHc
      have ek:putK ((kvs.map (·.1)).zip vs) ks (V.ref c)=((kvs++[(ks,Q.D.list [])]).map (·.1)).zip (vs++[V.ref c]):=by
       have:=valV_any ks ((kvs.map (·.1)).zip vs)
       rw [ev] at this
       unfold putK
       rw [this,if_neg (by decide),xa0,List.zip_append (by rw [xab]; exact hl)]
       rfl
      obtain ⟨kl,ko⟩:=pW p2 hk
      have l1:=p2.length
      have rs3:=rs.grow g.sh g.all
      have rs4:aq X.K Hs3 (upd H3 a0 (.dT (((kvs++[(ks,Q.D.list [])]).map (·.1)).zip (vs++[V.ref c])))) true ((kvs++[(ks,Q.D.list [])]).map (·.2)) (vs++[V.ref c]) (A++[c]):=by
       have q1:=rs3.stay (H':=upd H3 a0 (.dT (((kvs++[(ks,Q.D.list [])]).map (·.1)).zip (vs++[V.ref c])))) (Same.refl _) fun b hb=>upd_ne fun z=>na (z ▸ hb)
       have q2:=q1.append (aq.cons (RepO.list (ds:=[]) (As:=[]) hw ((upd_ne fun z=>cA a0 xad z.symm).trans ec) .nil) .nil)
       rw [show (kvs++[(ks,Q.D.list [])]).map (·.2)=kvs.map (·.2)++[Q.D.list []] by simp]
       exact q2
      obtain ⟨tot2,sr2⟩:=k.node (fl2:=true) (d2:=.dT (kvs++[(ks,.list [])])) (C:=A++[c]) g lv (fun _ z=>by cases z) id
       (.dT ⟨by rw [xaB]; exact hz,fun p hp=>(xag.mp hp).elim (kk.2 p) fun z=>by
        obtain rfl:p=(ks,.list []):=by simpa using z
        exact ⟨by show ks.length<=_; lia,ko⟩⟩ upd_same rs4)
       (xak.mpr ⟨nA,by simp,fun x hx y hy z=>cA x (xac _ hx) (by rw [z]; simpa using hy)⟩) (fun z=>(xag.mp z).elim na fun z=>cA a0 xad (by simpa using z))
       (fun x hx=>(xag.mp hx).imp id fun z=>by
        obtain rfl:x=c:=by simpa using z
        exact ⟨fc.1,hHc⟩)
      rw [ek]
      have hi:i<ρ.length:=(xas.mp e1).1
      refine wX (G:=fun H'=>D.nx σ H') (R:=E.nx) (kvs:=kvs++[(ks,.list [])]) (xs:=[]) sr2 (by simp [hi]) (lR hg) (by rw [sizeLine_eq]; decide) e2 upd_same (by rw [<- ek,valV_put,if_pos rfl]) ?_ fun H' Hs' ρ' tot' s1 s2 q'=>k1 σ H' Hs' ρ' tot' (g.sh.trans s1) s2 q'
      simp only [List.set_set,oM hg]
      exact q
   | _=>exact q2.elim
 ·exact h.elim
end
end L2.Q
namespace L2
open PySem PySem.Spec PyProof.Rows
def xN:R2:=fun x y H Q=>match x,y with
 | .str z,.int n=>(0<=n/\n<=100/\z.length<=100)/\Q (.str (repS n z)) H
 | _,_=>False
theorem yc {X:Cx}:OpR X (binaryOp .Mult) xN:=by
 intro pins s σ H x y v u Q I rx ry h
 unfold xN at h
 split at h
 ·rename_i z n
  obtain ⟨⟨h1,h2,h3⟩,q⟩:=h
  by_cases hn:n<1
  ·obtain ⟨t,rfl⟩:=rx
   obtain ⟨t',rfl⟩:=ry
   have e:n=0:=by lia
   subst e
   refine jf ⟨by decide,fun z=>absurd hn z,fun z=>absurd hn z⟩ fun t' k=>⟨.str (repS 0 z),H,I.tok _,⟨t',by rw [show Txt.mul z 0=repS 0 z from by unfold Txt.mul repS; rw [if_pos hn]; rfl]⟩,q⟩
  ·exact yg pins s σ H (.str z) (.int n) v u Q I rx ry ⟨⟨by lia,h2,h3⟩,q⟩
 ·exact h.elim
end L2
namespace L2.Q
open PySem PySem.Spec PyProof.Rows
section
variable {X:Cx} {K:PySem.W.Frag} {a b c:Expr} {ta tb:WE} {pos:Pos}
def vo:W2:=fun _ x _ y Q=>match x with
 | .str z=>match y with
  | .int n=>(0<=n/\n<=100/\z.length<=100)/\Q .sh (.str (repS n z))
  | _=>False
 | _=>False
theorem yS:Br2 K xN vo:=by
 intro Hs H m x v As n y u Bs Qd Qv w rx ry h f
 have r1:=rx.rep w
 have r2:=ry.rep w
 cases r1 with
 | str hz=>cases r2 with
  | int n =>
   obtain ⟨hh,q⟩:=h
   refine ⟨hh,f.sh w (.str ?_) q⟩
   rw [lJ,sizeLine_eq]
   have:n.toNat * Str.length _<=100 * 100:=Nat.mul_le_mul (by lia) hh.2.2
   lia
  | _=>exact h.elim
 | _=>exact h.elim
theorem z_ (ha:QE X K a ta) (hb:QE X K b tb):QE X K (.BinOp a .Mult b pos) (wOp vo ta tb):=q_op yc yS ha hb
def wD1S (tk tv:WE):WE:=fun ρ Q=>tk ρ fun _ x=>tv ρ fun m y=>m=.sh/\∃ k,x.key1=some k/\Q (.ow y.flat) (.dK [(k,y)])
theorem vU (he:QE X K a ta) (he2:QE X K b tb):QE X K (.Dict [some a] [b] pos) (wD1S ta tb):=by
 refine PE.imp (pe_disp (pps_cons he he2 pps_nil) rfl rfl (by simp) (by simp)) fun σ H Qv hx=>ex4 hx fun Hs ρ tot Q sr h fin=>fun a ha=>?_
 have g0:Grow Hs H Hs (upd H a (.dK [])):=newL sr.wf ha fun _ z=>nomatch z
 refine ⟨Hs,ρ,tot,_,sr.grow g0,h,fun v H1 Hs1 m x As g1 r1 f1 q1=>⟨Hs1,ρ,tot,_,(sr.grow g0).grow g1,q1,fun u H2 Hs2 n y Bs g2 r2 f2 q2=>?_⟩⟩
 obtain ⟨rfl,k,ek,q2⟩:=q2
 have rx:=(r1.grow g2).rep g2.wf
 have ex:=rx.key ek
 subst ex
 have gg:=(g0.trans g1).trans g2
 have e2:H2 a=some (.dK []):=g2.all _ _ (g1.all _ _ upd_same)
 have n2:Hs2 a=none:=g2.hsn (g1.hsn (sr.wf.sub.free ha) (by rw [upd_same]; exact fun z=>nomatch z)) (by rw [g1.all _ _ upd_same]; exact fun z=>nomatch z)
 refine ⟨e2,[(k,u)],rfl,by simp,?_⟩
 have g3:Grow Hs H Hs2 (upd H2 a (.dK [(k,u)])):=⟨fun b o hb=>by rw [upd_ne (ne_of_none hb ha)]; exact gg.all b o hb,gg.sh,ph gg.wf n2 (fun _ z=>nomatch z),gg.new⟩
 exact fin (.ref a) _ Hs2 (.ow y.flat) (.dK [(k,y)]) [a] g3 ⟨.dK (vs:=[u]) (As:=[]) ⟨by rw [sizeLine_eq]; simp,fun p hp=>by
  have:p=(k,y):=by simpa using hp
  subst this; exact iQ rx ek⟩ upd_same (.cons (As:=[]) (.sh id r2.2) .nil),by simp⟩ ⟨by simp,fun b hb=>by
  obtain rfl:b=a:=by simpa using hb
  exact ⟨n2,ha⟩⟩ q2
def owdK (d:D) (k:List (Key × D)->Prop):Prop:=match d with
 | .dK kvs=>k kvs
 | _=>False
def uv (p:WP) (tk tv:WE):WS:=fun E ρ=>tv ρ fun m x=>p ρ fun fl d up=>tk ρ fun _ y=>m=.sh/\owdK d fun kvs=>∃ k,y.key1=some k/\kvs.length<sizeLine/\E.nx (up (fl && x.flat) (.dK (putG kvs k x)))
theorem vz (hu:X.A.units+64<cLine) (ho:QP X K a p) (hi:QE X K b tk) (hv:QE X K c tv) (hs:swapsWith c (some (.Subscript a b pos')) pos.line X.env=pure false:=by rfl) :
  QS X K L (.Assign [.Subscript a b pos'] c pos) (uv p tk tv):=by
 refine PS.imp (ps_dput (by lia) ho hi hv hs) fun D σ H hx=>du hx fun Hs ρ tot E sr h k1 k2 k3 k4=>?_
 refine ⟨Hs,ρ,tot,_,sr,h,fun v H1 Hs1 m1 x As1 g1 r1 f1 q1=>⟨Hs1,ρ,tot,_,sr.grow g1,q1,fun u H2 Hs2 fl d up g2 p2 q2=>⟨Hs2,ρ,tot,_,(sr.grow g1).grow g2,q2,fun y H3 Hs3 m3 yd As3 g3 r3 f3 q3=>?_⟩⟩⟩
 obtain ⟨rfl,q3⟩:=q3
 have rx:Rep K Hs3 x v:=(r1.2.same g2.sh).same g3.sh
 have ry:=r3.rep g3.wf
 obtain ⟨As',r,ne,nd,own,k⟩:=p2.ex
 have lv:∀ x∈As',Hs2 x=none/\H2 x≠none:=fun x hx=>⟨own x hx,(r.own x hx).ne⟩
 cases r with
 | sh hf _=>exact absurd rfl ne
 | @dK a0 vs kvs A kk e rs =>
  obtain ⟨key,hk,hz,q⟩:=q3
  have ey:=ry.key hk
  subst ey
  obtain ⟨na,nA⟩:=xax.mp nd
  have hf:(fl && x.flat)=true->fl=true:=fun z=>by simp at z; exact z.1
  have rs3:=(rs.grow g3.sh g3.all).wk hf
  obtain ⟨ws,Bs,sb,rw',ew⟩:=pU (k:=key) (RepO.sh (fun z=>by simp at z; exact z.2) rx) rs3
  have hl:kvs.length=vs.length:=by have:=rs.length; rwa [xab] at this
  refine ⟨a0,_,rfl,DPut.k (g3.all _ _ e) (by rw [xbu,xab,<- hl,xbL]; exact hz),?_⟩
  rw [ew]
  have nB:a0∉Bs:=fun z=>na (sb.subset z)
  obtain ⟨tot2,sr2⟩:=k.node (fl2:=fl && x.flat) (d2:=.dK (putG kvs key x)) g3 lv (fun _ z=>by cases z) hf (.dK ⟨xaA (dX _ _ _) hz,fun p hp=>(gU hp).elim (fun z=>by rw [z]; exact iQ ry hk) fun z=>by obtain ⟨p',hp',e'⟩:=xaE.mp z; rw [<- e']; exact kk.2 p' hp'⟩ upd_same (rw'.stay (Same.refl _) fun b hb=>upd_ne fun z=>nB (by subst z; exact hb)))
   (sb.nodup nA) nB fun b hb=>.inl (sb.subset hb)
  exact k1 σ _ Hs3 _ tot2 ((g1.sh.trans g2.sh).trans g3.sh) sr2 q
 | _=>exact q3.elim
end
end L2.Q
namespace L2.Q.R
open PySem PySem.Spec PyProof.Rows L2.Q
section
variable {ρ:Env} {E:nF} {te tb tc tk tv:WE} {m m':Md} {x y:L2.Q.D} {ys:List L2.Q.D} {Q:Md->L2.Q.D->Prop} {p:WP} {i k:Nat}
theorem FN {a:Int} {x:Str}:vo m (.str x) m' (.int a) Q=((0<=a/\a<=100/\x.length<=100)/\Q .sh (.str (repS a x))):=rfl
theorem Hx:wD1S tk tv ρ Q=tk ρ fun _ x=>tv ρ fun m y=>m=.sh/\∃ k,x.key1=some k/\Q (.ow y.flat) (.dK [(k,y)]):=rfl
theorem Dm:uv p tk tv E ρ=tv ρ fun m x=>p ρ fun fl d up=>tk ρ fun _ y=>m=.sh/\onK d (f:=fun d=>owdK d fun kvs=>∃ k,y.key1=some k/\kvs.length<sizeLine/\E.nx (up (fl && x.flat) (.dK (putG kvs k x)))) ⟨⟩:=rfl
theorem HF {kvs:List (Key × L2.Q.D)} {k:List (Key × L2.Q.D)->Prop}:owdK (.dK kvs) k=k kvs:=rfl
theorem Hg:wGet te tb tc ρ Q=te ρ fun m x=>onK x (f:=fun x=>onD x (fun kvs=>tb ρ fun _ y=>tc ρ fun n z=>∃ k,y.key1=some k/\gotG (getG kvs k) m n z Q)
 (fun kvs=>tb ρ fun _ y=>tc ρ fun n z=>onK y (f:=fun y=>tupD y fun ys=>∃ ks,cO ys=some ks/\gotG (getG kvs ks) m n z Q) ⟨⟩)) ⟨⟩:=rfl
theorem G5:onD (.dK kvs) f g=f kvs:=rfl
theorem HB:onD (.dT kvs) f g=g kvs:=rfl
theorem Hy {k:List L2.Q.D->Prop}:tupD (.tup ys) k=k ys:=rfl
theorem wSd_:wSd i tk te E ρ=onK ρ[i]? (f:=fun o=>owdT o fun kvs=>tk ρ fun _ y=>onK y (f:=fun y=>tupD y fun ys=>∃ ks,cO ys=some ks/\kvs.length<sizeLine/\vZ (getG kvs ks) /\
 te (ρ.set i (some (.ow true (.dT (sdN kvs ks))))) fun _ x=>x.flat=true/\E.nx (ρ.set i (some (.ow true (.dT (sdG kvs ks x)))))) ⟨⟩) ⟨⟩:=rfl
theorem Ht {kvs:List (List Key × L2.Q.D)} {k:List (List Key × L2.Q.D)->Prop}:owdT (some (some (.ow true (.dT kvs)))) k=k kvs:=rfl
end
end L2.Q.R
namespace L2.Q
open PySem PySem.Spec PyProof.Rows
structure Sim (H G:Hp):Prop where
 tup:∀ a vs,H a=some (.tup vs)->G a=some (.tup vs)
 lst:∀ a vs,Rd H a (.lst vs)->Rd G a (.lst vs)
 dct:∀ a u,gJ u->Rd H a u->Rd G a u
section
variable {K:PySem.W.Frag} {H G Hs Gs:Hp} {p:Addr} {u:HO} {o:Obj}
theorem Sim.rep2 (s:Sim H G):(∀ {d:D} {v:V},Rep K H d v->Rep K G d v)/\∀ {ds:List D} {vs:List V},Reps K H ds vs->Reps K G ds vs :=
 Rep.ind .non .bl .int (fun _ h=>.str h) (fun _ _ _ z h _ ih=>.list z (h.imp (s.lst _ _) id) ih) (fun _ _ _ z h _ ih=>.tup z (s.tup _ _ h) ih) (fun _ _ _ kk h _ ih=>.dK kk (s.dct _ _ trivial h) ih) (fun _ _ _ kk h _ ih=>.dT kk (s.dct _ _ trivial h) ih) .nil fun _ _ _ _ _ _ a b=>.cons a b
theorem Sim.rep (s:Sim H G) (r:Rep K H d v):Rep K G d v:=s.rep2.1 r
theorem Sim.yq (s:Sim Hs Gs):(∀ {d:D} {v:V} {As:List Addr},RepO K Hs H fl d v As->(∀ a∈As,G a=H a)->RepO K Gs G fl d v As)/\∀ {ds:List D} {vs:List V} {As:List Addr},aq K Hs H fl ds vs As->(∀ a∈As,G a=H a)->aq K Gs G fl ds vs As :=
 RepO.ind (m1:=fun d v As=>(∀ a∈As,G a=H a)->RepO K Gs G fl d v As) (m2:=fun ds vs As=>(∀ a∈As,G a=H a)->aq K Gs G fl ds vs As) (fun _ _ f r _=>.sh f (s.rep r))
  (fun _ _ _ _ z e _ ih k=>.list z ((k _ xad).trans e) (ih fun a h=>k a (xac _ h))) (fun _ _ _ _ z e n _ ih k=>.tup z (s.tup _ _ e) n (ih k)) (fun _ _ _ _ z e _ ih k=>.dK z ((k _ xad).trans e) (ih fun a h=>k a (xac _ h)))
  (fun _ _ _ _ z e _ ih k=>.dT z ((k _ xad).trans e) (ih fun a h=>k a (xac _ h))) (fun _=>.nil) fun _ _ _ _ _ _ _ _ i1 i2 k=>.cons (i1 fun a h=>k a (xai _ h)) (i2 fun a h=>k a (xaf _ h))
theorem Sim.sr (s:Sim Hs Gs) (r:SR K Hs H ρ σ tot):(∀ a∈tot,G a=H a)->SR K Gs G ρ σ tot:=by
 induction r with
 | nil=>exact fun _=>.nil
 | non _ ih=>exact fun k=>.non (ih k)
 | sh h _ ih=>exact fun k=>.sh (s.rep h) (ih k)
 | xc _ ih=>exact fun k=>.xc (ih k)
 | ow ne h _ ih=>exact fun k=>.ow ne (s.yq.1 h fun a m=>k a (xai _ m)) (ih fun a m=>k a (xaf _ m))
 | lk ne h _ ih=>exact fun k=>.lk ne (s.yq.1 h fun a m=>k a (xai _ m)) (ih fun a m=>k a (xaf _ m))
theorem sH (hu:gJ u) (e:H p=some u):Sim H (upd H p (.frz o u)):=by
 have ne:∀ {a:Addr} {w:HO},(w≠u)->Rd H a w->a≠p:=fun hw h z=>by
  subst z
  rcases h with h | ⟨ob,h⟩
  ·rw [e] at h; cases h; exact hw rfl
  ·rw [e] at h; cases h; exact hu
 have mv:∀ {a:Addr} {w:HO},a≠p->Rd H a w->Rd (upd H p (.frz o u)) a w:=fun n h=>h.imp (fun h=>by rw [upd_ne n]; exact h) fun ⟨ob,h⟩=>⟨ob,by rw [upd_ne n]; exact h⟩
 refine ⟨fun a vs h=>?_,fun a vs h=>mv (ne (fun z=>by subst z; exact hu) h) h,fun a w hw h=>?_⟩
 ·rw [upd_ne (ne (w:=.tup vs) (fun z=>by subst z; exact hu) (.inl h))]; exact h
 ·by_cases z:a=p
  ·subst z
   rcases h with h | ⟨ob,h⟩
   ·rw [e] at h; cases h; exact .inr ⟨o,upd_same⟩
   ·rw [e] at h; cases h; exact hu.elim
  ·exact mv z h
theorem lq (hu:gJ u) (e:H p=some (.frz o u)):Sim H (upd H p u):=by
 have ne:∀ {a:Addr} {w:HO},(w≠u)->(∀ ob x,w≠.frz ob x)->Rd H a w->a≠p:=fun hw hf h z=>by
  subst z
  rcases h with h | ⟨ob,h⟩
  ·rw [e] at h; cases h; exact hf _ _ rfl
  ·rw [e] at h; cases h; exact hw rfl
 have mv:∀ {a:Addr} {w:HO},a≠p->Rd H a w->Rd (upd H p u) a w:=fun n h=>h.imp (fun h=>by rw [upd_ne n]; exact h) fun ⟨ob,h⟩=>⟨ob,by rw [upd_ne n]; exact h⟩
 refine ⟨fun a vs h=>?_,fun a vs h=>mv (ne (w:=.lst vs) (fun z=>by subst z; exact hu) (fun _ _ z=>nomatch z) h) h,fun a w hw h=>?_⟩
 ·rw [upd_ne (ne (w:=.tup vs) (fun z=>by subst z; exact hu) (fun _ _ z=>nomatch z) (.inl h))]; exact h
 ·by_cases z:a=p
  ·subst z
   rcases h with h | ⟨ob,h⟩
   ·rw [e] at h; cases h; exact hw.elim
   ·rw [e] at h; cases h; exact .inl upd_same
  ·exact mv z h
theorem SRel.mW (s:SRel K Hs ρ σ H tot) (e:Hs p=some w) (hw:∀ vs,w≠.tup vs) (hx:∀ vs,x≠.tup vs) (m:Sim Hs (upd Hs p x)):SRel K (upd Hs p x) ρ σ (upd H p x) tot:=by
 have np:∀ a∈tot,a≠p:=fun a h z=>by subst z; rw [s.own a h] at e; cases e
 refine ⟨m.sr s.sr fun a h=>upd_ne (np a h),⟨fun a o h=>?_,fun a vs h=>?_⟩,s.nod,fun a h=>by rw [upd_ne (np a h)]; exact s.own a h⟩
 ·by_cases z:a=p
  ·subst z; rw [upd_same] at h ⊢; exact h
  ·rw [upd_ne z] at h ⊢; exact s.wf.sub a o h
 ·by_cases z:a=p
  ·subst z; rw [upd_same] at h; cases h; exact absurd rfl (hx _)
  ·rw [upd_ne z] at h ⊢; exact s.wf.tups a vs h
theorem RM.thw (hu:gJ u) (e:Hs p=some (.frz o u)) (w:Wf Hs H) (hn:∀ a∈As,Hs a=none) (r:RM K Hs H m d v As):RM K (upd Hs p u) (upd H p u) m d v As:=by
 cases m with
 | sh=>exact ⟨r.1,(lq hu e).rep r.2⟩
 | bo=>exact ⟨r.1,(lq hu (w.sub _ _ e)).rep r.2⟩
 | ow fl=>exact ⟨(lq hu e).yq.1 r.1 (fun a h=>upd_ne fun z=>by subst z; rw [hn a h] at e; cases e),r.2⟩
theorem qi (e:Hs p=some u) (s:Same (upd Hs p (.frz o u)) Hs2):Same Hs (upd Hs2 p u):=fun a w h=>by
 by_cases z:a=p
 ·subst z; rw [e] at h; cases h; exact upd_same
 ·rw [upd_ne z]; exact s a w (by rw [upd_ne z]; exact h)
theorem gH.dct (e:Hs p=some (.frz o u)) (rs:Reps K Hs ds ks):gH K (Itd p o ks) ds fun G _=>Same Hs G where
 go:=fun i G H s w h=>⟨by rw [<- rs.length]; exact h,u,w.sub _ _ (s _ _ e)⟩
 yld:=fun i G H x H' d s w h y=>by
  obtain ⟨y1,y2⟩:=y
  subst y1
  obtain ⟨v,ev,r⟩:=rs.get h
  rw [y2] at ev
  cases ev
  exact ⟨G,Grow.refl w,r.same s⟩
 stop:=fun G H s w=>⟨rs.length,u,w.sub _ _ (s _ _ e)⟩
end
def yp:D->Option (List D)
 | .dK kvs=>some (kvs.map fun kv=>keyD kv.1)
 | .dT kvs=>some (kvs.map fun kv=>keyT kv.1)
 | _=>none
def vR (te:WE) (g:WG) (b:WS):WS:=fun E ρ=>te ρ fun m x=>m=.sh/\∃ ds,yp x=some ds/\gm g b E ds ρ
section
variable {X:Cx} {K:PySem.W.Frag} {L:Str->Hp->Prop} {e tg:Expr} {pos:Pos} {te:WE} {g:WG} {b:WS} {body:List Stmt}
theorem lX {J:It} (S:gH K J ds fun G _=>Same Hs1 G) (sr:SRel K Hs1 ρ σ H1 tot) (q1:gm g b E ds ρ) (hL:∀ n H,L n H)
  (k1:∀ σ' H' Hs' ρ' tot',Same Hs1 Hs'->SRel K Hs' ρ' σ' H' tot'->E.nx ρ'->D'.nx σ' H')
  (k4:∀ v H' Hs' m d As,Same Hs1 Hs'->Wf Hs' H'->RM K Hs' H' m d v As->As.Nodup->(∀ a∈As,Hs' a=none)->E.rt m d->D'.rt v H'):ForW J (tpG K g) (tpS K L b) D' σ H1:=by
 refine ⟨fun i m σ H=>m=ds.length - i/\i<=ds.length/\∃ Hs' ρ' tot',Same Hs1 Hs'/\SRel K Hs' ρ' σ H tot'/\gm g b E (ds.drop i) ρ',⟨ds.length,by simp,xao _,Hs1,ρ,tot,Same.refl _,sr,by simpa using q1⟩,?_⟩
 rintro i m σ2 H2 ⟨rfl,hi,Hs2,ρ2,tot2,s2,sr2,q2⟩
 by_cases hlt:i<ds.length
 ·refine .inr ⟨S.go i Hs2 H2 s2 sr2.wf hlt,fun σ3 H3=>∃ Hs' ρ' tot',Same Hs1 Hs'/\SRel K Hs' ρ' σ3 H3 tot'/\gm g b E (ds.drop (i+1)) ρ',fun σ3 H3 h3=>⟨ds.length - (i+1),by lia,rfl,hlt,h3⟩,fun x H3 y=>?_⟩
  obtain ⟨Hs3,g3,rd⟩:=S.yld i Hs2 H2 x H3 ds[i] s2 sr2.wf (by simp [hlt]) y
  rw [xaL hlt] at q2
  have s3:=s2.trans g3.sh
  refine ⟨Hs3,ρ2,tot2,ds[i],_,sr2.grow g3,rd,q2,fun σ4 ρ4 tot4 sr4 _ q4=>?_⟩
  refine ⟨Hs3,ρ4,tot4,_,sr4,q4,?_,?_,?_,?_,fun n H5 _ _=>hL n H5⟩
  ·exact fun σ5 H5 Hs5 ρ5 tot5 s5 sr5 q5=>⟨Hs5,ρ5,tot5,s3.trans s5,sr5,q5⟩
  ·exact fun σ5 H5 Hs5 ρ5 tot5 s5 sr5 q5=>k1 σ5 H5 Hs5 ρ5 tot5 (s3.trans s5) sr5 q5
  ·exact fun σ5 H5 Hs5 ρ5 tot5 s5 sr5 q5=>⟨Hs5,ρ5,tot5,s3.trans s5,sr5,q5⟩
  ·exact fun v H5 Hs5 m d As s5=>k4 v H5 Hs5 m d As (s3.trans s5)
 ·have e:i=ds.length:=by lia
  subst e
  refine .inl ⟨S.stop Hs2 H2 s2 sr2.wf,?_⟩
  rw [xbD] at q2
  exact k1 σ2 H2 Hs2 ρ2 tot2 s2 sr2 q2
theorem ug (r:Rep K Hs x (.ref a)) (w:Wf Hs H) (hds:yp x=some ds) (hu:gJ u) (e:Rd Hs a u) (h:jJ H u ks):Reps K Hs ds ks:=by
 have one:∀ {w:HO},gJ w->Rd Hs a w->w=u:=fun {w} hw r2=>by
  rcases e with e | ⟨o,e⟩ <;> rcases r2 with z | ⟨o2,z⟩ <;> rw [e] at z <;> cases z
  ·rfl
  ·exact hu.elim
  ·exact hw.elim
  ·rfl
 cases r with
 | @dK _ vs kvs kk rd q =>
  cases hds
  have:=one (w:=.dK _) trivial rd
  subst this
  have h:ks=_:=h
  have hl:=q.length
  rw [xab] at hl
  have e1:((kvs.map (·.1)).zip vs).map (·.1)=kvs.map (·.1):=xbY (by rw [xab]; exact xb9 hl)
  have e2:=congrArg (List.map kV) e1
  rw [xaQ] at e2
  rw [h,show (kvs.map fun kv=>keyD kv.1)=(kvs.map (·.1)).map keyD by rw [xaQ]; rfl]
  refine (show Reps K Hs _ (((kvs.map (·.1)).zip vs).map (kV ∘ fun x=>x.1)) from ?_)
  rw [e2]
  exact lg fun k hk=>by obtain ⟨p,hp,rfl⟩:=xaE.mp hk; exact kk.2 p hp
 | @dT _ vs kvs kk rd q =>
  cases hds
  have:=one (w:=.dT _) trivial rd
  subst this
  have h:cC H ks _:=h
  have hl:=q.length
  rw [xab] at hl
  rw [xbY (by rw [xab]; exact xb9 hl)] at h
  rw [show (kvs.map fun kv=>keyT kv.1)=(kvs.map (·.1)).map keyT by rw [xaQ]; rfl]
  exact (kY (K:=K) h fun k hk=>by obtain ⟨p,hp,rfl⟩:=xaE.mp hk; exact kk.2 p hp).e_ w.tups (fH _)
 | _=>cases hds
theorem uE (hp:PassesOwn (model X.prog X.w) X.A X.env X.xe) (hc:X.calm=true) (he:QE X K e te) (hg:QG X K tg g) (hb:QSs X K L body b) (hL:∀ n H,L n H) (hs:∀ x,foldedSetIterable e X.env x=pure x:=by intro _; rfl) :
  QS X K L (.For tg e body [] pos) (vR te g b):=by
 refine PS.imp (yH (ps_for hp hc (yX he) hg hb hs)) fun D σ H hx=>cY hx fun Hs ρ tot E sr h k1 k2 k3 k4 kx=>?_
 rw [tW]
 refine ⟨Hs,ρ,tot,_,sr,h,fun v H1 Hs1 m x As g1 r1 f1 q1=>?_⟩
 obtain ⟨rfl,ds,hds,q1⟩:=q1
 obtain ⟨rfl,r1⟩:=r1
 have sr1:=sr.grow g1
 have go:∀ {a:Addr} {u:HO},v=.ref a->gJ u->Rd Hs1 a u->∃ p u,v=.ref p/\gJ u/\((H1 p=some u/\∀ o ks,(∀ o' w,X.H₀ p≠some (.frz o' w))->(∀ ps,X.H₀ p≠some (.tbl ps))->jJ H1 u ks->ForW (Itd p o ks) (tpG K g) (tpS K L b) { D with nx:=thwN X D.nx,bk:=thwN X D.bk,ct:=thwN X D.ct,rt:=thwR X D.rt } σ (upd H1 p (.frz o u))) \/
   ∃ o,H1 p=some (.frz o u)/\∀ ks,jJ H1 u ks->ForW (Itd p o ks) (tpG K g) (tpS K L b) { D with nx:=thwN X D.nx,bk:=thwN X D.bk,ct:=thwN X D.ct,rt:=thwR X D.rt } σ H1):=by
  intro a u ev hu rd
  subst ev
  refine ⟨a,u,rfl,hu,?_⟩
  rcases rd with rd | ⟨o,rd⟩
  ·refine .inl ⟨g1.wf.sub _ _ rd,fun o ks nf nb hk=>?_⟩
   have rs:=(sH (o:=o) hu rd).rep2.2 (ug r1 g1.wf hds hu (.inl rd) hk)
   have sf:=sr1.mW (x:=.frz o u) rd (fun vs z=>by subst z; exact hu) (fun vs z=>nomatch z) (sH hu rd)
   refine lX (.dct upd_same rs) sf q1 hL (fun σ' H' Hs' ρ' tot' s' sr' n=>.inr ⟨a,u,o,?_,nf,nb,?_⟩) fun v H' Hs' m d As s' w' r' nd' hn' n=>.inr ⟨a,u,o,?_,nf,nb,?_⟩
   ·exact sr'.wf.sub _ _ (s' _ _ upd_same)
   ·have e:=s' _ _ (upd_same (H:=Hs1) (a:=a) (o:=HO.frz o u))
    exact k1 σ' _ _ ρ' tot' (g1.sh.trans (qi rd s')) (sr'.mW e (fun vs z=>nomatch z) (fun vs z=>by subst z; exact hu) (lq hu e)) n
   ·exact w'.sub _ _ (s' _ _ upd_same)
   ·have e:=s' _ _ (upd_same (H:=Hs1) (a:=a) (o:=HO.frz o u))
    refine k4 v _ _ m d As (g1.sh.trans (qi rd s')) ⟨fun b ob h=>?_,fun b vs h=>?_⟩ (r'.thw hu e w' hn') nd' (fun b hb=>?_) n
    ·by_cases z:b=a
     ·subst z; rw [upd_same] at h ⊢; exact h
     ·rw [upd_ne z] at h ⊢; exact w'.sub b ob h
    ·by_cases z:b=a
     ·subst z; rw [upd_same] at h; cases h; exact hu.elim
     ·rw [upd_ne z] at h ⊢; exact w'.tups b vs h
    ·rw [upd_ne fun z=>by subst z; rw [hn' _ hb] at e; cases e]; exact hn' b hb
  ·refine .inr ⟨o,g1.wf.sub _ _ rd,fun ks hk=>?_⟩
   have rs:=ug r1 g1.wf hds hu (.inr ⟨o,rd⟩) hk
   exact lX (.dct rd rs) sr1 q1 hL (fun σ' H' Hs' ρ' tot' s' sr' n=>.inl (k1 σ' H' Hs' ρ' tot' (g1.sh.trans s') sr' n)) fun v H' Hs' m d As s' w' r' nd' hn' n=>.inl (k4 v H' Hs' m d As (g1.sh.trans s') w' r' nd' hn' n)
 cases r1 with
 | dK kk rd q=>exact go (u:=.dK _) rfl trivial rd
 | dT kk rd q=>exact go (u:=.dT _) rfl trivial rd
 | _=>cases hds
end
end L2.Q
namespace L2.Q.R
open PySem PySem.Spec PyProof.Rows L2.Q
section
variable {E:nF} {ρ:Env} {te:WE} {g:WG} {b:WS} {ks:List (Key × L2.Q.D)} {ts:List (List Key × L2.Q.D)} {P:List L2.Q.D->Prop}
def keyB (d:L2.Q.D) (P:List L2.Q.D->Prop):Prop:=∃ ds,yp d=some ds/\P ds
theorem Eo:keyB (.dK ks) P=P (ks.map fun kv=>keyD kv.1):=propext ⟨fun ⟨_,e,h⟩=>by cases e; exact h,fun h=>⟨_,rfl,h⟩⟩
theorem Gh:keyB (.dT ts) P=P (ts.map fun kv=>keyT kv.1):=propext ⟨fun ⟨_,e,h⟩=>by cases e; exact h,fun h=>⟨_,rfl,h⟩⟩
theorem Ea:vR te g b E ρ=te ρ fun m x=>m=.sh/\onK x (f:=fun x=>keyB x fun ds=>gm g b E ds ρ) ⟨⟩:=rfl
end
end L2.Q.R
namespace L2.Q
open PySem PySem.Spec PyProof.Rows
def isSh (o:Option Sl):Bool:=match o with
 | none=>true
 | some (.sh _)=>true
 | _=>false
def dD (ρ:Env):Bool:=ρ.all isSh
section
variable {X:Cx} {K:PySem.W.Frag} {L:Str->Hp->Prop} {pos:Pos} {e:Expr} {te:WE}
theorem Bm {st:Stmt} (h:QS X K L0 st w):QS X K L st w:=PS.imp h fun D σ H hx=>cY hx fun Hs ρ tot E sr hw k1 k2 k3 k4 _=>⟨Hs,ρ,tot,E,sr,hw,k1,k2,k3,k4,fun _ _ _ _=>trivial⟩
theorem SR.dD (s:SR K Hs H ρ σ tot) (h:dD ρ=true) (g:Same Hs Hs'):SR K Hs' H' ρ σ []:=by
 induction s with
 | nil=>exact .nil
 | non _ ih=>exact .non (ih h)
 | sh r _ ih=>exact .sh (r.same g) (ih h)
 | _=>simp [L2.Q.dD,isSh] at h
theorem SRel.dD (s:SRel K Hs ρ σ H tot) (h:dD ρ=true):SRel K H ρ σ H [] :=
 ⟨s.sr.dD h s.wf.sub,⟨fun _ _ z=>z,fun _ _ z=>z⟩,xay,fun _ m=>nomatch m⟩
def qX (i:Nat) (te:WE):WS:=fun E ρ=>te ρ fun _ d=>dD ρ=true/\E.nx (ρ.set i (some (.sh d)))
theorem m_ (hN:X.N.Nodup) (hi:X.N[i]? = some x) (hx:Loc X.env.scope x) (he:QE X K e te) (hs:swapsWith e (some (.Name x pos')) pos.line X.env=pure false:=by rfl)
  (hf:X.fn x=true\/X.env.scope.names.lookup x=some .local:=by first | exact .inl rfl | exact .inr rfl | assumption):QS X K L (.Assign [.Name x pos'] e pos) (qX i te):=PS.imp (ps_set hN hi hx he hs hf) fun D σ H hx=>du hx fun Hs ρ tot E sr h k1 k2 k3 k4=>by
 refine ⟨Hs,ρ,tot,_,sr,h,fun v H1 Hs1 m d As g1 r1 f1 q1=>?_⟩
 obtain ⟨a,q1⟩:=q1
 obtain ⟨tot',s'⟩:=((sr.grow g1).dD a).set i (m:=.sh) (As:=[]) ⟨rfl,r1.rep g1.wf⟩ xay (fun _ m=>nomatch m) rfl
 exact k1 _ H1 H1 _ tot' (g1.sh.trans g1.wf.sub) s' q1
end
def uc (i:Nat) (sp:SpD) (t:WA):WS:=fun E ρ=>t ρ fun ps=>sp (ps.map (·.2)) fun m d=>xch m d (fun n=>E.rt (.ow false) (.str n)) (onK (m,d) (f:=fun p=>dD ρ=true/\E.nx (ρ.set i (some (.sh p.2)))) ⟨⟩)
section
variable {X:Cx} {K:PySem.W.Frag} {rn:List Str} {E:XK} {pos p cpos:Pos} {e:Expr} {es:List Expr} {t:WA} {k:Nat} {x:Str} {ps:List Str} {sp:SpD}
theorem vd (C:CalX X.prog X.w X.K X.mg X.base rn k x ps sp) (hr:Room k X.A) (hx:Passes (CXx X.prog X.w X.mg rn) X E) (hN:X.N.Nodup) (hi:X.N[i]? = some y) (hy:Loc X.env.scope y) (ha:QA X K (e :: es) t) (hs:swapsWith (.Call (.Name x p) (e :: es) [] cpos) (some (.Name y pos')) pos.line X.env=pure false:=by rfl)
  (hf:X.fn y=true\/X.env.scope.names.lookup y=some .local:=by first | exact .inl rfl | exact .inr rfl | assumption) (hK:X.K=K:=by rfl) (hg:Gl X x:=by rfl) (hdb:(x == ("__debug__" : Str))=false:=by decide) (he:starEach (e :: es) X.env=(false,eval e X.env) :: starEach es X.env:=by rfl)
  (hpl:(backTo cpos (starEach es X.env)).any (·.1)=false:=by rfl):QS X K (LX rn X.mg E) (.Assign [.Name y pos'] (.Call (.Name x p) (e :: es) [] cpos) pos) (uc i sp t):=by
 subst hK
 refine PS.imp (ps_set hN hi hy (m8 C hr hx ha hg hdb he hpl) hs hf) fun D σ H hx=>cY hx fun Hs ρ tot E' sr h k1 k2 k3 k4 kx=>fZ (Q:=fun _ d=>dD ρ=true/\E'.nx (ρ.set i (some (.sh d)))) sr h (fun v H1 Hs1 m d As g1 r1 f1 q1=>?_) kx
 obtain ⟨a,q1⟩:=q1
 obtain ⟨tot',s'⟩:=((sr.grow g1).dD a).set i (m:=.sh) (As:=[]) ⟨rfl,r1.rep g1.wf⟩ xay (fun _ m=>nomatch m) rfl
 exact k1 _ H1 H1 _ tot' (g1.sh.trans g1.wf.sub) s' q1
end
end L2.Q
namespace L2.Q.R
open PySem PySem.Spec PyProof.Rows L2.Q
theorem Ex:qX i te E ρ=te ρ fun _ d=>onK d (f:=fun d=>dD ρ=true/\E.nx (ρ.set i (some (.sh d)))) ⟨⟩:=rfl
theorem Dc:uc i sp tar E ρ=tar ρ fun ps=>sp (ps.map (·.2)) fun m d=>xch m d (fun n=>E.rt (.ow false) (.str n)) (onK d (f:=fun d=>dD ρ=true/\E.nx (ρ.set i (some (.sh d)))) ⟨⟩):=rfl
theorem Ce:dD (none :: ρ)=dD ρ:=rfl
theorem Dr:dD (some (.sh d) :: ρ)=dD ρ:=rfl
theorem Dl:dD []=true:=rfl
end L2.Q.R
namespace L2.Q
open PySem PySem.Spec PyProof.Rows
namespace R
theorem Ey:fNe m (.bl i) m' (.bl j) Q=Q .sh (.bl (!decide (i=j))):=rfl
end R
end L2.Q
local macro_rules | `(tactic| walk_at "q") => do
 let nm (s:String):Lean.Ident:=Lean.mkIdent ((s.splitOn ".").foldl Lean.Name.mkStr .anonymous)
 let ds ← ("Eh H_ Fe Gn DR Ep G6 Hk CG BK Fl Gi Gf Fp Gr Eu Gx Eb Gk Gu FN Hx Dm HF Hg G5 HB Hy wSd_ Ht G4 Ih Gb Gq G7 Ia Gd Fj Am DW BR Dz GZ Fg wB_ GC Ig HH wOr_ GJ Ie Dw DN wC_ wOp_ wUn_ CN FW GF Ex Dc Ec HX G3 HQ Ga C_ DK CT CQ Du Ds D_ CW Dd En Ff Em FJ Er Ed El Gm Hn Ha HR Ez Et Hb Gv G9 Ib FZ Ea Eo Gh Hv Ey Ft Gz Ik Hz Hc Ij Hm Ho G_ HN Hl Hf Fx Fo F_ Ew Gg GR Dv Dt Cr wSl_ BW Ej Fy GQ Hh G8 Gp CZ wpN_ BV GX Dh Cv Hr Hu Fq Hj Ck Ef Fz Fv CK BX BL BJ gN_ gT_ Es HJ Fd Ei Fb Dn BP wD1_ Gy Ca BZ Dk CP Df DP GK Ii Gw FQ Fw EY Hq Hw GD Hi Fi Ek wFz_ Eg Gj".splitOn " ").toArray.mapM fun s=>`(Lean.Parser.Tactic.simpLemma| ↓$(nm ("L2.Q.R." ++ s)):ident)
 let us ← ("L2.Q.R.Ce L2.Q.R.Dr L2.Q.R.Dl L2.Q.movS L2.Q.outM L2.Q.nM L2.Q.zm L2.Q.okSh L2.Q.okOw L2.Q.okFl L2.Q.retM L2.Q.Cj L2.Q.frzE L2.Q.shS L2.Q.shC L2.Q.jF L2.Q.xW L2.Q.asg L2.Q.itm L2.Q.bj L2.Q.D.flat L2.Q.flats L2.Q.D.isN L2.Q.D.ty L2.Q.truD L2.Q.D.key1 L2.Q.cO L2.Q.pF L2.Q.E_ List.length_map List.map_cons List.map_nil List.length_cons List.length_nil List.replicate_succ List.replicate_zero List.cons_append List.nil_append List.append_nil List.getElem?_cons_zero List.getElem?_cons_succ List.getElem?_nil List.set_cons_zero List.set_cons_succ List.all_cons List.all_nil Option.some.injEq Option.join_some Option.map_some Option.map_none Nat.reduceAdd Nat.reduceSub true_and and_true Bool.and_true Bool.true_and Bool.and_false Bool.false_and Bool.not_true Bool.not_false Bool.false_eq_true if_true if_false decide_true decide_false reduceIte cond_true cond_false PySem.sizeLine_eq L2.Q.atI0 L2.Q.atI1 L2.Q.atI2 L2.Q.bu L2.Q.zx L2.Q.empty_app Nat.zero_add exists_eq_left' Int.reduceLT Int.reduceLE Int.reducePow Int.reduceNeg Int.reduceToNat Int.reduceAdd Int.reduceMul Int.reduceSub Nat.reduceLeDiff Nat.reduceLT false_or or_false and_self L2.Hd".splitOn " ").toArray.mapM fun s=>`(Lean.Parser.Tactic.simpLemma| $(nm s):ident)
 let as:Lean.TSyntaxArray [`Lean.Parser.Tactic.simpStar,`Lean.Parser.Tactic.simpErase,`Lean.Parser.Tactic.simpLemma]:=(ds++us).map fun x=>⟨x.raw⟩
 `(tactic| simp -dsimp only [$as,*])
local macro_rules | `(tactic| walk_at "o") => `(tactic| repeat (refine And.intro (by first | omega | exact ⟨by omega, by omega⟩ | decide) ?_))
namespace L2.Q.Law
open PySem PySem.Spec PyProof.Rows
theorem small {n:Nat} (h:n<=10000):n<=sizeLine:=xaA h (by decide)
theorem Bb {n:Nat} (h:n<=10000):n<sizeLine:=xcc h (by decide)
def isLet (c:Nat):Bool:=decide (97<=c/\c<=122)
abbrev abc:Str := "abcdefghijklmnopqrstuvwxyz"
theorem pY:sg abc=(List.range 26).map (97 + ·):=by decide +kernel
theorem Bh {i:Int} (h0:0<=i) (h1:i<26):∃ c,atI (sg abc) i=some c/\isLet c=true:=by
 refine ⟨97+i.toNat,?_,?_⟩
 ·have:atI (sg abc) ((i.toNat:Nat):Int)=some (97+i.toNat):=atI_nat (by
   rw [pY]
   have:i.toNat<26:=by lia
   simp [this])
  rwa [xcb h0] at this
 ·simp [isLet]; lia
theorem ni (x:Int):∃ c,atI (sg abc) (x % 26)=some c/\isLet c=true:=Bh (xaM _ (by decide)) (xaJ _ (by decide))
def lets (x:Str):Prop:=∀ c∈sg x,isLet c=true
def Open (x:Str):Prop:=1<=x.length/\x.length<=6/\lets x
def Deed (x:Str):Prop:=x = "*"\/Open x
theorem gQ {x y:Str} (hx:lets x) (hy:lets y):lets (x++y):=fun c hc=>by
 rw [wQ] at hc
 exact (xag.mp hc).elim (hx c) (hy c)
theorem fJ {c:Nat} (h:isLet c=true):lets ⟨#[c]⟩:=fun d hd=>by
 have:d=c:=by simpa [sg] using hd
 rw [this]; exact h
theorem oK {x:Str} (h:lets x) (lo hi:Option Int):lets (cutS x lo hi):=fun c hc=>by
 unfold cutS sg at hc
 rw [List.toList_toArray] at hc
 exact h c (xb4 (xbz hc))
theorem aH (c:Nat):(⟨#[c]⟩:Str).length=1:=rfl
theorem Deed.ok {x:Str} (h:Deed x):PyData.strOk x=true:=by
 rw [xY]
 rcases h with rfl | h
 ·have:sg "*" = [42]:=by decide +kernel
  intro c hc
  rw [this] at hc
  have:c=42:=by simpa using hc
  lia
 ·intro c hc
  have:=h.2.2 c hc
  simp [isLet] at this
  lia
abbrev Stp:=Int × Str × Int
def stpK (s:Stp):List Key:=[.inl s.1,.inr s.2.1,.inl s.2.2]
def stpD (s:Stp):D:=.tup [.int s.1,.str s.2.1,.int s.2.2]
def mD (many:Int) (steps:List Stp):D:=.tup [.int many,.list (steps.map stpD)]
theorem cP:∀ (l:List Stp),flats (l.map stpD)=true
 | []=>rfl
 | x :: l=>by simp [flats,cP l,stpD,D.flat]
def StOk (many:Int) (s:Stp):Prop:=0<=s.1/\s.1<many/\Deed s.2.1/\0<=s.2.2/\s.2.2<many
theorem wR {many:Int} {s:Stp} (n:Nat) (h:StOk many s):okD (n+1) (stpD s)=true:=by
 have:=h.2.2.1.ok
 simp [okD,stpD,this]
theorem rE {many:Int} {l:List Stp} (n:Nat) (h:∀ s∈l,StOk many s):okD (n+2) (.list (l.map stpD))=true:=by
 simp only [okD,List.all_map,xbB]
 intro s hs
 exact wR n (h s hs)
theorem m_ok {many:Int} {l:List Stp} (n:Nat) (h:∀ s∈l,StOk many s):okD (n+3) (mD many l)=true:=by
 have h2:=rE n h
 show (okD (n+2) (.int many) && (okD (n+2) (.list (l.map stpD)) && true))=true
 rw [h2]
 rfl
theorem tG:∀ (l:List Stp),nbs (l.map stpD)=true
 | []=>rfl
 | x :: l=>by simp [nbs,tG l,stpD,D.nb]
theorem nb_m (many:Int) (l:List Stp):(mD many l).nb=true:=by simp [mD,D.nb,nbs,tG]
theorem eq_self {x:D} (h:x.nb=true):eqD x x=true:=(ou x x h h).mpr rfl
theorem vp {s t:Stp} (h:stpD s=stpD t):s=t:=by
 obtain ⟨a,b,c⟩:=s
 obtain ⟨a',b',c'⟩:=t
 simp [stpD] at h
 obtain ⟨rfl,rfl,rfl⟩:=h
 rfl
def ltP (s t:Stp):Bool:=ltK (stpK s) (stpK t)
theorem sE {P:Stp->Prop}:∀ {ks:List (List Key)},(∀ k∈ks,∃ s,k=stpK s/\P s)->∃ l:List Stp,ks=l.map stpK/\∀ s∈l,P s
 | [],_=>⟨[],rfl,fun s h=>nomatch h⟩
 | k :: ks,h=>by
  obtain ⟨s,rfl,p⟩:=h k xad
  obtain ⟨l,rfl,q⟩:=sE fun k hk=>h k (xac _ hk)
  refine ⟨s :: l,rfl,fun t ht=>?_⟩
  rcases xam.mp ht with rfl | ht
  ·exact p
  ·exact q t ht
abbrev Kn:=List (List Key × D)
def StD (P:Stp->Prop) (kvs:Kn):Prop:=(∀ p∈kvs,∃ s,p.1=stpK s/\P s)/\(kvs.map (·.1)).Nodup
theorem uK {κ β:Type} [DecidableEq κ] (kvs:List (κ × β)) (k:κ) (v:β):(putG kvs k v).map (·.1)=if k∈kvs.map (·.1) then kvs.map (·.1) else kvs.map (·.1)++[k]:=by
 unfold putG
 by_cases h:k∈kvs.map (·.1)
 ·have:(kvs.any fun kv=>decide (kv.1=k))=true:=by
   obtain ⟨p,hp,e⟩:=xaE.mp h
   exact xb1.mpr ⟨p,hp,decide_eq_true e⟩
  rw [if_pos this,if_pos h,xaQ]
  apply xbH
  intro p _
  show (if p.1=k then (p.1,v) else p).1=p.1
  split <;> rfl
 ·have:¬ (kvs.any fun kv=>decide (kv.1=k))=true:=by
   intro z
   obtain ⟨p,hp,e⟩:=xb1.mp z
   exact h (xaE.mpr ⟨p,hp,of_decide_eq_true e⟩)
  rw [if_neg this,if_neg h,xa0]
  rfl
theorem StD.put {P:Stp->Prop} {kvs:Kn} {s:Stp} {d:D} (h:StD P kvs) (hs:P s):StD P (putG kvs (stpK s) d):=by
 refine ⟨fun p hp=>?_,?_⟩
 ·rcases gU hp with e | e
  ·exact ⟨s,e,hs⟩
  ·obtain ⟨q,hq,e⟩:=xaE.mp e
   rw [<- e]
   exact h.1 q hq
 ·rw [uK]
  split
  ·exact h.2
  ·rename_i hn
   exact xak.mpr ⟨h.2,by simp,fun a ha b hb e=>by
    have:b=stpK s:=by simpa using hb
    subst this; subst e; exact hn ha⟩
theorem StD.nil {P:Stp->Prop}:StD P []:=⟨(fun p hp=>nomatch hp),xay⟩
theorem StD.sorted {P:Stp->Prop} {kvs:Kn} (h:StD P kvs) {Q:Md->D->Prop} (k:∀ steps:List Stp,(steps.map stpK).Perm (kvs.map (·.1))->(∀ s∈steps,P s)->steps.Pairwise (fun a b=>ltP a b=true)->steps.length=kvs.length->Q (.ow true) (.list (steps.map stpD))) :
  pF (.ow true) (.list (kvs.map fun kv=>.tup (kv.1.map keyD))) Q:=by
 refine ⟨kvs.map (·.1),[false,true],by rw [xaQ]; rfl,fun k hk=>?_,fun ms pm pw=>?_⟩
 ·obtain ⟨p,hp,rfl⟩:=xaE.mp hk
  obtain ⟨s,e,_⟩:=h.1 p hp
  rw [e]; rfl
 ·obtain ⟨l,rfl,hl⟩:=sE (P:=P) (ks:=ms) fun k hk=>by
   obtain ⟨p,hp,e⟩:=xaE.mp (pm.mem_iff.mp hk)
   rw [<- e]
   exact h.1 p hp
  have e:(l.map stpK).map keyT=l.map stpD:=by rw [xaQ]; rfl
  rw [e]
  refine k l pm hl ?_ (by have:=pm.length_eq; simpa using this)
  have nd:(l.map stpK).Nodup:=pm.nodup_iff.mpr h.2
  rw [xbQ] at pw
  have nd':l.Pairwise fun a b=>stpK a≠stpK b:=by
   rw [List.Nodup,xbQ] at nd
   exact nd
  refine (pw.and nd').imp fun {a b} ⟨h1,h2⟩=>?_
  unfold ltP
  cases h3:ltK (stpK a) (stpK b) with
  | true=>rfl
  | false=>exact absurd (oJ (a:=stpK a) (b:=stpK b) rfl h3 h1) h2
theorem iH:∀ (l:List Str),flats (l.map D.str)=true
 | []=>rfl
 | x :: l=>by simp [flats,iH l,D.flat]
theorem lU:∀ (l:List Int),flats (l.map D.int)=true
 | []=>rfl
 | x :: l=>by simp [flats,lU l,D.flat]
theorem lz {n i:Nat} {lo:Int} {x:D} (h:(gF lo n)[i]? = some x):i<n/\x=.int (lo+(i:Nat)):=by
 unfold gF at h
 rw [xaK] at h
 by_cases hi:i<n
 ·rw [List.getElem?_range hi] at h
  exact ⟨hi,(Option.some.inj h).symm⟩
 ·rw [xbx (by simpa using hi)] at h
  cases h
theorem qd (lo:Int) (n:Nat):(gF lo n).length=n:=by simp [gF]
theorem xj {names:List Str} {i:Int} (h0:0<=i) (h1:i<names.length):∃ n,n∈names/\atI (names.map D.str) i=some (.str n):=by
 have hn:i.toNat<names.length:=by lia
 refine ⟨names[i.toNat],xcj hn,?_⟩
 have:=atI_nat (xs:=names.map D.str) (j:=i.toNat) (v:=.str names[i.toNat]) (by simp [hn])
 rwa [xcb h0] at this
theorem name_mod {names:List Str} (x:Int) (h:1<=names.length):∃ n,n∈names/\atI (names.map D.str) (x % (names.length:Int))=some (.str n) :=
 xj (xaM _ (by lia)) (xaJ _ (by lia))
theorem uW (l:List Int) (lo hi:Option Int):cutG (l.map D.int) lo hi=(cutG l lo hi).map D.int:=by
 unfold cutG
 rw [xab,List.map_take,List.map_drop]
theorem cZ {α:Type} [DecidableEq α]:∀ {l m:List α},l.Nodup->(∀ x∈l,x∈m)->l.length<=m.length
 | [],_,_,_=>xao _
 | x :: l,m,nd,h=>by
  obtain ⟨hx,nd⟩:=xax.mp nd
  have hm:=h x xad
  have:=cZ (l:=l) (m:=m.erase x) nd fun y hy=>(List.mem_erase_of_ne (fun e=>by subst e; exact hx hy)).mpr (h y (xac _ hy))
  rw [List.length_erase_of_mem hm] at this
  have:=List.length_pos_of_mem hm
  simp only [xaH]
  lia
def mL (n:Nat):List Int:=(List.range n).map fun i=>((i:Nat):Int)
theorem qy (n:Nat):(mL n).length=n:=by simp [mL]
theorem qu {n:Nat} {x:Int}:x∈mL n↔0<=x/\x<n:=by
 unfold mL
 rw [xaE]
 constructor
 ·rintro ⟨i,hi,rfl⟩
  have:=xaV.mp hi
  lia
 ·intro ⟨h0,h1⟩
  exact ⟨x.toNat,xaV.mpr (by lia),by lia⟩
def StIn (many:Int) (steps:List Stp):Prop:=∀ s∈steps,StOk many s
def setK (ks:List Int):List (Key × D):=ks.map fun x=>(.inl x,.bl true)
theorem iu (ks:List Int):(setK ks).map (·.1)=ks.map fun x=>(Sum.inl x:Key):=by simp [setK,xaQ,Function.comp_def]
theorem gR (ks:List Int):(setK ks).length=ks.length:=by simp [setK]
theorem gj {ks:List Int} {x:Int}:((Sum.inl x:Key)∈ks.map fun x=>(Sum.inl x:Key))↔x∈ks:=by
 rw [xaE]
 exact ⟨fun ⟨y,hy,e⟩=>by cases e; exact hy,fun h=>⟨x,h,rfl⟩⟩
def insI (ks:List Int) (x:Int):List Int:=if x∈ks then ks else ks++[x]
theorem oE {κ β:Type} [DecidableEq κ] {kvs:List (κ × β)} {k:κ}:(kvs.any fun kv=>decide (kv.1=k))=true↔k∈kvs.map (·.1):=by
 rw [xb1,xaE]
 exact ⟨fun ⟨p,hp,e⟩=>⟨p,hp,of_decide_eq_true e⟩,fun ⟨p,hp,e⟩=>⟨p,hp,decide_eq_true e⟩⟩
theorem n8 (ks:List Int) (x:Int):putG (setK ks) (.inl x) (.bl true)=setK (insI ks x):=by
 unfold putG insI
 by_cases h:x∈ks
 ·rw [if_pos h,if_pos (oE.mpr (by rw [iu]; exact gj.mpr h))]
  unfold setK
  rw [xaQ]
  apply xbH
  intro y _
  show (if (Sum.inl y:Key)=Sum.inl x then ((Sum.inl y:Key),D.bl true) else (.inl y,.bl true))=_
  split <;> rfl
 ·rw [if_neg h,if_neg (fun z=>h (gj.mp (by rw [<- iu]; exact oE.mp z)))]
  simp [setK]
theorem kI {κ β:Type} [DecidableEq κ]:∀ {kvs:List (κ × β)} {k:κ},(getG kvs k).isSome=true↔k∈kvs.map (·.1)
 | [],k=>by simp [getG]
 | p :: kvs,k=>by
  have ih:=kI (kvs:=kvs) (k:=k)
  rw [xat,xam]
  by_cases h:p.1=k
  ·subst h; simp [getG]
  ·have:getG (p :: kvs) k=getG kvs k:=by simp [getG,h]
   rw [this,ih]
   exact ⟨.inr,fun z=>z.elim (fun e=>absurd e.symm h) id⟩
theorem get_set (ks:List Int) (x:Int):(getG (setK ks) (.inl x)).isSome=decide (x∈ks):=by
 rw [xaW,kI,iu,gj,decide_eq_true_iff]
theorem cG {ks:List Int} {x y:Int}:y∈insI ks x↔y∈ks\/y=x:=by
 unfold insI
 split
 ·rename_i h; exact ⟨.inl,fun z=>z.elim id fun e=>by subst e; exact h⟩
 ·simp
theorem jM {ks:List Int} {x:Int} (h:ks.Nodup):(insI ks x).Nodup:=by
 unfold insI
 split
 ·exact h
 ·rename_i hx
  exact xak.mpr ⟨h,by simp,fun a ha b hb e=>by
   have:b=x:=by simpa using hb
   subst this; subst e; exact hx ha⟩
inductive Rch (l:List Stp) (s:Int):Int->Prop
 | refl:Rch l s s
 | step {t:Stp}:Rch l s t.1->t∈l->t.2.1 = "*"->Rch l s t.2.2
theorem uo {l:List Stp} {s:Int} {ks:List Int} (z:s∈ks) (h:∀ t∈l,t.2.1 = "*"->t.1∈ks->t.2.2∈ks) {x:Int} (r:Rch l s x):x∈ks:=by
 induction r with
 | refl=>exact z
 | step r ht e ih=>exact h _ ht e ih
theorem ie {many:Int} {ks:List Int} (nd:ks.Nodup) (h:∀ x∈ks,0<=x/\x<many):ks.length<=many.toNat:=by
 have:=cZ (m:=mL many.toNat) nd fun x hx=>qu.mpr (by have:=h x hx; lia)
 rwa [qy] at this
def cj (l:List Stp) (s:Int) (d:Str):List Int:=(l.filter fun t=>decide (t.1=s) && decide (t.2.1=d)).map (·.2.2)
theorem fL {l:List Stp} {s:Int} {d:Str} {x:Int}:x∈cj l s d↔(s,d,x)∈l:=by
 unfold cj
 rw [xaE]
 constructor
 ·rintro ⟨⟨p,q,r⟩,ht,rfl⟩
  obtain ⟨h1,e⟩:=xb5.mp ht
  simp only [xaz,decide_eq_true_eq] at e
  rw [<- e.1,<- e.2]
  exact h1
 ·exact fun h=>⟨_,xb5.mpr ⟨h,by simp⟩,rfl⟩
theorem uN (l:List Stp) (s:Int) (d:Str):(cj l s d).length<=l.length:=by
 unfold cj
 rw [xab]
 exact List.length_filter_le _ _
def Ways (l:List Stp) (kvs:Kn):Prop:=∀ s d,getG kvs [.inl s,.inr d]=if cj l s d=[] then none else some (.list ((cj l s d).map .int))
theorem ql (k k':List Key) (x:D):∀ (kvs:Kn),getG (sdG kvs k x) k'=if k'=k then some (match getG kvs k with
  | none=>.list [x]
  | some d=>appD d x) else getG kvs k'
 | []=>by
  rw [sdG,bw]
  by_cases h:k'=k
  ·rw [if_pos h.symm,if_pos h]; rfl
  ·rw [if_neg fun e=>h e.symm,if_neg h]
 | p :: r=>by
  rw [sdG]
  by_cases e:p.1=k
  ·rw [if_pos e,bw]
   by_cases h:k'=k
   ·rw [if_pos h,h,bw p r k,if_pos e,if_pos e]
   ·rw [if_neg h,bw p r k',if_neg fun z=>h (z.symm.trans e),if_neg fun z=>h (z.symm.trans e)]
  ·rw [if_neg e,bw,ql k k' x r]
   by_cases h:k'=k
   ·rw [if_pos h,h,bw p r k,if_neg e,if_neg e,if_pos rfl]
   ·rw [if_neg h,bw p r k',if_neg h]
theorem rR (k:List Key) (x:D):∀ (kvs:Kn),(sdG kvs k x).length<=kvs.length+1
 | []=>by simp [sdG]
 | p :: r=>by
  have:=rR k x r
  rw [sdG]
  split <;> simp only [xaH] <;> lia
theorem Ways.nil:Ways [] []:=fun s d=>rfl
theorem Ways.put {l:List Stp} {kvs:Kn} (h:Ways l kvs) (p:Int) (n:Str) (r:Int):Ways (l++[(p,n,r)]) (sdG kvs [.inl p,.inr n] (.int r)):=by
 intro s d
 rw [ql]
 have ee:cj (l++[(p,n,r)]) s d=cj l s d++if p=s/\n=d then [r] else []:=by
  unfold cj
  rw [List.filter_append,xa0]
  congr 1
  by_cases e:p=s/\n=d
  ·simp [e.1,e.2]
  ·rw [if_neg e,List.filter_cons_of_neg (by simpa using e)]; rfl
 by_cases e:p=s/\n=d
 ·rw [if_pos e] at ee
  obtain ⟨rfl,rfl⟩:=e
  rw [ee,if_pos rfl,h p n,if_neg (show ¬ cj l p n++[r]=[] by simp)]
  by_cases z:cj l p n=[]
  ·rw [if_pos z,z]; rfl
  ·rw [if_neg z]; simp [appD]
 ·rw [if_neg e,xaD] at ee
  rw [ee,if_neg fun z=>e ?_,h s d]
  simp only [List.cons.injEq,Sum.inl.injEq,Sum.inr.injEq,and_true] at z
  exact ⟨z.1.symm,z.2.symm⟩
theorem qg {l:List Stp} {kvs:Kn} (h:Ways l kvs) {s:Int} {d:Str} {Q:Md->D->Prop} (q:Q .sh (.list ((cj l s d).map .int))):gotG (getG kvs [.inl s,.inr d]) .sh .sh (.list []) Q:=by
 rw [h s d]
 by_cases z:cj l s d=[]
 ·rw [if_pos z]; rw [z] at q; exact q
 ·rw [if_neg z]; exact q
def Wlk (l:List Stp) (x:Int):Int->List Stp->Prop
 | s,[]=>s=x
 | s,t :: w=>t∈l/\t.1=s/\Wlk l x t.2.2 w
def opens (w:List Stp):List Str:=(w.map (·.2.1)).filter fun d=>decide (d ≠ "*")
theorem fu (w v:List Stp):opens (w++v)=opens w++opens v:=by simp [opens]
theorem Wlk.app {l:List Stp} {x y:Int} {v:List Stp}:∀ {w:List Stp} {s:Int},Wlk l x s w->Wlk l y x v->Wlk l y s (w++v)
 | [],s,h,k=>by rw [show s=x from h]; exact k
 | t :: w,s,h,k=>⟨h.1,h.2.1,Wlk.app h.2.2 k⟩
def HW (l:List Stp) (s x:Int) (w:List Stp):Prop:=Wlk l x s w/\opens w=[]
theorem HW.snoc {l:List Stp} {s a r:Int} {w:List Stp} (h:HW l s a w) (m:((a, "*",r):Stp)∈l):HW l s r (w++[((a, "*",r):Stp)]) :=
 ⟨h.1.app (show Wlk l r a [((a, "*",r):Stp)] from ⟨m,rfl,rfl⟩),by rw [fu,h.2]; simp [opens]⟩
theorem pJ {steps:List Stp} {i:Nat} {x:D} (h:(steps.map stpD)[i]? = some x):∃ p d r,x=.tup [.int p,.str d,.int r]/\(p,d,r)∈steps/\steps.take (i+1)=steps.take i++[(p,d,r)]:=by
 rw [xaK] at h
 cases e:steps[i]? with
 | none=>rw [e] at h; cases h
 | some s =>
  rw [e] at h
  cases h
  obtain ⟨p,d,r⟩:=s
  exact ⟨p,d,r,rfl,xa6 e,by rw [xbw,e]; rfl⟩
theorem int_at {l:List Int} {i:Nat} {x:D} (h:(l.map D.int)[i]? = some x):∃ c,x=.int c/\c∈l/\l.take (i+1)=l.take i++[c]:=by
 rw [xaK] at h
 cases e:l[i]? with
 | none=>rw [e] at h; cases h
 | some s =>
  rw [e] at h
  cases h
  exact ⟨s,rfl,xa6 e,by rw [xbw,e]; rfl⟩
theorem yD {α:Type} (l:List α):l.filter (fun _=>true)=l:=List.filter_eq_self.mpr fun _ _=>rfl
def NmIn (names:List Str) (l:List Stp):Prop:=∀ t∈l,t.2.1∈names
theorem vD (a:List Stp) (b:List Stp):a.map stpD++b.map stpD=(a++b).map stpD:=by rw [xa0]
theorem ye (l:List Stp) (s:Stp):anyD (l.map stpD) (stpD s)=decide (s∈l):=by
 unfold anyD
 rw [List.any_map,xaW,xb1,decide_eq_true_iff]
 constructor
 ·rintro ⟨t,ht,e⟩
  have:stpD t=stpD s:=(ou _ _ rfl rfl).mp e
  rw [<- vp this]
  exact ht
 ·exact fun h=>⟨s,h,eq_self rfl⟩
theorem uA (w:List Stp):(opens w).length<=w.length:=by
 unfold opens
 exact xaA (List.length_filter_le _ _) (by simp)
def Come (l:List Stp) (p:Int) (d:Str) (q:Int):Prop:=if d = "*" then Rch l p q else ∃ a b,Rch l p a/\((a,d,b):Stp)∈l/\Rch l b q
structure Told (many:Int) (l:List Stp) (p:Int) (d:Str) (q:Int) (w:List Stp):Prop where
 len:(w.length:Int)<=2 * many - 1
 wk:Wlk l q p w
 op:opens w=if d = "*" then [] else [d]
def iU:WS :=
 (wSeq (wIfS (wOr (wNot (wB (wUn (fIsi "str") (wVar 0)))) (wNot (wB (jN fLe fLe (wC (.int 1)) (wUn fLen (wVar 0)) (wC (.int 6))))))
 (wRet (wC (.bl false)))
 bQ)
 (wRet (wUn fAll (rW (uR (wVar 0)) (gN 0) wYes (wOp (fIn false) (wVar 0) (wC (.str "abcdefghijklmnopqrstuvwxyz"))) 1 []))))
theorem yZ {c:Nat}:inS ⟨#[c]⟩ abc=isLet c:=by
 rw [xR]
 have:abc.cps.toList=(List.range 26).map (97 + ·):=pY
 rw [this]
 apply xaW.mpr
 simp only [decide_eq_true_eq,isLet,xaE,xaV]
 constructor
 ·rintro ⟨i,hi,rfl⟩; lia
 ·intro h; exact ⟨c - 97,by lia,by lia⟩
def b8:SpD:=fun ds Q=>∃ x:Str,ds=[.str x]/\Q .sh (.bl (decide (1<=x.length/\x.length<=6) && (sg x).all isLet))
theorem n6 (ds Q) (h:b8 ds Q):ds.length=["thing"].length:=by obtain ⟨_,rfl,_⟩:=h; rfl
theorem tM:∀ ds Q,b8 ds Q->iU { nx:=fun _=>Q .sh .non,rt:=Q } (bj 1 ds):=by
 rintro ds Q ⟨x,rfl,h⟩
 unfold iU
 walk_at "q"
 refine R.F rfl ?_
 walk_at "q"
 refine R.D (fun h1=>?_) fun h1=>?_
 ·walk_at "q"
  refine R.B (fun h2=>?_) fun h2=>?_
  rotate_left
  ·have h2:x.length<=6:=by simp at h2; lia
   walk_at "q"
   refine lN (fun _=>true) (fun d=>match d with
    | .str z=>.bl (inS z abc)
    | d=>d) (fun ρ=>∃ o,ρ=[o]) _ _ _ ⟨_,rfl⟩ ?_ ?_
   ·rintro y hy ρ ⟨o,rfl⟩ N1 N2 _ h2
    obtain ⟨c,hc,rfl⟩:=xaE.mp hy
    walk_at "q"
    exact ⟨.inl rfl,h2 _ ⟨_,rfl⟩ rfl⟩
   ·rw [yD]
    refine ⟨(sg x).map isLet,?_,?_⟩
    ·unfold sgnD
     rw [xaQ,xaQ]
     refine xbH fun c _=>?_
     show D.bl (inS ⟨#[c]⟩ abc)=_
     rw [yZ]; rfl
    ·rw [decide_eq_true (by lia),Bool.true_and] at h
     rw [List.all_map]
     exact h
  ·have h2:¬ x.length<=6:=by simp at h2; lia
   walk_at "q"
   rw [decide_eq_false (by lia),Bool.false_and] at h
   exact h
 ·walk_at "q"
  rw [decide_eq_false (by lia),Bool.false_and] at h
  exact h
def cX:WS :=
 (wIfS (wNot (wB (jN fLe fLt (wC (.int 0)) (wVar 1) (wOp fIx (wVar 0) (wC (.int 0))))))
 (pX "NoState" (wC (.str "the machine has no such state")))
 bQ)
def aL:SpD:=fun ds Q=>∃ (many:Int) (l:List Stp) (s:Int),ds=[mD many l,.int s]/\((0<=s/\s<many)->Q .sh .non)/\(¬ (0<=s/\s<many)->Q (.ow false) (.str "NoState"))
theorem gY (ds Q) (h:aL ds Q):ds.length=["m", "state"].length:=by obtain ⟨_,_,_,rfl,_⟩:=h; rfl
theorem kj:∀ ds Q,aL ds Q->cX { nx:=fun _=>Q .sh .non,rt:=Q } (bj 2 ds):=by
 rintro ds Q ⟨many,l,s,rfl,h1,h2⟩
 unfold cX mD
 walk_at "q"
 refine R.D (fun a=>?_) fun a=>?_
 ·walk_at "q"
  by_cases b:s<many
  ·refine R.F (by simp [b]) ?_
   walk_at "q"
   exact h1 ⟨a,b⟩
  ·refine R.T (by simp [b]) ?_
   walk_at "q"
   exact h2 fun z=>b z.2
 ·walk_at "q"
  exact h2 fun z=>a z.1
def g8:WS :=
 (wSeq (wSet 1 pA)
 (wSeq (wFrz 0 (wFor (fG (wOp fIx (wVar 0) (wC (.int 1)))) (gT 3 (h_ (gN 2) (h_ (gN 3) (h_ (gN 4) ue))))
 (wFrz 4 (wFrz 3 (wFrz 2 (wSd 1 (wTup (ak (wVar 2) (ak (wVar 3) wNil))) (wVar 4)))))))
 (oh 1)))
def bV:SpD:=fun ds Q=>∃ (many:Int) (l:List Stp),ds=[mD many l]/\l.length<=10000/\∀ kvs,Ways l kvs->Q (.ow true) (.dT kvs)
theorem nQ (ds Q) (h:bV ds Q):ds.length=["m"].length:=by obtain ⟨_,_,rfl,_⟩:=h; rfl
theorem uJ:∀ ds Q,bV ds Q->g8 { nx:=fun _=>Q .sh .non,rt:=Q } (bj 5 ds):=by
 rintro ds Q ⟨many,l,rfl,hz,h⟩
 unfold g8 mD
 walk_at "q"
 refine bM _ (fun i ρ=>∃ (kvs:Kn) (o2 o3 o4:Option Sl),Ways (l.take i) kvs/\kvs.length<=i/\ρ=[some (.sh (.tup [.int many,.list (l.map stpD)])),some (.ow true (.dT kvs)),o2,o3,o4]) ⟨[],_,_,_,Ways.nil,by simp,rfl⟩ ?_ ?_
 ·rintro i x ρ hx ⟨kvs,o2,o3,o4,hw,hk,rfl⟩ N hN
  have hi:=(xas.mp hx).1
  rw [xab] at hi
  obtain ⟨p,d,r,rfl,hs,et⟩:=pJ hx
  walk_at "q"
  refine ⟨by lia,?_,hN _ ⟨_,_,_,_,by rw [et]; exact hw.put p d r,by have:=rR [.inl p,.inr d] (.int r) kvs; lia,rfl⟩⟩
  rw [hw p d]
  have:=uN (l.take i) p d
  rw [xaG] at this
  split
  ·trivial
  ·show List.length _<_
   rw [xab]
   exact Bb (by lia)
 ·rintro ρ ⟨kvs,o2,o3,o4,hw,hk,rfl⟩
  rw [xab,xa3] at hw
  walk_at "q"
  exact h kvs hw
def cI:WS :=
 (wSeq (wSet 2 (wD1S (wVar 1) (wFz (wLst wNil))))
 (wSeq (wFrz 1 (wSet 3 (wLst (ak (wVar 1) wNil))))
 (wSeq (sX (wTru (wVar 3))
 (wSeq (wPop 4 (wpN 3))
 (wFrz 4 (wFor (fG (wGet (wVar 0) (wTup (ak (wVar 4) (ak (wC (.str "*")) wNil))) (wFz (wLst wNil)))) (gN 5)
 (wIfS (wB (wOp (fIn true) (wVar 5) (wVar 2)))
 (wSeq (wFrz 5 (wFrz 4 (uv (wpN 2) (wVar 5) (wFz (wOp fAdd (wOp fIx (wVar 2) (wVar 4)) (wLst (ak (wTup (ak (wVar 4) (ak (wC (.str "*")) (ak (wVar 5) wNil)))) wNil)))))))
 (wFrz 5 (wApp (wpN 3) (wVar 5))))
 bQ)))))
 (oh 2))))
structure Wk (many:Int) (l:List Stp) (s:Int) (ks:List Int) (kd:List (Key × D)):Prop where
 ek:kd.map (·.1)=ks.map fun x=>(Sum.inl x:Key)
 nd:ks.Nodup
 z:s∈ks
 r:∀ x∈ks,Rch l s x/\0<=x/\x<many
 v:∀ p∈kd,∃ (x:Int) (w:List Stp),p=(.inl x,.list (w.map stpD))/\HW l s x w/\w.length<ks.length
theorem Wk.len {many:Int} {l:List Stp} {s:Int} {ks:List Int} {kd:List (Key × D)} (w:Wk many l s ks kd) (h:many<=20):ks.length<=20/\kd.length=ks.length:=by
 refine ⟨?_,by have:=congrArg List.length w.ek; simpa using this⟩
 have:=ie w.nd fun x hx=>(w.r x hx).2
 lia
theorem Wk.get {many:Int} {l:List Stp} {s:Int} {ks:List Int} {kd:List (Key × D)} (w:Wk many l s ks kd) {x:Int} (hx:x∈ks):∃ p:List Stp,getG kd (.inl x)=some (.list (p.map stpD))/\HW l s x p/\p.length<ks.length:=by
 have:(getG kd (.inl x)).isSome=true:=kI.mpr (by rw [w.ek]; exact gj.mpr hx)
 obtain ⟨d,e⟩:=xbJ.mp this
 obtain ⟨q,hq,e'⟩:=xbr.mp e
 obtain ⟨y,p,e2,hw,hl⟩:=w.v q (List.mem_of_find?_eq_some hq)
 have hy:=List.find?_some hq
 subst e2
 obtain rfl:y=x:=by simpa using hy
 exact ⟨p,by rw [e,<- e'],hw,hl⟩
theorem Wk.has {many:Int} {l:List Stp} {s:Int} {ks:List Int} {kd:List (Key × D)} (w:Wk many l s ks kd) (x:Int):(getG kd (.inl x)).isSome=decide (x∈ks):=by
 rw [xaW,kI,w.ek,gj,decide_eq_true_iff]
theorem Wk.put {many:Int} {l:List Stp} {s:Int} {ks:List Int} {kd:List (Key × D)} (w:Wk many l s ks kd) (hin:StIn many l) {a x:Int} (ha:a∈ks) (hx:x∉ks) (ht:((a, "*",x):Stp)∈l) {p:List Stp} (hw:HW l s x p) (hp:p.length<=ks.length) :
  Wk many l s (ks++[x]) (putG kd (.inl x) (.list (p.map stpD))):=by
 have ep:putG kd (.inl x) (D.list (p.map stpD))=kd++[(.inl x,.list (p.map stpD))]:=by
  unfold putG
  rw [if_neg fun z=>hx (gj.mp (by rw [<- w.ek]; exact oE.mp z))]
 have nx:∀ b∈ks,∀ c∈[x],b≠c:=fun b hb c hc e=>by
  have:c=x:=by simpa using hc
  subst this; subst e; exact hx hb
 refine ⟨by rw [ep,xa0,w.ek]; simp,xak.mpr ⟨w.nd,by simp,nx⟩,xai _ w.z,fun y hy=>?_,fun q hq=>?_⟩
 ·rcases xag.mp hy with hy | hy
  ·exact w.r y hy
  ·have:y=x:=by simpa using hy
   subst this
   exact ⟨.step (t:=(a, "*",y)) (w.r a ha).1 ht rfl,(hin _ ht).2.2.2⟩
 ·rw [ep] at hq
  rw [xaB,xbv]
  rcases xag.mp hq with hq | hq
  ·obtain ⟨y,u,e,hw,hu⟩:=w.v q hq
   exact ⟨y,u,e,hw,by lia⟩
  ·have:q=(.inl x,.list (p.map stpD)):=by simpa using hq
   subst this
   exact ⟨x,p,rfl,hw,by lia⟩
def aG:SpD:=fun ds Q=>∃ (kvs:Kn) (s many:Int) (l:List Stp),ds=[.dT kvs,.int s]/\Ways l kvs/\StIn many l/\many<=20/\(0<=s/\s<many) /\
 ∀ (kd:List (Key × D)) (ks:List Int),Wk many l s ks kd->(∀ x,x∈ks↔Rch l s x)->Q (.ow false) (.dK kd)
theorem gG (ds Q) (h:aG ds Q):ds.length=["ways", "state"].length:=by obtain ⟨_,_,_,_,rfl,_⟩:=h; rfl
theorem jz:∀ ds Q,aG ds Q->cI { nx:=fun _=>Q .sh .non,rt:=Q } (bj 6 ds):=by
 rintro ds Q ⟨kvs,s,many,l,rfl,hw,hin,hm,hs,h⟩
 unfold cI
 walk_at "q"
 refine ⟨fun ρ=>∃ (ks wait:List Int) (kd:List (Key × D)) (o4 o5:Option Sl),Wk many l s ks kd/\(∀ x∈wait,x∈ks)/\wait.length<=ks.length/\(∀ t∈l,t.2.1 = "*"->t.1∈ks->t.1∉wait->t.2.2∈ks) /\
   ρ=[some (.sh (.dT kvs)),some (.sh (.int s)),some (.ow false (.dK kd)),some (.ow true (.list (wait.map .int))),o4,o5],
  fun ρ=>match ρ with
   | [_,_,some (.ow _ (.dK kd)),some (.ow _ (.list w)),_,_]=>2 * (20 - kd.length)+w.length
   | _=>0,⟨[s],[s],[(.inl s,.list [])],none,none,⟨rfl,by simp,by simp,fun x hx=>?_,fun p hp=>?_⟩,by simp,by simp,fun t _ _ e hn=>absurd (by simpa using e) (by simpa using hn),rfl⟩,?_⟩
 ·have:x=s:=by simpa using hx
  subst this; exact ⟨.refl,hs⟩
 ·have:p=(.inl s,.list []):=by simpa using hp
  subst this; exact ⟨s,[],rfl,⟨rfl,rfl⟩,by simp⟩
 rintro ρ ⟨ks0,wait,kd0,o4,o5,hc,hwt,hwl,hcl,rfl⟩
 have hkl:=hc.len hm
 walk_at "q"
 by_cases hne:wait=[]
 ·subst hne
  rw [if_neg (by simp)]
  exact h kd0 ks0 hc fun x=>⟨fun hx=>(hc.r x hx).1,uo hc.z fun t ht e hm=>hcl t ht e hm (by simp)⟩
 ·obtain ⟨w0,st,rfl⟩:∃ w0 st,wait=w0++[st]:=⟨wait.dropLast,wait.getLast hne,(List.dropLast_concat_getLast hne).symm⟩
  rw [if_pos (by simp)]
  refine ⟨.int st,by simp,rfl,?_⟩
  walk_at "q"
  rw [show (List.map D.int (w0++[st])).dropLast=w0.map D.int by simp]
  simp only [xaB,xbv] at hwl ⊢
  refine qg hw ⟨trivial,?_⟩
  walk_at "q"
  refine bM _ (fun i ρ=>∃ (ks wait:List Int) (kd:List (Key × D)) (o5:Option Sl),Wk many l s ks kd/\st∈ks/\(∀ x∈wait,x∈ks)/\wait.length+1<=ks.length/\(∀ t∈l,t.2.1 = "*"->t.1∈ks->t.1∉wait->t.1≠st->t.2.2∈ks)/\(∀ x∈(cj l st "*").take i,x∈ks) /\
   2 * (20 - ks.length)+wait.length<2 * (20 - ks0.length)+(w0.length+1) /\
   ρ=[some (.sh (.dT kvs)),some (.sh (.int s)),some (.ow false (.dK kd)),some (.ow true (.list (wait.map .int))),some (.sh (.int st)),o5])
   ⟨ks0,w0,kd0,_,hc,hwt st (by simp),fun x hx=>hwt x (by simp [hx]),by lia,fun t ht e h1 h2 h3=>hcl t ht e h1 (by simp [h2,h3]),by simp,by lia,rfl⟩ ?_ ?_
  ·rintro i x ρ hx ⟨ks,wait,kd,o5,hc,hst,hw',hwl,hcl,hdn,hmu,rfl⟩ N hN
   obtain ⟨r,rfl,hr,et⟩:=int_at hx
   have hkl:=hc.len hm
   walk_at "q"
   by_cases hr':r∈ks
   ·refine R.F (by rw [hc.has]; simp [hr']) ?_
    walk_at "q"
    refine hN _ ⟨ks,wait,kd,_,hc,hst,hw',hwl,hcl,fun x hx=>?_,hmu,rfl⟩
    rw [et] at hx
    rcases xag.mp hx with hx | hx
    ·exact hdn x hx
    ·have:x=r:=by simpa using hx
     rw [this]; exact hr'
   ·refine R.T (by rw [hc.has]; simp [hr']) ?_
    walk_at "q"
    obtain ⟨p,ep,hpw,hp⟩:=hc.get hst
    refine ⟨_,_,rfl,ep,?_⟩
    walk_at "q"
    have e1:p.map stpD++[D.tup [.int st,.str "*",.int r]]=(p++[((st, "*",r):Stp)]).map stpD:=by simp [stpD]
    have hc':=hc.put hin hst hr' (fL.mp hr) (p:=p++[((st, "*",r):Stp)]) (hpw.snoc (fL.mp hr)) (by simp; lia)
    have hkl':=hc'.len hm
    rw [xaB,xbv] at hkl'
    refine ⟨by lia,.inl ⟨cP p,?_⟩⟩
    rw [e1]
    refine ⟨by lia,by lia,?_⟩
    rw [show wait.map D.int++[D.int r]=(wait++[r]).map D.int by simp]
    refine hN _ ⟨ks++[r],wait++[r],_,_,hc',by simp [hst],fun x hx=>?_,by simp; lia,fun t ht e h1 h2 h3=>?_,fun x hx=>?_,by simp; lia,rfl⟩
    ·rcases xag.mp hx with hx | hx
     ·simp [hw' x hx]
     ·simp at hx; simp [hx]
    ·simp only [xag,xaY,not_or] at h1 h2 ⊢
     rcases h1 with h1 | h1
     ·exact .inl (hcl t ht e h1 h2.1 h3)
     ·exact absurd h1 h2.2
    ·rw [et] at hx
     rcases xag.mp hx with hx | hx
     ·simp [hdn x hx]
     ·have:x=r:=by simpa using hx
      simp [this]
  ·rintro ρ ⟨ks,wait,kd,o5,hc,hst,hw',hwl,hcl,hdn,hmu,rfl⟩
   rw [xab,xa3] at hdn
   have hkl2:=hc.len hm
   refine ⟨⟨ks,wait,kd,_,_,hc,hw',by lia,fun t ht e h1 h2=>?_,rfl⟩,by simp; lia⟩
   by_cases e':t.1=st
   ·refine hdn _ (fL.mpr ?_)
    obtain ⟨p,d,r⟩:=t
    simp only at e e' ⊢
    subst e; subst e'
    exact ht
   ·exact hcl t ht e h1 h2 e'
def cH:WS :=
 (wSeq (wIfS (wB (wOp fLt (wVar 1) (wUn fLen (wVar 0))))
 (wRet (wOp fIx (wVar 0) (wVar 1)))
 bQ)
 (wRet (wC (.int 0))))
def aD:SpD:=fun ds Q=>∃ (ns:List Int) (k:Int),ds=[.list (ns.map .int),.int k]/\0<=k/\Q .sh (.int (ns.getD k.toNat 0))
theorem gM (ds Q) (h:aD ds Q):ds.length=["_law_script", "_law_k"].length:=by obtain ⟨_,_,rfl,_⟩:=h; rfl
theorem jx:∀ ds Q,aD ds Q->cH { nx:=fun _=>Q .sh .non,rt:=Q } (bj 2 ds):=by
 rintro ds Q ⟨ns,k,rfl,hk,h⟩
 unfold cH
 walk_at "q"
 refine R.D (fun hl=>?_) fun hl=>?_
 ·walk_at "q"
  have hn:k.toNat<ns.length:=by lia
  refine ⟨.int ns[k.toNat],?_,?_⟩
  ·have:=atI_nat (xs:=ns.map D.int) (j:=k.toNat) (v:=.int ns[k.toNat]) (by simp [hn])
   rwa [xcb hk] at this
  ·show Q .sh _; simpa [List.getD,hn] using h
 ·walk_at "q"
  have:ns.getD k.toNat 0=0:=by
   have:ns.length<=k.toNat:=by lia
   simp [List.getD,xbx this]
  rwa [this] at h
def dF:WS :=
 (wSeq (wSet 1 (wC (.str "abcdefghijklmnopqrstuvwxyz")))
 (wSeq (wSet 2 (wOp fAdd (wOp fIx (wVar 1) (wOp fMod (wOp fDiv (wVar 0) (wC (.int 4))) (wC (.int 26)))) (wOp vo (wOp fIx (wVar 1) (wOp fMod (wOp fDiv (wVar 0) (wC (.int 104))) (wC (.int 26)))) (wOp fMod (wOp fDiv (wVar 0) (wC (.int 2704))) (wC (.int 5))))))
 (wSeq (wIfS (wB (wOp fEq (wOp fMod (wOp fDiv (wVar 0) (wC (.int 13520))) (wC (.int 4))) (wC (.int 1))))
 (wRet (wOp fAdd (wLst (ak (wC (.str "*")) wNil)) (rW (iI (wOp fAdd (wC (.int 1)) (wOp fMod (wVar 0) (wC (.int 6))))) (gN 0) wYes (wOp fAdd (wOp fIx (wVar 3) (wOp fMod (wOp fAdd (wOp fDiv (wVar 2) (wC (.int 4))) (wOp fMul (wC (.int 3)) (wVar 0))) (wC (.int 26)))) (wSl (wVar 1) (lQ (wC (.int 1))) gZ)) 1 [2,0,1])))
 bQ)
 (wFrz 2 (wRet (wSl (wLst (ak (wC (.str "*")) (ak (wVar 2) (ak (wOp fAdd (wVar 2) (wC (.str "a"))) (ak (wOp fAdd (wC (.str "b")) (wSl (wVar 2) (lQ (wC (.int 1))) gZ)) wNil))))) gZ (lQ (wOp fAdd (wC (.int 1)) (wOp fMod (wVar 0) (wC (.int 4)))))))))))
def bz:SpD:=fun ds Q=>∃ c:Int,ds=[.int c]/\∀ names:List Str,1<=names.length->names.length<=7->(∀ n∈names,Deed n)->Q (.ow true) (.list (names.map .str))
theorem jr (ds Q) (h:bz ds Q):ds.length=["_law_cell"].length:=by obtain ⟨_,rfl,_⟩:=h; rfl
theorem uZ {x:Str} (h:lets x) (n:Int):lets (repS n x):=fun c hc=>by
 unfold repS sg at hc
 rw [List.toList_toArray] at hc
 obtain ⟨y,hy,hc⟩:=List.mem_flatten.mp hc
 rw [List.eq_of_mem_replicate hy] at hc
 exact h c hc
theorem mH:∀ ds Q,bz ds Q->dF { nx:=fun _=>Q .sh .non,rt:=Q } (bj 3 ds):=by
 rintro ds Q ⟨c,rfl,h⟩
 unfold dF
 walk_at "q"
 obtain ⟨c1,e1,l1⟩:=ni (c / 4)
 obtain ⟨c2,e2,l2⟩:=ni (c / 104)
 have h5:=xaM (c / 2704) (show (5:Int)≠0 by decide)
 have h5':=xaJ (c / 2704) (show (0:Int)<5 by decide)
 generalize c / 2704 % 5=k at *
 refine ⟨c1,e1,c2,e2,?_⟩
 have hl:(⟨#[c1]⟩++repS k ⟨#[c2]⟩:Str).length=1+k.toNat:=by rw [bu,lJ,aH,aH]; lia
 have hb:lets (⟨#[c1]⟩++repS k ⟨#[c2]⟩:Str):=gQ (fJ l1) (uZ (fJ l2) k)
 have hr:(repS k ⟨#[c2]⟩).length=k.toNat:=by rw [lJ,aH]; lia
 have ha:("a" : Str)=⟨#[97]⟩:=by decide +kernel
 have hbb:("b" : Str)=⟨#[98]⟩:=by decide +kernel
 rw [hr,aH,aH]
 refine ⟨⟨h5,by lia,by lia⟩,by lia,?_⟩
 generalize (⟨#[c1]⟩++repS k ⟨#[c2]⟩:Str)=base at *
 have hc:=oN base (some 1) none
 refine R.D (fun e4=>?_) fun e4=>?_
 ·walk_at "q"
  refine ⟨by lia,by lia,?_⟩
  refine mV (fun n out=>∃ ws:List Str,out=ws.map .str/\ws.length=n/\∀ w∈ws,Deed w) (fun ρ=>∃ o,ρ=[o,some (.sh (.str base)),some (.sh (.int c)),some (.sh (.str abc))]) _ 0 [] _ _ ⟨_,rfl⟩ ⟨[],rfl,rfl,fun w hw=>nomatch hw⟩ ?_ ?_
  ·rintro j y hy ρ ⟨o,rfl⟩ out ⟨ws,rfl,hwl,hw⟩ N1 N2 hN2
   obtain ⟨hj,rfl⟩:=lz hy
   walk_at "q"
   obtain ⟨ch,ec,lc⟩:=ni (c / 4+3 * (0+(j:Nat)))
   refine ⟨.inr ⟨by lia,by lia⟩,ch,ec,?_⟩
   rw [aH]
   refine ⟨by lia,.inl rfl,hN2 _ _ ⟨_,rfl⟩ ⟨ws++[⟨#[ch]⟩++cutS base (some 1) none],by simp,by simp [hwl],fun w hw'=>?_⟩⟩
   rcases xag.mp hw' with hw' | hw'
   ·exact hw w hw'
   ·rw [xaY.mp hw']
    exact .inr ⟨by rw [bu,aH]; lia,by rw [bu,aH]; lia,gQ (fJ lc) (oK hb _ _)⟩
  rintro out ⟨ws,e,hwl,hw⟩
  simp only [List.nil_append] at e
  subst e
  rw [qd] at hwl
  refine ⟨by simp; lia,.inl ⟨iH ws,h ("*" :: ws) (by simp) (by simp; lia) fun n hn=>?_⟩⟩
  rcases xam.mp hn with rfl | hn
  ·exact .inl rfl
  ·exact hw n hn
 walk_at "q"
 rw [ha,hbb,aH,aH]
 refine ⟨by lia,by lia,.inl ?_⟩
 have d1:Deed base:=.inr ⟨by lia,by lia,hb⟩
 have d2:Deed (base ++ ⟨#[97]⟩):=.inr ⟨by rw [bu,aH]; lia,by rw [bu,aH]; lia,gQ hb (fJ rfl)⟩
 have d3:Deed (⟨#[98]⟩++cutS base (some 1) none):=.inr ⟨by rw [bu,aH]; lia,by rw [bu,aH]; lia,gQ (fJ rfl) (oK hb _ _)⟩
 have h4:=xaM c (show (4:Int)≠0 by decide)
 have h4':=xaJ c (show (0:Int)<4 by decide)
 have all:∀ ns:List Str,ns <+: ["*",base,base ++ ⟨#[97]⟩,⟨#[98]⟩++cutS base (some 1) none]->1<=ns.length->ns.length<=4->Q (.ow true) (.list (ns.map .str)):=fun ns hp a b=>h ns a (by lia) fun n hn=>by
  have:=hp.subset hn
  simp only [xam,xbo,or_false] at this
  rcases this with rfl | rfl | rfl | rfl
  ·exact .inl rfl
  ·exact d1
  ·exact d2
  ·exact d3
 rcases (show c % 4=0\/c % 4=1\/c % 4=2\/c % 4=3 by lia) with e | e | e | e
 ·rw [e]; exact all ["*"] ⟨_,rfl⟩ (by simp) (by simp)
 ·rw [e]; exact all ["*",base] ⟨_,rfl⟩ (by simp) (by simp)
 ·rw [e]; exact all ["*",base,base ++ ⟨#[97]⟩] ⟨_,rfl⟩ (by simp) (by simp)
 ·rw [e]; exact all ["*",base,base ++ ⟨#[97]⟩,⟨#[98]⟩++cutS base (some 1) none] ⟨[],rfl⟩ (by simp) (by simp)
def di:WS :=
 (wSeq (wSet 2 pP)
 (wSeq (wFrz 1 (vR (wVar 1) (gN 3)
 (kW (wpN 2) (wVar 3) (wC (.bl true)))))
 (wSeq (wFor (iI (wOp fIx (wVar 0) (wC (.int 0)))) (gN 4)
 (wFrz 0 (wFor (fG (wOp fIx (wVar 0) (wC (.int 1)))) (gN 5)
 (wIfS (wAnd (wB (wOp fEq (wOp fIx (wVar 5) (wC (.int 1))) (wC (.str "*")))) (wB (wOp (fIn false) (wOp fIx (wVar 5) (wC (.int 0))) (wVar 2))))
 (kW (wpN 2) (wOp fIx (wVar 5) (wC (.int 2))) (wC (.bl true)))
 bQ))))
 (oh 2))))
def RchS (l:List Stp) (ks0:List Int) (x:Int):Prop:=∃ s∈ks0,Rch l s x
def aP:SpD:=fun ds Q=>∃ (many:Int) (l:List Stp) (ks0:List Int),ds=[mD many l,.dK (setK ks0)]/\(1<=many/\many<=20)/\StIn many l/\ks0.Nodup/\(∀ x∈ks0,0<=x/\x<many)/\∀ ks,ks.Nodup->(∀ x,x∈ks↔RchS l ks0 x)->Q (.ow true) (.dK (setK ks))
def Clo (l:List Stp) (ks:List Int):Prop:=∀ t∈l,t.2.1 = "*"->t.1∈ks->t.2.2∈ks
structure CmS (many:Int) (l:List Stp) (ks0 ks:List Int):Prop where
 nd:ks.Nodup
 z:∀ x∈ks0,x∈ks
 r:∀ x∈ks,0<=x/\x<many
 c:∀ x∈ks,RchS l ks0 x
theorem CmS.len {many:Int} {l:List Stp} {ks0 ks:List Int} (c:CmS many l ks0 ks) (h:many<=20):ks.length<=20:=by
 have:=ie c.nd c.r
 lia
theorem Al {ks:List Int} {i:Nat} {x:D} (h:((setK ks).map fun kv=>keyD kv.1)[i]? = some x):∃ c,ks[i]? = some c/\x=.int c:=by
 unfold setK at h
 rw [xaQ,xaK] at h
 obtain ⟨c,hc,e⟩:=xbr.mp h
 exact ⟨c,hc,e.symm⟩
theorem jb (ds Q) (h:aP ds Q):ds.length=["_law_m", "_law_came"].length:=by obtain ⟨_,_,_,rfl,_⟩:=h; rfl
theorem jW:∀ ds Q,aP ds Q->di { nx:=fun _=>Q .sh .non,rt:=Q } (bj 6 ds):=by
 rintro ds Q ⟨many,l,ks0,rfl,hm,hin,hnd,hr,h⟩
 unfold di mD
 have hl0:ks0.length<=20:=by have:=ie hnd hr; lia
 walk_at "q"
 refine bM _ (fun i ρ=>∃ o3:Option Sl,ρ=[some (.sh (.tup [.int many,.list (l.map stpD)])),some (.sh (.dK (setK ks0))),some (.ow true (.dK (setK (ks0.take i)))),o3,none,none]) ⟨_,rfl⟩ ?_ ?_
 ·rintro i x ρ hx ⟨o3,rfl⟩ N hN
  obtain ⟨c,hc,rfl⟩:=Al hx
  have hi:=(xas.mp hc).1
  have et:ks0.take (i+1)=ks0.take i++[c]:=by rw [xbw,hc]; rfl
  have hn:c∉ks0.take i:=fun z=>by
   have:=List.Nodup.sublist (List.take_sublist (i+1) ks0) hnd
   rw [et] at this
   exact (xak.mp this).2.2 c z c (by simp) rfl
  walk_at "q"
  rw [n8,gR]
  refine ⟨by simp; lia,hN _ ?_⟩
  rw [et,show insI (ks0.take i) c=ks0.take i++[c] from if_neg hn]
  exact ⟨_,rfl⟩
 rintro ρ ⟨o3,rfl⟩
 rw [show ks0.take (((setK ks0).map fun kv=>keyD kv.1).length)=ks0 by rw [xab,gR,xa3]]
 walk_at "q"
 refine ⟨by lia,by lia,?_⟩
 have st:Clo l ks0\/0+1<=ks0.length:=by
  cases ks0 with
  | nil=>exact .inl fun t _ _ z=>nomatch z
  | cons a b=>exact .inr (by simp)
 refine bM _ (fun i ρ=>∃ (ks:List Int) (o4 o5:Option Sl),CmS many l ks0 ks/\(Clo l ks\/i+1<=ks.length) /\
  ρ=[some (.sh (.tup [.int many,.list (l.map stpD)])),some (.sh (.dK (setK ks0))),some (.ow true (.dK (setK ks))),o3,o4,o5]) ⟨ks0,_,_,⟨hnd,fun _ h=>h,hr,fun x hx=>⟨x,hx,.refl⟩⟩,st,rfl⟩ ?_ ?_
 ·rintro i x ρ hx ⟨ks1,o4,o5,hc0,hcl0,rfl⟩ N hN
  obtain ⟨hi,rfl⟩:=lz hx
  walk_at "q"
  refine bM _ (fun j ρ=>∃ (ks:List Int) (o5:Option Sl),CmS many l ks0 ks/\(∀ x∈ks1,x∈ks)/\(Clo l ks1->∀ x∈ks,x∈ks1)/\(∀ t∈l.take j,t.2.1 = "*"->t.1∈ks1->t.2.2∈ks) /\
   ρ=[some (.sh (.tup [.int many,.list (l.map stpD)])),some (.sh (.dK (setK ks0))),some (.ow true (.dK (setK ks))),o3,some (.sh (.int (0+(i:Int)))),o5]) ⟨ks1,_,hc0,fun _ h=>h,fun _ _ h=>h,by simp,rfl⟩ ?_ ?_
  ·rintro j x ρ hx ⟨ks,o5,hc,hsub,hsup,hdn,rfl⟩ N hN
   obtain ⟨p,d,r,rfl,ht,et⟩:=pJ hx
   have hkl:=hc.len hm.2
   walk_at "q"
   have keep:(d = "*"->p∈ks1->r∈ks)->N [some (.sh (.tup [.int many,.list (l.map stpD)])),some (.sh (.dK (setK ks0))),some (.ow true (.dK (setK ks))),o3,some (.sh (.int (0+(i:Int)))),some (.sh (.tup [.int p,.str d,.int r]))]:=fun hh =>
    hN _ ⟨ks,_,hc,hsub,hsup,fun t ht e h1=>by
     rw [et] at ht
     rcases xag.mp ht with ht | ht
     ·exact hdn t ht e h1
     ·obtain rfl:t=(p,d,r):=by simpa using ht
      exact hh e h1,rfl⟩
   by_cases hd:d = "*"
   ·subst hd
    refine R.T (by simp) ?_
    walk_at "q"
    by_cases hp:p∈ks
    ·refine R.T (by rw [get_set]; simp [hp]) ?_
     walk_at "q"
     rw [n8,gR]
     walk_at "o"
     refine hN _ ⟨insI ks r,_,⟨jM hc.nd,fun x hx=>cG.mpr (.inl (hc.z x hx)),fun x hx=>?_,fun x hx=>?_⟩,fun x hx=>cG.mpr (.inl (hsub x hx)),fun hcl x hx=>?_,fun t ht e h1=>?_,rfl⟩
     ·rcases cG.mp hx with hx | rfl
      ·exact hc.r x hx
      ·exact (hin _ ht).2.2.2
     ·rcases cG.mp hx with hx | rfl
      ·exact hc.c x hx
      ·obtain ⟨s,hs,rr⟩:=hc.c p hp
       exact ⟨s,hs,.step (t:=(p, "*",x)) rr ht rfl⟩
     ·rcases cG.mp hx with hx | rfl
      ·exact hsup hcl x hx
      ·exact hcl _ ht rfl (hsup hcl p hp)
     ·rw [et] at ht
      rcases xag.mp ht with ht | ht
      ·exact cG.mpr (.inl (hdn t ht e h1))
      ·obtain rfl:t=((p, "*",r):Stp):=by simpa using ht
       exact cG.mpr (.inr rfl)
    ·refine R.F (by rw [get_set]; simp [hp]) ?_
     walk_at "q"
     exact keep fun _ h1=>absurd (hsub p h1) hp
   ·refine R.F (by simp [hd]) ?_
    walk_at "q"
    exact keep fun e=>absurd e hd
  ·rintro ρ ⟨ks,o5,hc,hsub,hsup,hdn,rfl⟩
   rw [xab,xa3] at hdn
   refine hN _ ⟨ks,_,_,hc,?_,rfl⟩
   by_cases hcl:Clo l ks1
   ·exact .inl fun t ht e h1=>hsub _ (hcl t ht e (hsup hcl _ h1))
   ·refine .inr ?_
    have h1:=hcl0.resolve_left hcl
    obtain ⟨t,hn⟩:=Classical.not_forall.mp hcl
    have ht:t∈l:=Classical.byContradiction fun z=>hn fun y=>absurd y z
    have e:t.2.1 = "*" := Classical.byContradiction fun z=>hn fun _ y=>absurd y z
    have h0:t.1∈ks1:=Classical.byContradiction fun z=>hn fun _ _ y=>absurd y z
    have h2:t.2.2∉ks1:=fun z=>hn fun _ _ _=>z
    have:=cZ (l:=t.2.2 :: ks1) (m:=ks) (xax.mpr ⟨h2,hc0.nd⟩) fun x hx=>by
     rcases xam.mp hx with rfl | hx
     ·exact hdn t ht e h0
     ·exact hsub x hx
    simp only [xaH] at this
    lia
 ·rintro ρ ⟨ks,o4,o5,hc,hcl,rfl⟩
  rw [qd] at hcl
  walk_at "q"
  have:=ie hc.nd hc.r
  have hcl:=hcl.resolve_right (by lia)
  exact h ks hc.nd fun x=>⟨hc.c x,fun r=>by obtain ⟨s,hs,r⟩:=r; exact uo (hc.z s hs) hcl r⟩
def cV:WS :=
 (wSeq (wIfS (wOr (wNot (wB (wUn (fIsi "list") (wVar 4)))) (wB (wOp fGt (wUn fLen (wVar 4)) (wOp fSub (wOp fMul (wC (.int 2)) (wOp fIx (wVar 0) (wC (.int 0)))) (wC (.int 1))))))
 (wRet (wC (.bl false)))
 bQ)
 (wSeq (wFrz 1 (wSet 5 (wVar 1)))
 (wSeq (wSet 6 (wLst wNil))
 (wSeq (wFrz 4 (wFor (fG (wVar 4)) (gN 7)
 (wSeq (wIfS (wOr (wNot (wB (wUn (fIsi "tuple") (wVar 7)))) (wOr (wB (wOp (fInR true) (wVar 7) (wOp fIx (wVar 0) (wC (.int 1))))) (wB (wOp fNe (wOp fIx (wVar 7) (wC (.int 0))) (wVar 5)))))
 (wRet (wC (.bl false)))
 bQ)
 (wSeq (wIfS (wB (wOp fNe (wOp fIx (wVar 7) (wC (.int 1))) (wC (.str "*"))))
 (wApp (wpN 6) (wOp fIx (wVar 7) (wC (.int 1))))
 bQ)
 (wSet 5 (wOp fIx (wVar 7) (wC (.int 2))))))))
 (wSeq (wIfS (wB (wOp fEq (wVar 2) (wC (.str "*"))))
 (wRet (nq (wOp fEq (wVar 6) (wLst wNil)) (wOp fEq (wVar 5) (wVar 3))))
 bQ)
 (wFrz 2 (wRet (nq (wOp fEq (wVar 6) (wLst (ak (wVar 2) wNil))) (wOp fEq (wVar 5) (wVar 3))))))))))
def aX:SpD:=fun ds Q=>∃ (many:Int) (l:List Stp) (p:Int) (d:Str) (q:Int) (w:List Stp),ds=[mD many l,.int p,.str d,.int q,.list (w.map stpD)]/\(1<=many/\many<=20)/\StIn many l/\Deed d/\Told many l p d q w/\Q .sh (.bl true)
theorem jh (ds Q) (h:aX ds Q):ds.length=["_law_m", "_law_p", "_law_deed", "_law_q", "_law_found"].length:=by obtain ⟨_,_,_,_,_,_,rfl,_⟩:=h; rfl
theorem kJ:∀ ds Q,aX ds Q->cV { nx:=fun _=>Q .sh .non,rt:=Q } (bj 8 ds):=by
 rintro ds Q ⟨many,l,p,d,q,w,rfl,hm,hin,hd,ht,h⟩
 have hlen:=ht.len
 unfold cV mD
 walk_at "q"
 refine R.F rfl ?_
 walk_at "q"
 refine ⟨.inr ⟨by lia,by lia⟩,R.F (by simp; lia) ?_⟩
 walk_at "q"
 refine bM _ (fun i ρ=>∃ (here:Int) (o7:Option Sl),Wlk l q here (w.drop i) /\
  ρ=[some (.sh (.tup [.int many,.list (l.map stpD)])),some (.sh (.int p)),some (.sh (.str d)),some (.sh (.int q)),some (.sh (.list (w.map stpD))),some (.sh (.int here)),some (.ow true (.list ((opens (w.take i)).map .str))),o7]) ⟨p,_,ht.wk,rfl⟩ ?_ ?_
 ·rintro i x ρ hx ⟨here,o7,hw,rfl⟩ N hN
  have hi:=(xas.mp hx).1
  rw [xab] at hi
  obtain ⟨a,e,b,rfl,hm1,et⟩:=pJ hx
  have ed:w.drop i=(a,e,b) :: w.drop (i+1):=by
   have:=congrArg (· ++ w.drop (i+1)) et
   simp only [xbi,xaO,List.singleton_append] at this
   exact List.append_cancel_left ((xbi i w).trans this)
  rw [ed] at hw
  obtain ⟨hl1,rfl,hw⟩:=hw
  simp only at hw
  have ho:opens (w.take (i+1))=opens (w.take i)++if e = "*" then [] else [e]:=by
   rw [et,fu]
   by_cases z:e = "*" <;> simp [opens,z]
  walk_at "q"
  refine R.F rfl ?_
  walk_at "q"
  have sok:=hin _ hl1
  refine ⟨wR (s:=(a,e,b)) 11 sok,rE 10 hin,R.F (by rw [show D.tup [D.int a,.str e,.int b]=stpD (a,e,b) from rfl,ye,decide_eq_true hl1]; rfl) ?_⟩
  walk_at "q"
  have hol:=uA (w.take i)
  rw [xaG] at hol
  by_cases he:e = "*"
  ·refine R.F (by simp [he]) ?_
   walk_at "q"
   refine hN _ ?_
   rw [ho,if_pos he,xaD]
   exact ⟨b,_,hw,rfl⟩
  ·refine R.T (by simp [he]) ?_
   walk_at "q"
   refine ⟨by lia,hN _ ?_⟩
   rw [ho,if_neg he,xa0]
   exact ⟨b,_,hw,rfl⟩
 ·rintro ρ ⟨here,o7,hw,rfl⟩
  rw [xab,xbD] at hw
  rw [xab,xa3,ht.op]
  obtain rfl:here=q:=hw
  walk_at "q"
  by_cases ed:d = "*"
  ·refine R.T (by simp [ed]) ?_
   rw [if_pos ed]
   walk_at "q"
   refine ⟨rfl,rfl,R.T rfl ?_⟩
   walk_at "q"
   exact h
  ·refine R.F (by simp [ed]) ?_
   rw [if_neg ed]
   walk_at "q"
   have hok:okD 12 (D.list [.str d])=true:=by
    have:=hd.ok
    simp [okD,this]
   refine ⟨hok,hok,R.T (eq_self rfl) ?_⟩
   walk_at "q"
   exact h
def iy:WS :=
 (wRet (wOrV (cJ b8 (ak (wVar 0) wNil)) (nq (wUn (fIsi "str") (wVar 0)) (wOp fEq (wVar 0) (wC (.str "*"))))))
def mj (x:Str):Bool:=(decide (1<=x.length/\x.length<=6) && (sg x).all isLet) || decide (x = "*")
theorem d_ {x:Str}:mj x=true↔Deed x:=by
 unfold mj Deed Open lets
 simp only [Bool.or_eq_true,xaz,decide_eq_true_eq,xbB]
 constructor
 ·rintro (⟨⟨h1,h2⟩,h3⟩ | h)
  ·exact .inr ⟨h1,h2,h3⟩
  ·exact .inl h
 ·rintro (h | ⟨h1,h2,h3⟩)
  ·exact .inr h
  ·exact .inl ⟨⟨h1,h2⟩,h3⟩
def bO:SpD:=fun ds Q=>∃ x:Str,ds=[.str x]/\Q .sh (.bl (mj x))
theorem nW (ds Q) (h:bO ds Q):ds.length=["thing"].length:=by obtain ⟨_,rfl,_⟩:=h; rfl
theorem tO:∀ ds Q,bO ds Q->iy { nx:=fun _=>Q .sh .non,rt:=Q } (bj 1 ds):=by
 rintro ds Q ⟨x,rfl,h⟩
 unfold iy
 walk_at "q"
 refine ⟨_,rfl,?_⟩
 unfold mj at h
 walk_at "q"
 refine R.B (fun e=>?_) fun e=>?_
 ·walk_at "q"
  rw [e] at h
  exact h
 ·walk_at "q"
  refine R.T rfl ?_
  walk_at "q"
  rw [e] at h
  exact h
def cL:WS :=
 (wSeq (wSet 3 (cJ aD (ak (wVar 0) (ak (wC (.int 2)) wNil))))
 (wSeq (wSet 4 pA)
 (wSeq (wFrz 0 (wFor (p_ (wSl (wVar 0) (lQ (wC (.int 3))) (lQ (wC (.int 63))))) (gT 2 (h_ (gN 5) (h_ (gN 6) ue)))
 (wSeq (wSet 7 (wOp fIx (wVar 2) (wOp fMod (wOp fDiv (wOp fDiv (wVar 6) (wVar 1)) (wVar 1)) (wUn fLen (wVar 2)))))
 (wSeq (wIfS (wAnd (wB (wOp fEq (wOp fMod (wVar 3) (wC (.int 2))) (wC (.int 1)))) (wB (wOp fEq (wOp fMod (wVar 5) (wC (.int 2))) (wC (.int 1)))))
 (wSet 7 (wC (.str "*")))
 bQ)
 (kW (wpN 4) (wTup (ak (wOp fMod (wVar 6) (wVar 1)) (ak (wVar 7) (ak (wOp fMod (wOp fDiv (wVar 6) (wVar 1)) (wVar 1)) wNil)))) (wC (.bl true)))))))
 (wSeq (wIfS (wB (wOp fEq (wOp fMod (wOp fDiv (wVar 3) (wC (.int 2))) (wC (.int 3))) (wC (.int 2))))
 (wSeq (wSet 8 (wC (.int 0)))
 (wSeq (wSet 9 (j_ (wC (.int 1)) (wVar 1)))
 (wSeq (sX (wB (wOp fNe (wVar 9) (wLst wNil)))
 (wSeq (oZ 10 (wpN 9) (wOp fMod (wOp fDiv (wOp fDiv (wVar 3) (wC (.int 60))) (wOp fAdd (wUn fLen (wVar 9)) (wC (.int 1)))) (wUn fLen (wVar 9))))
 (wSeq (kW (wpN 4) (wTup (ak (wVar 8) (ak (wC (.str "*")) (ak (wVar 10) wNil)))) (wC (.bl true)))
 (wFrz 10 (wSet 8 (wVar 10))))))
 (wIfS (wB (wOp fEq (wOp fMod (wOp fDiv (wVar 3) (wC (.int 6))) (wC (.int 2))) (wC (.int 1))))
 (kW (wpN 4) (wTup (ak (wVar 8) (ak (wC (.str "*")) (ak (wC (.int 0)) wNil)))) (wC (.bl true)))
 bQ))))
 bQ)
 (uV [.inr 1,.inl (wUn pF (wUn qH (wVar 4)))])))))
def aQ:SpD:=fun ds Q=>∃ (ns:List Int) (many:Int) (names:List Str),ds=[.list (ns.map .int),.int many,.list (names.map .str)]/\ns.length<=63/\1<=many/\many<=20/\1<=names.length/\names.length<=7/\(∀ n∈names,Deed n) /\
 ∀ steps:List Stp,StIn many steps->NmIn ("*" :: names) steps->steps.Pairwise (fun a b=>ltP a b=true)->steps.length<=400->Q (.ow true) (mD many steps)
def StN (many:Int) (names:List Str) (t:Stp):Prop:=StOk many t/\t.2.1∈("*" : Str) :: names
theorem gO (ds Q) (h:aQ ds Q):ds.length=["_law_script", "_law_many", "_law_deeds_here"].length:=by obtain ⟨_,_,_,rfl,_⟩:=h; rfl
theorem yQ:∀ (l:List Int) (n:Nat),okD (n+1) (.list (l.map D.int))=true:=fun l n=>by
 simp only [okD,List.all_map,xbB]
 intro x _
 cases n <;> rfl
theorem nR (l:List Int):eqD (.list (l.map D.int)) (.list [])=decide (l=[]):=by
 cases l with
 | nil=>rfl
 | cons x l=>rfl
theorem mO {α β:Type} (f:α->β):∀ (l:List α) (k:Nat),(l.map f).eraseIdx k=(l.eraseIdx k).map f
 | [],_=>rfl
 | _ :: _,0=>rfl
 | x :: l,k+1=>by simp [List.eraseIdx,mO f l k]
theorem vW {l:List Int} {i:Nat} {x:D} (h:(ju (l.map D.int))[i]? = some x):∃ c,x=.tup [.int i,.int c]/\i<l.length:=by
 unfold ju at h
 rw [List.getElem?_mapIdx,xaK] at h
 cases e:l[i]? with
 | none=>rw [e] at h; cases h
 | some c=>rw [e] at h; cases h; exact ⟨c,rfl,(xas.mp e).1⟩
theorem ir:Deed "*" := .inl rfl
theorem jw:∀ ds Q,aQ ds Q->cL { nx:=fun _=>Q .sh .non,rt:=Q } (bj 11 ds):=by
 rintro ds Q ⟨ns,many,names,rfl,hl,hm1,hm2,hn1,hn2,hd,h⟩
 unfold cL
 walk_at "q"
 refine ⟨ns,2,rfl,by decide,?_⟩
 generalize ns.getD _ 0=first
 walk_at "q"
 have fin:∀ kvs:Kn,StD (StN many names) kvs->kvs.length<=400->pF (.ow true) (.list (kvs.map fun kv=>.tup (kv.1.map keyD))) fun m x=>Q (nM [(.sh,.int many),(m,x)]) (.tup [.int many,x]):=fun kvs hk hz =>
  hk.sorted fun steps _ hs up hz'=>h steps (fun s m=>(hs s m).1) (fun s m=>(hs s m).2) up (by lia)
 refine .inl ⟨lU ns,?_⟩
 rw [uW]
 have hc:=gW ns (some 3) (some 63)
 generalize cutG ns (some 3) (some 63)=cells at *
 refine bM _ (fun i ρ=>∃ (kvs:Kn) (o5 o6 o7:Option Sl),StD (StN many names) kvs/\kvs.length<=i /\
  ρ=[some (.sh (.list (ns.map .int))),some (.sh (.int many)),some (.sh (.list (names.map .str))),some (.sh (.int first)),some (.ow true (.dT kvs)),o5,o6,o7,none,none,none]) ⟨[],_,_,_,StD.nil,by simp,rfl⟩ ?_ ?_
 ·rintro i x ρ hx ⟨kvs,o5,o6,o7,hk,hz,rfl⟩ N hN
  obtain ⟨c,rfl,hi⟩:=vW hx
  have a1:=xaM c (show many≠0 by lia)
  have a2:=xaJ c (show 0<many by lia)
  have a3:=xaM (c / many) (show many≠0 by lia)
  have a4:=xaJ (c / many) (show 0<many by lia)
  walk_at "q"
  obtain ⟨n,hn,e⟩:=name_mod (c / many / many) hn1
  walk_at "o"
  refine ⟨.str n,e,?_⟩
  walk_at "q"
  have put:∀ n:Str,Deed n->n∈("*" : Str) :: names->N [some (.sh (.list (ns.map .int))),some (.sh (.int many)),some (.sh (.list (names.map .str))),some (.sh (.int first)),some (.ow true (.dT (putG kvs [.inl (c % many),.inr n,.inl (c / many % many)] (.bl true)))),some (.sh (.int i)),some (.sh (.int c)),some (.sh (.str n)),none,none,none]:=fun n hn hm =>
   hN _ ⟨_,_,_,_,hk.put (s:=(c % many,n,c / many % many)) ⟨⟨a1,a2,hn,a3,a4⟩,hm⟩,by have:=dX kvs (stpK (c % many,n,c / many % many)) (D.bl true); lia,rfl⟩
  refine R.D (fun _=>?_) fun _=>?_
  ·walk_at "q"
   refine R.D (fun _=>?_) fun _=>?_
   ·walk_at "q"
    walk_at "o"
    exact put "*" ir xad
   ·walk_at "q"
    walk_at "o"
    exact put n (hd n hn) (xac _ hn)
  ·walk_at "q"
   walk_at "o"
   exact put n (hd n hn) (xac _ hn)
 ·rintro ρ ⟨kvs,o5,o6,o7,hk,hz,rfl⟩
  have hz:kvs.length<=63:=by simp [ju] at hz; lia
  walk_at "q"
  refine R.D (fun _=>?_) fun _=>?_
  ·walk_at "q"
   walk_at "o"
   refine ⟨fun ρ=>∃ (kvs:Kn) (left:List Int) (here:Int) (o10:Option Sl),StD (StN many names) kvs/\kvs.length+left.length<=100/\(∀ x∈left,0<=x/\x<many)/\(0<=here/\here<many) /\
    ρ=[some (.sh (.list (ns.map .int))),some (.sh (.int many)),some (.sh (.list (names.map .str))),some (.sh (.int first)),some (.ow true (.dT kvs)),o5,o6,o7,some (.sh (.int here)),some (.ow true (.list (left.map .int))),o10],
    fun ρ=>match ρ with
     | [_,_,_,_,_,_,_,_,_,some (.ow _ (.list l)),_]=>l.length
     | _=>0,⟨kvs,(List.range (many - 1).toNat).map fun i=>1+((i:Nat):Int),0,none,hk,by simp; lia,fun x hx=>?_,by lia,by simp [gF]⟩,?_⟩
   ·obtain ⟨i,hi,rfl⟩:=xaE.mp hx
    have:=xaV.mp hi
    lia
   ·rintro ρ ⟨kvs,left,here,o10,hk,hz,hlf,hh,rfl⟩
    walk_at "q"
    refine ⟨yQ left 11,rfl,?_⟩
    rw [nR]
    by_cases hne:left=[]
    ·rw [if_neg (by simp [hne])]
     refine R.D (fun _=>?_) fun _=>?_
     ·walk_at "q"
      walk_at "o"
      refine fin _ (hk.put (s:=(here, "*",0)) ⟨⟨hh.1,hh.2,ir,by show (0:Int)<=0; lia,by show (0:Int)<many; lia⟩,xad⟩) ?_
      exact xaA (dX kvs (stpK (here, "*",0)) (D.bl true)) (by lia)
     ·walk_at "q"
      exact fin kvs hk (by lia)
    ·rw [if_pos (by simp [hne])]
     have hp:0<left.length:=List.length_pos_iff.mpr hne
     have b1:=xaM (first / 60 / ((left.length:Int)+1)) (show (left.length:Int)≠0 by lia)
     have b2:=xaJ (first / 60 / ((left.length:Int)+1)) (show (0:Int)<left.length by lia)
     obtain ⟨j,hj0⟩:∃ j,first / 60 / ((left.length:Int)+1) % (left.length:Int)=j:=⟨_,rfl⟩
     rw [hj0] at b1 b2
     rw [hj0]
     have hj:j.toNat<left.length:=by lia
     refine ⟨by lia,by lia,.int left[j.toNat],b1,by simp [hj],rfl,?_⟩
     have hlj:=hlf _ (xcj hj)
     have mem:=fun x (hx:x∈left.eraseIdx j.toNat)=>hlf x (List.mem_of_mem_eraseIdx hx)
     have len:=List.length_eraseIdx_of_lt hj
     generalize left[j.toNat]=there at *
     walk_at "q"
     walk_at "o"
     try rw [hj0]
     rw [mO,xab]
     refine ⟨⟨_,left.eraseIdx j.toNat,there,_,hk.put (s:=(here, "*",there)) ⟨⟨hh.1,hh.2,ir,hlj.1,hlj.2⟩,xad⟩,?_,mem,hlj,rfl⟩,by lia⟩
     have:=dX kvs (stpK (here, "*",there)) (D.bl true)
     lia
  ·walk_at "q"
   exact fin kvs hk (by lia)
def eX:WS :=
 (wSeq (wSet 3 (cJ aP (ak (wVar 0) (ak (wD1 (wVar 1) (wC (.bl true))) wNil))))
 (wSeq (wIfS (wB (wOp fEq (wVar 2) (wC (.str "*"))))
 (oh 3)
 bQ)
 (wSeq (wSet 4 pP)
 (wSeq (wFrz 0 (wFor (fG (wOp fIx (wVar 0) (wC (.int 1)))) (gN 5)
 (wIfS (wAnd (wB (wOp fEq (wOp fIx (wVar 5) (wC (.int 1))) (wVar 2))) (wB (wOp (fIn false) (wOp fIx (wVar 5) (wC (.int 0))) (wVar 3))))
 (kW (wpN 4) (wOp fIx (wVar 5) (wC (.int 2))) (wC (.bl true)))
 bQ)))
 (wRet (cJ aP (ak (wVar 0) (ak (wVar 4) wNil))))))))
def bJ:SpD:=fun ds Q=>∃ (many:Int) (l:List Stp) (p:Int) (d:Str),ds=[mD many l,.int p,.str d]/\(1<=many/\many<=20)/\StIn many l/\(0<=p/\p<many)/\∀ ks,(∀ x,x∈ks↔Come l p d x)->Q (.ow true) (.dK (setK ks))
theorem lE (ds Q) (h:bJ ds Q):ds.length=["_law_m", "_law_p", "_law_deed"].length:=by obtain ⟨_,_,_,_,rfl,_⟩:=h; rfl
theorem nG:∀ ds Q,bJ ds Q->eX { nx:=fun _=>Q .sh .non,rt:=Q } (bj 6 ds):=by
 rintro ds Q ⟨many,l,p,d,rfl,hm,hin,hp,h⟩
 unfold eX
 walk_at "q"
 refine ⟨many,l,[p],rfl,hm,hin,by simp,fun x hx=>by rw [xaY.mp hx]; exact hp,fun ks1 nd1 mem1=>?_⟩
 have mem1:∀ x,x∈ks1↔Rch l p x:=fun x=>(mem1 x).trans ⟨fun ⟨s,hs,r⟩=>by rw [<- xaY.mp hs]; exact r,fun r=>⟨p,by simp,r⟩⟩
 walk_at "q"
 by_cases ed:d = "*"
 ·refine R.T (by simp [ed]) ?_
  walk_at "q"
  refine h ks1 fun x=>(mem1 x).trans ?_
  unfold Come
  rw [if_pos ed]
 refine R.F (by simp [ed]) ?_
 unfold mD
 walk_at "q"
 refine bM _ (fun i ρ=>∃ (ks:List Int) (o5:Option Sl),ks.Nodup/\(∀ x,x∈ks↔∃ a,((a,d,x):Stp)∈l.take i/\a∈ks1) /\
  ρ=[some (.sh (.tup [.int many,.list (l.map stpD)])),some (.sh (.int p)),some (.sh (.str d)),some (.ow true (.dK (setK ks1))),some (.ow true (.dK (setK ks))),o5]) ⟨[],_,xay,by simp,rfl⟩ ?_ ?_
 ·rintro i x ρ hx ⟨ks,o5,nd,mem,rfl⟩ N hN
  obtain ⟨a,e,b,rfl,ht,et⟩:=pJ hx
  have hks:ks.length<=20:=by
   have:=ie nd fun x hx=>by
    obtain ⟨a,ha,_⟩:=(mem x).mp hx
    exact (hin _ (xbz ha)).2.2.2
   lia
  walk_at "q"
  have keep:¬ (e=d/\a∈ks1)->N [some (.sh (.tup [.int many,.list (l.map stpD)])),some (.sh (.int p)),some (.sh (.str d)),some (.ow true (.dK (setK ks1))),some (.ow true (.dK (setK ks))),some (.sh (.tup [.int a,.str e,.int b]))]:=fun hh =>
   hN _ ⟨ks,_,nd,fun x=>(mem x).trans ⟨fun ⟨c,hc,h⟩=>⟨c,by rw [et]; exact xai _ hc,h⟩,fun ⟨c,hc,h⟩=>by
    rw [et] at hc
    rcases xag.mp hc with hc | hc
    ·exact ⟨c,hc,h⟩
    ·obtain ⟨rfl,rfl,rfl⟩:c=a/\d=e/\x=b:=by simpa using hc
     exact absurd ⟨rfl,h⟩ hh⟩,rfl⟩
  by_cases he:e=d
  ·subst he
   refine R.T (by simp) ?_
   walk_at "q"
   by_cases ha:a∈ks1
   ·refine R.T (by rw [get_set]; simp [ha]) ?_
    walk_at "q"
    rw [n8,gR]
    walk_at "o"
    refine hN _ ⟨insI ks b,_,jM nd,fun x=>?_,rfl⟩
    rw [cG,mem x,et]
    constructor
    ·rintro (⟨c,hc,h⟩ | rfl)
     ·exact ⟨c,xai _ hc,h⟩
     ·exact ⟨a,by simp,ha⟩
    ·rintro ⟨c,hc,h⟩
     rcases xag.mp hc with hc | hc
     ·exact .inl ⟨c,hc,h⟩
     ·exact .inr (by simpa using hc:c=a/\x=b).2
   ·refine R.F (by rw [get_set]; simp [ha]) ?_
    walk_at "q"
    exact keep fun z=>ha z.2
  ·refine R.F (by simp [he]) ?_
   walk_at "q"
   exact keep fun z=>he z.1
 ·rintro ρ ⟨ks,o5,nd,mem,rfl⟩
  rw [xab,xa3] at mem
  walk_at "q"
  refine ⟨many,l,ks,rfl,hm,hin,nd,fun x hx=>?_,fun ks2 nd2 mem2=>?_⟩
  ·obtain ⟨a,ha,_⟩:=(mem x).mp hx
   exact (hin _ ha).2.2.2
  ·walk_at "q"
   refine h ks2 fun x=>(mem2 x).trans ?_
   unfold Come RchS
   rw [if_neg ed]
   constructor
   ·rintro ⟨b,hb,r⟩
    obtain ⟨a,ha,hk⟩:=(mem b).mp hb
    exact ⟨a,b,(mem1 a).mp hk,ha,r⟩
   ·rintro ⟨a,b,r1,ht,r2⟩
    exact ⟨b,(mem b).mpr ⟨a,ht,(mem1 a).mpr r1⟩,r2⟩
def iD:WS :=
 (wSeq (qe aL (ak (wVar 0) (ak (wVar 1) wNil)))
 (wSeq (qe aL (ak (wVar 0) (ak (wVar 3) wNil)))
 (wSeq (wIfS (wNot (wB (cJ bO (ak (wVar 2) wNil))))
 (pX "NoDeed" (wC (.str "a word that is no deed")))
 bQ)
 (wSeq (wSet 4 (cJ bV (ak (wVar 0) wNil)))
 (wSeq (wFrz 4 (qX 5 (cJ aG (ak (wVar 4) (ak (wVar 1) wNil)))))
 (wSeq (wIfS (wB (wOp fEq (wVar 2) (wC (.str "*"))))
 (wRet (wGet (wVar 5) (wVar 3) (wC .non)))
 bQ)
 (wSeq (wFrz 5 (vR (wVar 5) (gN 6)
 (wFrz 2 (wFrz 6 (wFor (fG (wGet (wVar 4) (wTup (ak (wVar 6) (ak (wVar 2) wNil))) (wFz (wLst wNil)))) (gN 7)
 (wSeq (qX 8 (wGet (cJ aG (ak (wVar 4) (ak (wVar 7) wNil))) (wVar 3) (wC .non)))
 (wIfS (wB (wOp yj (wVar 8) (wC .non)))
 (wFrz 7 (wFrz 2 (wFrz 6 (wRet (wOp fAdd (wOp fAdd (wOp fIx (wVar 5) (wVar 6)) (wLst (ak (wTup (ak (wVar 6) (ak (wVar 2) (ak (wVar 7) wNil)))) wNil))) (wVar 8))))))
 bQ)))))))
 (wRet (wC .non)))))))))
def bL:SpD:=fun ds Q=>∃ (many:Int) (l:List Stp) (p:Int) (d:Str) (q:Int),ds=[mD many l,.int p,.str d,.int q]/\many<=20/\StIn many l/\l.length<=1000 /\
 (¬ ((0<=p/\p<many)/\(0<=q/\q<many))->Q (.ow false) (.str "NoState"))/\((0<=p/\p<many)->(0<=q/\q<many)->¬ Deed d->Q (.ow false) (.str "NoDeed")) /\
 ((0<=p/\p<many)->(0<=q/\q<many)->Deed d->(∀ w,Told many l p d q w->Q .sh (.list (w.map stpD))/\Q (.ow true) (.list (w.map stpD)))/\(¬ Come l p d q->Q .sh .non))
theorem oH (ds Q) (h:bL ds Q):ds.length=["m", "p", "deed", "q"].length:=by obtain ⟨_,_,_,_,_,rfl,_⟩:=h; rfl
theorem tL:∀ ds Q,bL ds Q->iD { nx:=fun _=>Q .sh .non,rt:=Q } (bj 9 ds):=by
 rintro ds Q ⟨many,l,p,d,q,rfl,hm,hin,hl,h1,h2,h3⟩
 unfold iD
 walk_at "q"
 refine ⟨many,l,p,rfl,fun hp=>?_,fun hp=>?_⟩
 rotate_left
 ·walk_at "q"
  exact h1 fun z=>hp z.1
 walk_at "q"
 refine ⟨many,l,q,rfl,fun hq=>?_,fun hq=>?_⟩
 rotate_left
 ·walk_at "q"
  exact h1 fun z=>hq z.2
 walk_at "q"
 refine ⟨d,rfl,?_⟩
 walk_at "q"
 by_cases hd:Deed d
 rotate_left
 ·refine R.T (by rw [Bool.eq_false_iff.mpr fun z=>hd (d_.mp z)]; rfl) ?_
  walk_at "q"
  exact h2 hp hq hd
 refine R.F (by rw [d_.mpr hd]; rfl) ?_
 obtain ⟨k1,k2⟩:=h3 hp hq hd
 walk_at "q"
 refine ⟨many,l,rfl,by lia,fun kvs hw=>?_⟩
 walk_at "q"
 refine ⟨kvs,p,many,l,rfl,hw,hin,hm,hp,fun kd ks wk mem=>?_⟩
 have hkl:=ie wk.nd fun x hx=>(wk.r x hx).2
 walk_at "q"
 by_cases ed:d = "*"
 ·refine R.T (by simp [ed]) ?_
  walk_at "q"
  by_cases hk:q∈ks
  ·obtain ⟨w,e,hw,hl⟩:=wk.get hk
   rw [e]
   exact (k1 w ⟨by lia,hw.1,by rw [hw.2,if_pos ed]⟩).1
  ·rw [show getG kd (.inl q)=none by
    have:=wk.has q
    rw [decide_eq_false hk] at this
    exact xb7.mp (by simp [this])]
   exact k2 fun z=>hk ((mem q).mpr (by unfold Come at z; rwa [if_pos ed] at z))
 refine R.F (by simp [ed]) ?_
 walk_at "q"
 have hkk:(kd.map fun kv=>keyD kv.1)=ks.map D.int:=by
  have:=congrArg (List.map keyD) wk.ek
  rw [xaQ,xaQ] at this
  exact this
 rw [hkk]
 refine bM _ (fun i ρ=>∃ o6 o7 o8:Option Sl,isSh o8=true/\(∀ a∈ks.take i,∀ b,((a,d,b):Stp)∈l->¬ Rch l b q)/\ρ=[some (.sh (mD many l)),some (.sh (.int p)),some (.sh (.str d)),some (.sh (.int q)),some (.sh (.dT kvs)),some (.sh (.dK kd)),o6,o7,o8]) ⟨_,_,_,rfl,by simp,rfl⟩ ?_ ?_
 ·rintro i x ρ hx ⟨o6,o7,o8,h8,hno,rfl⟩ N hN
  obtain ⟨a,rfl,ha,et⟩:=int_at hx
  walk_at "q"
  refine qg hw ⟨trivial,?_⟩
  walk_at "q"
  refine bM _ (fun j ρ=>∃ o7 o8:Option Sl,isSh o8=true/\(∀ b∈(cj l a d).take j,¬ Rch l b q)/\ρ=[some (.sh (mD many l)),some (.sh (.int p)),some (.sh (.str d)),some (.sh (.int q)),some (.sh (.dT kvs)),some (.sh (.dK kd)),some (.sh (.int a)),o7,o8]) ⟨_,_,h8,by simp,rfl⟩ ?_ ?_
  ·rintro j x ρ hx ⟨o7,o8,h8,hno2,rfl⟩ N hN
   obtain ⟨b,rfl,hb,et2⟩:=int_at hx
   have hb1:=fL.mp hb
   have hb2:=(hin _ hb1).2.2.2
   walk_at "q"
   refine ⟨kvs,b,many,l,rfl,hw,hin,hm,hb2,fun kd2 ks2 wk2 mem2=>?_⟩
   have hkl2:=ie wk2.nd fun x hx=>(wk2.r x hx).2
   walk_at "q"
   by_cases hk:q∈ks2
   ·obtain ⟨w2,e2,hw2,hl2⟩:=wk2.get hk
    obtain ⟨w1,e1,hw1,hl1⟩:=wk.get ha
    rw [e2]
    refine ⟨by show (isSh o8 && true)=true; rw [h8]; rfl,?_⟩
    walk_at "q"
    refine ⟨_,_,rfl,e1,?_⟩
    have ew:w1.map stpD++[D.tup [.int a,.str d,.int b]]=(w1++[((a,d,b):Stp)]).map stpD:=by simp [stpD]
    walk_at "q"
    refine ⟨by lia,.inl ⟨cP _,by simp; lia,.inl ⟨by rw [ew]; exact cP _,cP _,?_⟩⟩⟩
    rw [ew,vD]
    refine (k1 _ ⟨by simp; lia,(hw1.1.app (show Wlk l b a [((a,d,b):Stp)] from ⟨hb1,rfl,rfl⟩)).app hw2.1,?_⟩).2
    rw [fu,fu,hw1.2,hw2.2,if_neg ed]
    simp [opens,ed]
   ·rw [show getG kd2 (.inl q)=none by
     have:=wk2.has q
     rw [decide_eq_false hk] at this
     exact xb7.mp (by simp [this])]
    refine ⟨by show (isSh o8 && true)=true; rw [h8]; rfl,?_⟩
    walk_at "q"
    refine hN _ ⟨_,_,rfl,fun c hc=>?_,rfl⟩
    rw [et2] at hc
    rcases xag.mp hc with hc | hc
    ·exact hno2 c hc
    ·rw [xaY.mp hc]
     exact fun z=>hk ((mem2 q).mpr z)
  ·rintro ρ ⟨o7,o8,h8,hno2,rfl⟩
   rw [xab,xa3] at hno2
   refine hN _ ⟨_,_,_,h8,fun c hc b hb=>?_,rfl⟩
   rw [et] at hc
   rcases xag.mp hc with hc | hc
   ·exact hno c hc b hb
   ·rw [xaY.mp hc] at hb
    exact hno2 b (fL.mpr hb)
 ·rintro ρ ⟨o6,o7,o8,h8,hno,rfl⟩
  rw [xab,xa3] at hno
  walk_at "q"
  refine k2 fun z=>?_
  unfold Come at z
  rw [if_neg ed] at z
  obtain ⟨a,b,r1,ht,r2⟩:=z
  exact hno a ((mem a).mpr r1) b ht r2
def dW:WS :=
 (wSeq (wTry (uc 4 bL (ak (wVar 0) (ak (wVar 1) (ak (wVar 2) (ak (wVar 3) wNil))))) (fun a=>[none,none,none,none,none,some (.xc a),none]) (fun a n=>(wSeq (wSet 6 (wLst (ak (wIsx 5 a (decide (n = "NoMachine"))) (ak (wIsx 5 a (decide (n = "TooBig"))) (ak (wIsx 5 a (decide (n = "NoText"))) (ak (wIsx 5 a (decide (n = "NoFrame"))) wNil))))))
 (wSeq (wSet 6 (wOp fAdd (wVar 6) (wLst (ak (wIsx 5 a (decide (n = "NoScroll"))) (ak (wIsx 5 a (decide (n = "NoName"))) (ak (wIsx 5 a (decide (n = "NoRow"))) wNil))))))
 (wSeq (wIfS (wOr (wB (wOp (fIn false) (wC (.bl true)) (wVar 6))) (wOr (wNot (wB (wIsx 5 a true))) (wB (wOp fEq (wIsx 5 a (decide (n = "NoState"))) (wIsx 5 a (decide (n = "NoDeed")))))))
 (wRet (wTup (ak (wC (.str "refused")) (ak (wC (.str "other")) wNil))))
 bQ)
 (wSeq (wIfS (wB (wIsx 5 a (decide (n = "NoState"))))
 (wRet (wTup (ak (wC (.str "refused")) (ak (wC (.str "state")) wNil))))
 bQ)
 (wRet (wTup (ak (wC (.str "refused")) (ak (wC (.str "deed")) wNil))))))))))
 (uV [.inl (wC (.str "told")),.inr 4]))
def aO:SpD:=fun ds Q=>∃ (many:Int) (l:List Stp) (p:Int) (d:Str) (q:Int),ds=[mD many l,.int p,.str d,.int q]/\many<=20/\StIn many l/\l.length<=1000 /\
 ((¬ ((0<=p/\p<many)/\(0<=q/\q<many))/\Q .sh (.tup [.str "refused",.str "state"]))\/((0<=p/\p<many)/\(0<=q/\q<many)/\¬ Deed d/\Q .sh (.tup [.str "refused",.str "deed"])))
theorem jn (ds Q) (h:aO ds Q):ds.length=["_law_m", "_law_p", "_law_deed", "_law_q"].length:=by obtain ⟨_,_,_,_,_,rfl,_⟩:=h; rfl
theorem lV:∀ ds Q,aO ds Q->dW { nx:=fun _=>Q .sh .non,rt:=Q } (bj 7 ds):=by
 rintro ds Q ⟨many,l,p,d,q,rfl,hm,hin,hl,h⟩
 unfold dW
 walk_at "q"
 refine ⟨many,l,p,d,q,rfl,hm,hin,hl,fun a=>?_,fun a b c=>?_,fun a b c=>?_⟩
 ·walk_at "q"
  intro z
  refine .inl ⟨rfl,rfl,R.F (by decide +kernel) ?_⟩
  walk_at "q"
  refine R.F (by decide +kernel) ?_
  walk_at "q"
  rcases h with ⟨_,h⟩ | ⟨x,y,_,_⟩
  ·exact h
  ·exact absurd ⟨x,y⟩ a
 ·walk_at "q"
  intro z
  refine .inl ⟨rfl,rfl,R.F (by decide +kernel) ?_⟩
  walk_at "q"
  refine R.F (by decide +kernel) ?_
  walk_at "q"
  refine R.F (by decide +kernel) ?_
  walk_at "q"
  rcases h with ⟨x,_⟩ | ⟨_,_,_,h⟩
  ·exact absurd ⟨a,b⟩ x
  ·exact h
 ·rcases h with ⟨z,_⟩ | ⟨_,_,z,_⟩
  ·exact absurd ⟨a,b⟩ z
  ·exact absurd c z
def bf:WS :=
 (wFrz 2 (wFor (qW (wTup (ak (wC (.str "*")) (ak (wC (.str "a")) (ak (wVar 2) wNil))))) (gN 5)
 (wSeq (wIfS (wB (wOp fNe (cJ aO (ak (wVar 0) (ak (wVar 4) (ak (wVar 5) (ak (wVar 3) wNil))))) (wTup (ak (wC (.str "refused")) (ak (wC (.str "state")) wNil)))))
 (wRet (wC (.bl false)))
 bQ)
 (wIfS (wB (wOp fNe (cJ aO (ak (wVar 0) (ak (wVar 3) (ak (wVar 5) (ak (wVar 4) wNil))))) (wTup (ak (wC (.str "refused")) (ak (wC (.str "state")) wNil)))))
 (wRet (wC (.bl false)))
 bQ))))
def bW:WS :=
 (wRet (wOp fEq (cJ aO (ak (wVar 0) (ak (wVar 3) (ak (wVar 2) (ak (wOp fSub (wOp fIx (wVar 0) (wC (.int 0))) (wC (.int 1))) wNil))))) (wTup (ak (wC (.str "refused")) (ak (wC (.str "deed")) wNil)))))
def cg:WS :=
 (wSeq (wSet 2 (wOp fIx (wLst (ak (wC (.str "")) (ak (wC (.str "A")) (ak (wC (.str "**")) (ak (wC (.str "abcdefg")) (ak (wC (.str "a1")) (ak (wC (.str " a")) wNil))))))) (wOp fMod (wVar 1) (wC (.int 6)))))
 (wSeq (wSet 3 (wOp fMod (wVar 1) (wOp fIx (wVar 0) (wC (.int 0)))))
 (wSeq (wFor (qW (wTup (ak (wUn fNeg (wC (.int 1))) (ak (wOp fSub (wUn fNeg (wC (.int 1))) (wOp fMod (wVar 1) (wOp fPow (wC (.int 10)) (wC (.int 59))))) (ak (wOp fIx (wVar 0) (wC (.int 0))) (ak (wOp fAdd (wOp fIx (wVar 0) (wC (.int 0))) (wOp fMod (wVar 1) (wOp fPow (wC (.int 10)) (wC (.int 59))))) wNil)))))) (gN 4)
 bf)
 bW)))
def aN:SpD:=fun ds Q=>∃ (many:Int) (l:List Stp) (far:Int),ds=[mD many l,.int far]/\(1<=many/\many<=20)/\StIn many l/\l.length<=1000/\Q .sh (.bl true)
theorem fY (ds Q) (h:aN ds Q):ds.length=["_law_m", "_law_far"].length:=by obtain ⟨_,_,_,rfl,_⟩:=h; rfl
theorem zA {Q:Md->D->Prop} {many:Int} {l:List Stp} {far p b:Int} {w:Str} {o5:Option Sl} {N B:L2.Q.Env->Prop} (hm:1<=many/\many<=20) (hin:StIn many l) (hl:l.length<=1000) (hp:0<=p/\p<many) (hb:¬ (0<=b/\b<many))
  (h:∀ o,N [some (.sh (.tup [.int many,.list (l.map stpD)])),some (.sh (.int far)),some (.sh (.str w)),some (.sh (.int p)),some (.sh (.int b)),o]) :
  bf { nx:=N,ct:=N,bk:=B,rt:=Q } [some (.sh (.tup [.int many,.list (l.map stpD)])),some (.sh (.int far)),some (.sh (.str w)),some (.sh (.int p)),some (.sh (.int b)),o5]:=by
 unfold bf
 walk_at "q"
 refine bM _ (fun i ρ=>∃ o5:Option Sl,ρ=[some (.sh (.tup [.int many,.list (l.map stpD)])),some (.sh (.int far)),some (.sh (.str w)),some (.sh (.int p)),some (.sh (.int b)),o5]) ⟨_,rfl⟩ ?_ ?_
 ·rintro i x ρ hx ⟨o5,rfl⟩ N hN
  obtain ⟨d,rfl⟩:∃ d:Str,x=.str d:=by
   have:=xa6 hx
   simp only [xam,xbo,or_false] at this
   rcases this with e | e | e <;> exact ⟨_,e⟩
  walk_at "q"
  refine ⟨many,l,b,d,p,rfl,hm.2,hin,hl,.inl ⟨fun z=>hb z.1,?_⟩⟩
  walk_at "q"
  refine ⟨by decide +kernel,by decide +kernel,R.F (by decide +kernel) ?_⟩
  walk_at "q"
  refine ⟨many,l,p,d,b,rfl,hm.2,hin,hl,.inl ⟨fun z=>hb z.2,?_⟩⟩
  walk_at "q"
  refine ⟨by decide +kernel,by decide +kernel,R.F (by decide +kernel) ?_⟩
  walk_at "q"
  exact hN _ ⟨_,rfl⟩
 ·rintro ρ ⟨o5,rfl⟩
  exact h _
theorem ji:∀ ds Q,aN ds Q->cg { nx:=fun _=>Q .sh .non,rt:=Q } (bj 6 ds):=by
 rintro ds Q ⟨many,l,far,rfl,hm,hin,hl,h⟩
 obtain ⟨w0,e0⟩:∃ w,w=bf:=⟨_,rfl⟩
 obtain ⟨w3,e3⟩:∃ w,w=bW:=⟨_,rfl⟩
 obtain ⟨w,e,hw⟩:∃ w:Str,atI [D.str "",.str "A",.str "**",.str "abcdefg",.str "a1",.str " a"] (far % 6)=some (.str w)/\¬ Deed w:=by
  have no:∀ x:Str,mj x=false->¬ Deed x:=fun x h z=>by rw [d_.mpr z] at h; cases h
  have a1:=xaM far (show (6:Int)≠0 by decide)
  have a2:=xaJ far (show (0:Int)<6 by decide)
  generalize far % 6=k at *
  rcases (show k=0\/k=1\/k=2\/k=3\/k=4\/k=5 by lia) with rfl | rfl | rfl | rfl | rfl | rfl
  all_goals exact ⟨_,rfl,no _ (by decide +kernel)⟩
 have p1:=xaM far (show (100000000000000000000000000000000000000000000000000000000000:Int)≠0 by decide)
 have b1:=xaM far (show many≠0 by lia)
 have b2:=xaJ far (show 0<many by lia)
 unfold cg mD
 rw [<- e0,<- e3]
 walk_at "q"
 refine ⟨_,e,?_⟩
 walk_at "q"
 clear e
 generalize far % 100000000000000000000000000000000000000000000000000000000000=big at p1 ⊢
 have cp:CPow 10 59:=by unfold CPow; decide
 refine ⟨by lia,cp,cp,?_⟩
 refine bM _ (fun i ρ=>∃ o4 o5:Option Sl,ρ=[some (.sh (.tup [.int many,.list (l.map stpD)])),some (.sh (.int far)),some (.sh (.str w)),some (.sh (.int (far % many))),o4,o5]) ⟨_,_,rfl⟩ ?_ ?_
 ·rintro i x ρ hx ⟨o4,o5,rfl⟩ N hN
  obtain ⟨b,rfl,hb⟩:∃ w:Int,x=.int w/\¬ (0<=w/\w<many):=by
   have:=xa6 hx
   simp only [xam,xbo,or_false] at this
   rcases this with e | e | e | e <;> exact ⟨_,e,by lia⟩
  walk_at "q"
  rw [e0]
  exact zA hm hin hl ⟨b1,b2⟩ hb fun o=>hN _ ⟨_,_,rfl⟩
 ·rintro ρ ⟨o4,o5,rfl⟩
  rw [e3]
  unfold bW
  walk_at "q"
  refine ⟨many,l,far % many,w,many - 1,rfl,hm.2,hin,hl,.inr ⟨⟨b1,b2⟩,by lia,hw,?_⟩⟩
  walk_at "q"
  refine ⟨by decide +kernel,by decide +kernel,?_⟩
  rw [show eqD (D.tup [.str "refused",.str "deed"]) (.tup [.str "refused",.str "deed"])=true from eq_self rfl]
  exact h
def jX:WS :=
 (wRet (nq (cJ aN (ak (wVar 5) (ak (wVar 3) wNil))) (wOp fEq (wVar 5) (wVar 6))))
def kO:WS :=
 (wSeq (wFor (iI (wOp uT (wVar 2) (wC (.int 4)))) (gN 8)
 (wSeq (wSet 9 (wOp fMod (wOp fAdd (wOp fDiv (wVar 3) (wC (.int 11))) (wVar 8)) (wVar 2)))
 (wSeq (wSet 10 (cJ bJ (ak (wVar 5) (ak (wVar 9) (ak (wVar 7) wNil)))))
 (wFrz 10 (wFor (iI (wOp uT (wVar 2) (wC (.int 10)))) (gN 11)
 (wSeq (wSet 12 (wOp fMod (wOp fAdd (wOp fAdd (wOp fDiv (wVar 3) (wC (.int 13))) (wOp fMul (wC (.int 7)) (wVar 8))) (wVar 11)) (wVar 2)))
 (wSeq (qX 13 (sS bL (ak (wVar 5) (ak (wVar 9) (ak (wVar 7) (ak (wVar 12) wNil))))))
 (wIfS (wB (wOp fIsN (wVar 13) (wC .non)))
 (wIfS (wB (wOp (fIn false) (wVar 12) (wVar 10)))
 (wRet (wC (.bl false)))
 bQ)
 (wIfS (wNot (wB (cJ aX (ak (wVar 5) (ak (wVar 9) (ak (wVar 7) (ak (wVar 12) (ak (wVar 13) wNil))))))))
 (wRet (wC (.bl false)))
 bQ)))))))))
 jX)
def lC:WS :=
 (wSeq (wSet 4 (cJ bz (ak (wVar 3) wNil)))
 (wSeq (wSet 5 (cJ aQ (ak (wVar 0) (ak (wVar 2) (ak (wVar 4) wNil)))))
 (wSeq (wFrz 2 (wSet 6 (wTup (ak (wVar 2) (ak (wUn qH (wOp fIx (wVar 5) (wC (.int 1)))) wNil)))))
 (wSeq (wFrz 6 (wFrz 5 (wFrz 4 (wSet 7 (wOp fIx (wOp fAdd (wVar 4) (wLst (ak (wC (.str "zzz")) wNil))) (wOp fMod (wOp fDiv (wVar 3) (wC (.int 5))) (wOp fAdd (wUn fLen (wVar 4)) (wC (.int 1)))))))))
 kO))))
def yl:WS :=
 (wSeq (wSet 1 (cJ aD (ak (wVar 0) (ak (wC (.int 0)) wNil))))
 (wSeq (wSet 2 (wOp fAdd (wC (.int 1)) (wOp fMod (wOp fDiv (wVar 1) (wC (.int 8))) (wC (.int 9)))))
 (wSeq (wIfS (wB (wOp fEq (wOp fMod (wVar 1) (wC (.int 8))) (wC (.int 5))))
 (wSet 2 (wOp fAdd (wC (.int 1)) (wOp fMod (wOp fDiv (wVar 1) (wC (.int 8))) (wC (.int 20)))))
 bQ)
 (wSeq (wSet 3 (cJ aD (ak (wVar 0) (ak (wC (.int 1)) wNil))))
 lC))))
abbrev sp_law:SpD:=spLaw
theorem x_ (ds Q) (h:sp_law ds Q):ds.length=["_law_script"].length:=by obtain ⟨_,rfl,_⟩:=h; rfl
theorem yW {Q:Md->D->Prop} {ns:List Int} {c many far:Int} {l:List Stp} {o4 o7 o8 o9 o10 o11 o12 o13:Option Sl} (hm:1<=many/\many<=20) (hin:StIn many l) (hl:l.length<=1000) (h:∀ m,Q m (.bl true)) :
  jX { nx:=fun _=>Q .sh .non,rt:=Q } [some (.sh (.list (ns.map .int))),some (.sh (.int c)),some (.sh (.int many)),some (.sh (.int far)),o4,some (.sh (.tup [.int many,.list (l.map stpD)])),some (.sh (.tup [.int many,.list (l.map stpD)])),o7,o8,o9,o10,o11,o12,o13]:=by
 unfold jX
 walk_at "q"
 refine ⟨many,l,far,rfl,hm,hin,hl,?_⟩
 walk_at "q"
 refine ⟨m_ok 9 hin,m_ok 9 hin,?_⟩
 rw [show eqD (.tup [.int many,.list (l.map stpD)]) (.tup [.int many,.list (l.map stpD)])=true from eq_self (nb_m many l)]
 exact h _
theorem yE {Q:Md->D->Prop} {ns:List Int} {c many far:Int} {l:List Stp} {names:List Str} {d:Str} (hm:1<=many/\many<=20) (hin:StIn many l) (hl:l.length<=1000) (hd:Deed d) (h:∀ m,Q m (.bl true)) :
  kO { nx:=fun _=>Q .sh .non,rt:=Q } [some (.sh (.list (ns.map .int))),some (.sh (.int c)),some (.sh (.int many)),some (.sh (.int far)),some (.sh (.list (names.map .str))),some (.sh (.tup [.int many,.list (l.map stpD)])),some (.sh (.tup [.int many,.list (l.map stpD)])),some (.sh (.str d)),none,none,none,none,none,none]:=by
 obtain ⟨w9,e9⟩:∃ w,w=jX:=⟨_,rfl⟩
 unfold kO
 rw [<- e9]
 walk_at "q"
 have h4:(if 4<many then 4 else many)<=4/\1<=(if 4<many then 4 else many):=by split <;> lia
 generalize (if 4<many then 4 else many)=n4 at *
 refine ⟨by lia,by lia,?_⟩
 refine bM _ (fun i ρ=>∃ o8 o9 o10 o11 o12 o13:Option Sl,isSh o13=true/\ρ=[some (.sh (.list (ns.map .int))),some (.sh (.int c)),some (.sh (.int many)),some (.sh (.int far)),some (.sh (.list (names.map .str))),some (.sh (.tup [.int many,.list (l.map stpD)])),some (.sh (.tup [.int many,.list (l.map stpD)])),some (.sh (.str d)),o8,o9,o10,o11,o12,o13]) ⟨_,_,_,_,_,_,rfl,rfl⟩ ?_ ?_
 ·rintro i x ρ hx ⟨o8,o9,o10,o11,o12,o13,h13,rfl⟩ N hN
  obtain ⟨hi,rfl⟩:=lz hx
  walk_at "q"
  have b1:=xaM (far / 11+(0+(i:Int))) (show many≠0 by lia)
  have b2:=xaJ (far / 11+(0+(i:Int))) (show 0<many by lia)
  generalize (far / 11+(0+(i:Int))) % many=p at *
  refine ⟨by lia,many,l,p,d,rfl,hm,hin,⟨b1,b2⟩,fun ks mem=>?_⟩
  walk_at "q"
  have h10:(if 10<many then 10 else many)<=10/\1<=(if 10<many then 10 else many):=by split <;> lia
  generalize (if 10<many then 10 else many)=n10 at *
  refine ⟨by lia,by lia,?_⟩
  refine bM _ (fun j ρ=>∃ o11 o12 o13:Option Sl,isSh o13=true/\ρ=[some (.sh (.list (ns.map .int))),some (.sh (.int c)),some (.sh (.int many)),some (.sh (.int far)),some (.sh (.list (names.map .str))),some (.sh (.tup [.int many,.list (l.map stpD)])),some (.sh (.tup [.int many,.list (l.map stpD)])),some (.sh (.str d)),some (.sh (.int (0+(i:Int)))),some (.sh (.int p)),some (.sh (.dK (setK ks))),o11,o12,o13]) ⟨_,_,_,h13,rfl⟩ ?_ ?_
  ·rintro j x ρ hx ⟨o11,o12,o13,h13,rfl⟩ N hN
   obtain ⟨hj,rfl⟩:=lz hx
   walk_at "q"
   have c1:=xaM (far / 13+7 * (0+(i:Int))+(0+(j:Int))) (show many≠0 by lia)
   have c2:=xaJ (far / 13+7 * (0+(i:Int))+(0+(j:Int))) (show 0<many by lia)
   generalize (far / 13+7 * (0+(i:Int))+(0+(j:Int))) % many=q at *
   have k13:(isSh o13 && true)=true:=by rw [h13]; rfl
   refine ⟨.inl ⟨by lia,by lia⟩,by lia,many,l,p,d,q,rfl,hm.2,hin,hl,fun z=>absurd ⟨⟨b1,b2⟩,c1,c2⟩ z,fun _ _ z=>absurd hd z,fun _ _ _=>⟨fun w ht=>?_,fun hno=>?_⟩⟩
   ·constructor
    all_goals
     walk_at "q"
     refine ⟨k13,?_⟩
     refine ⟨many,l,p,d,q,w,rfl,hm,hin,hd,ht,?_⟩
     walk_at "q"
     exact hN _ ⟨_,_,_,rfl,rfl⟩
   ·walk_at "q"
    refine ⟨k13,?_⟩
    refine R.F (by rw [get_set]; exact decide_eq_false fun z=>hno ((mem q).mp z)) ?_
    walk_at "q"
    exact hN _ ⟨_,_,_,rfl,rfl⟩
  ·rintro ρ ⟨o11,o12,o13,h13,rfl⟩
   exact hN _ ⟨_,_,_,_,_,_,h13,rfl⟩
 ·rintro ρ ⟨o8,o9,o10,o11,o12,o13,h13,rfl⟩
  rw [e9]
  exact yW hm hin hl h
theorem qY {Q:Md->D->Prop} {ns:List Int} {c many far:Int} (hn:ns.length<=63) (hm:1<=many/\many<=20) (h:∀ m,Q m (.bl true)) :
  lC { nx:=fun _=>Q .sh .non,rt:=Q } [some (.sh (.list (ns.map .int))),some (.sh (.int c)),some (.sh (.int many)),some (.sh (.int far)),none,none,none,none,none,none,none,none,none,none]:=by
 obtain ⟨w8,e8⟩:∃ w,w=kO:=⟨_,rfl⟩
 unfold lC
 rw [<- e8]
 walk_at "q"
 refine ⟨far,rfl,fun names n1 n7 hd=>?_⟩
 walk_at "q"
 refine ⟨ns,many,names,rfl,hn,hm.1,hm.2,n1,n7,hd,fun l hin hnm up hl=>?_⟩
 unfold mD
 walk_at "q"
 refine .inl ⟨cP _,by lia,.inl ⟨iH _,by lia,?_⟩⟩
 rw [show names.map D.str++[D.str "zzz"]=(names++[("zzz" : Str)]).map D.str by simp,show ((names.length:Int)+1)=((names++[("zzz" : Str)]).length:Int) by simp]
 obtain ⟨d,hn,e⟩:=name_mod (names:=names++[("zzz" : Str)]) (far / 5) (by simp)
 refine ⟨_,e,?_⟩
 walk_at "q"
 rw [e8]
 refine yE hm hin (by lia) ?_ h
 rcases xag.mp hn with hn | hn
 ·exact hd d hn
 ·rw [xaY.mp hn]
  exact d_.mp (by decide +kernel)
theorem Cz:∀ ds Q,sp_law ds Q->yl { nx:=fun _=>Q .sh .non,rt:=Q } (bj 14 ds):=by
 rintro ds Q ⟨ns,rfl,hn,h⟩
 obtain ⟨w4,e4⟩:∃ w,w=lC:=⟨_,rfl⟩
 unfold yl
 rw [<- e4]
 walk_at "q"
 refine ⟨ns,0,rfl,by decide,?_⟩
 generalize ns.getD _ 0=c0
 walk_at "q"
 refine R.D (fun e=>?_) fun e=>?_
 ·walk_at "q"
  refine ⟨ns,1,rfl,by decide,?_⟩
  generalize ns.getD _ 0=far
  walk_at "q"
  rw [e4]
  exact qY hn (by lia) h
 ·walk_at "q"
  refine ⟨ns,1,rfl,by decide,?_⟩
  generalize ns.getD _ 0=far
  walk_at "q"
  rw [e4]
  exact qY hn (by lia) h
def top (i:Nat):Stmt:=PySem.Challenge.pw_kinlook_k50_walks_told.main.body.getD i (.Pass ⟨0,0,0,0⟩)
abbrev cz:Stmt:=top 4
abbrev jC:List Str:=["thing"]
abbrev cU:Stmt:=top 5
abbrev qz:List Str:=["thing"]
abbrev aF:Stmt:=top 18
abbrev eO:List Str:=["m", "state"]
abbrev cR:Stmt:=top 19
abbrev qI:List Str:=["m", "ways", "start", "deed", "end"]
abbrev aY:Stmt:=top 21
abbrev iV:List Str:=["ways", "state", "walks", "waiting", "start", "end"]
abbrev bH:Stmt:=top 22
abbrev jR:List Str:=["m", "p", "deed", "q", "ways", "walks", "near", "far", "last"]
abbrev aW:Stmt:=top 24
abbrev iJ:List Str:=["_law_script", "_law_k"]
abbrev bx:Stmt:=top 25
abbrev fj:List Str:=["_law_cell", "_law_letters", "_law_base"]
abbrev aZ:Stmt:=top 26
abbrev jj:List Str:=["_law_script", "_law_many", "_law_deeds_here", "_law_first", "_law_known", "_law_k", "_law_cell", "_law_deed", "_law_here", "_law_left", "_law_there"]
abbrev bA:Stmt:=top 27
abbrev jo:List Str:=["_law_m", "_law_came", "_law_found", "_law_state", "_law_k", "_law_step"]
abbrev bR:Stmt:=top 28
abbrev mF:List Str:=["_law_m", "_law_p", "_law_deed", "_law_came", "_law_behind", "_law_step"]
abbrev bB:Stmt:=top 29
abbrev jy:List Str:=["_law_m", "_law_p", "_law_deed", "_law_q", "_law_found", "_law_here", "_law_open_ones", "_law_step"]
abbrev bK:Stmt:=top 30
abbrev lB:List Str:=["_law_m", "_law_p", "_law_deed", "_law_q", "_law_found", "e", "_law_others"]
abbrev aU:Stmt:=top 31
abbrev gP:List Str:=["_law_m", "_law_far", "_law_word", "_law_p", "_law_wrong", "_law_deed"]
abbrev jU:Stmt:=top 32
abbrev zy:List Str:=["_law_script", "_law_cell", "_law_many", "_law_far", "_law_deeds_here", "_law_m", "_law_copied", "_law_deed", "_law_k", "_law_p", "_law_came", "_law_j", "_law_q", "_law_found"]
abbrev rn:List Str:=["NoDeed", "NoState"]
structure Txt (K:PySem.W.Frag) (mg:Str->Option Value):Prop where
 n_ValueError:mg "ValueError" = none
 n_all:mg "all" = none
 n_enumerate:mg "enumerate" = none
 n_isinstance:mg "isinstance" = none
 n_len:mg "len" = none
 n_list:mg "list" = none
 n_min:mg "min" = none
 n_range:mg "range" = none
 n_sorted:mg "sorted" = none
 n_str:mg "str" = none
 n_tuple:mg "tuple" = none
 g_HIDDEN:GlS mg "HIDDEN" "*"
 g_LETTERS:GlS mg "LETTERS" "abcdefghijklmnopqrstuvwxyz"
 g_MOST_LETTERS:GlI mg "MOST_LETTERS" 6
 x_NoDeed:XCl K mg "NoDeed"
 x_NoState:XCl K mg "NoState"
 r_KinError:Be K mg rn "KinError"
 i_NoFrame:∀ n C,n∈rn->mg n=some (.ref C)->∃ c,mg "NoFrame" = some (.ref c)/\PySem.W.kitOne K (.ref C) (.ref c)=some (decide (n = "NoFrame"))
 i_NoText:∀ n C,n∈rn->mg n=some (.ref C)->∃ c,mg "NoText" = some (.ref c)/\PySem.W.kitOne K (.ref C) (.ref c)=some (decide (n = "NoText"))
 i_TooBig:∀ n C,n∈rn->mg n=some (.ref C)->∃ c,mg "TooBig" = some (.ref c)/\PySem.W.kitOne K (.ref C) (.ref c)=some (decide (n = "TooBig"))
 i_NoMachine:∀ n C,n∈rn->mg n=some (.ref C)->∃ c,mg "NoMachine" = some (.ref c)/\PySem.W.kitOne K (.ref C) (.ref c)=some (decide (n = "NoMachine"))
 i_NoRow:∀ n C,n∈rn->mg n=some (.ref C)->∃ c,mg "NoRow" = some (.ref c)/\PySem.W.kitOne K (.ref C) (.ref c)=some (decide (n = "NoRow"))
 i_NoName:∀ n C,n∈rn->mg n=some (.ref C)->∃ c,mg "NoName" = some (.ref c)/\PySem.W.kitOne K (.ref C) (.ref c)=some (decide (n = "NoName"))
 i_NoScroll:∀ n C,n∈rn->mg n=some (.ref C)->∃ c,mg "NoScroll" = some (.ref c)/\PySem.W.kitOne K (.ref C) (.ref c)=some (decide (n = "NoScroll"))
 i_ValueError:∀ n C,n∈rn->mg n=some (.ref C)->PySem.W.kitOne K (.ref C) (.type "ValueError")=some true
 i_NoState:∀ n C,n∈rn->mg n=some (.ref C)->∃ c,mg "NoState" = some (.ref c)/\PySem.W.kitOne K (.ref C) (.ref c)=some (decide (n = "NoState"))
 i_NoDeed:∀ n C,n∈rn->mg n=some (.ref C)->∃ c,mg "NoDeed" = some (.ref c)/\PySem.W.kitOne K (.ref C) (.ref c)=some (decide (n = "NoDeed"))
section
variable {P:Program} {w:World} {K:PySem.W.Frag} {mg:Str->Option Value} {base:Heap}
theorem jQ:FnScope jC ["thing"] (defScope cz):=⟨rfl,rfl,rfl,by decide +kernel,rfl,by decide +kernel,by decide +kernel⟩
theorem qD {f:Addr} {fd:FuncData} (F:Fun K "is_open" "is_open" cz f fd) (T:Txt K mg)  : FnOk P w K mg base CX0 1 f fd ["thing"] (aA K b8) :=
 FunQ.ok (t:=iU) F jQ n6 (fun cdv A outer s H E hr =>
  have nd:=jQ.nd
  have hu:=hr.units
  (aj (bY (qt_w (qC (gw (je (vm T.n_isinstance (qv 0) (rK T.n_str wu)))) (pH (gw (pO sY sY y_ y_ au (dg bU ig rfl T.n_len jl (qv 0)) (q_gi T.g_MOST_LETTERS))))))
   (ao (a_ q_bl))
   aK)
   (ao (a_ (dg kAll Aw rfl T.n_all Bc (wW (tn:=["sign"]) (cn:=[]) (ix:=[]) rfl (wA (Bu (qv 0))) (gA.of (sc:=defScope cz) (N:=jC) rfl rfl (by decide +kernel)) (fun _ _ _ _=>(aV (i:=0) (show (["sign"]:List Str).Nodup by decide +kernel) rfl (Or.inl rfl) (.inr rfl))) (fun _ _ _ _=>uw) (fun _ _ _ _=>(mU (kIn (K:=K) hu) qm (qv 0) (q_gs T.g_LETTERS) (by rfl))))))))) tM
theorem eQ:FnScope eO ["m", "state"] (defScope aF):=⟨rfl,rfl,rfl,by decide +kernel,rfl,by decide +kernel,by decide +kernel⟩
theorem lK {f:Addr} (T:Txt K mg)  (cdv:Value) (A:Around) (outer:List PySem.Env) (s:Shared) (H:Hp) (E:XK) (hr:Room 0 (A.deeper (envOfC "check_state" (defScope aF) s.heap.objs.size f cdv))) :
  QSs (cxOf (CXx P w mg rn) P w K mg base eO "check_state" (defScope aF) f cdv A outer s H E) K (LX rn mg E) (defBody aF) cX :=
 have nd:=eQ.nd
 have hu:(A.deeper (envOfC "check_state" (defScope aF) s.heap.objs.size f cdv)).units+64<cLine:=hr.units
 (ao (bY (gw (pO sY wg y_ Az au (qv 1) (q_ix hu (qv 0) au)))
   (ao (pM rfl wN T.x_NoState (.tail _ (.head _)) bh))
   aK))
theorem jm {f:Addr} {fd:FuncData} (F:Fun K "check_state" "check_state" aF f fd) (T:Txt K mg)  : FnOk P w K mg base (CXx P w mg rn) 1 f fd ["m", "state"] (dI K rn mg aL) :=
 FunX.ok F eQ gY (lK T ) kj
theorem jO:FnScope qI ["m"] (defScope cR):=⟨rfl,rfl,rfl,by decide +kernel,rfl,by decide +kernel,by decide +kernel⟩
theorem qF {f:Addr} {fd:FuncData} (F:Fun K "ways_of" "ways_of" cR f fd) (T:Txt K mg)  : FnOk P w K mg base CX0 1 f fd ["m"] (aA K bV) :=
 FunQ.ok (t:=g8) F jO nQ (fun cdv A outer s H E hr =>
  have nd:=jO.nd
  have hu:=hr.units
  (aj (aJ (i:=1) nd rfl (Or.inl rfl) qU)
   (aj (aM 0 (dB PassesOwn.never rfl (gk (q_ix hu (qv 0) au)) (wU rfl (fD (aV (i:=2) nd rfl (Or.inl rfl)) (fD (aV (i:=3) nd rfl (Or.inl rfl)) (fD (aV (i:=4) nd rfl (Or.inl rfl)) uh))))
   (ao (aM 4 (aM 3 (aM 2 (CV hu (pv 1) (dU (aa (qv 2) (aa (qv 3) az))) (qv 4))))))))
   (ao (lF (pv 1)))))) uJ
theorem dO:FnScope iV ["ways", "state"] (defScope aY):=⟨rfl,rfl,rfl,by decide +kernel,rfl,by decide +kernel,by decide +kernel⟩
theorem iM {f:Addr} {fd:FuncData} (F:Fun K "hidden_walks" "hidden_walks" aY f fd) (T:Txt K mg)  : FnOk P w K mg base CX0 1 f fd ["ways", "state"] (aA K aG) :=
 FunQ.ok (t:=cI) F dO gG (fun cdv A outer s H E hr =>
  have nd:=dO.nd
  have hu:=hr.units
  (aj (aJ (i:=2) nd rfl (Or.inl rfl) (vU (qv 1) (q_fz (dH az))))
   (aj (aM 1 (aJ (i:=3) nd rfl (Or.inl rfl) (dH (aa (qv 1) az))))
   (aj (oX PassesOwn.never (yL (qv 3))
   (aj (zG (i:=4) nd rfl (Or.inl rfl) (cB (pv 3)))
   (ao (aM 4 (dB PassesOwn.never rfl (gk (Bp hu (qv 0) (dU (aa (qv 4) (aa (q_gs T.g_HIDDEN) az))) (q_fz (dH az)))) (aV (i:=5) nd rfl (Or.inl rfl))
   (ao (bY (aR (Af (K:=K) hu) qm (qv 5) (qv 2) (by rfl))
   (aj (aM 5 (aM 4 (vz hu (cB (pv 2)) (qv 5) (q_fz (cM (q_ix hu (qv 2) (qv 4)) (dH (aa (dU (aa (qv 4) (aa (q_gs T.g_HIDDEN) (aa (qv 5) az)))) az)))))))
   (ao (aM 5 (wV (cB (pv 3)) (qv 5)))))
   aK)))))))
   (ao (lF (pv 2))))))) jz
theorem dR:FnScope iJ ["_law_script", "_law_k"] (defScope aW):=⟨rfl,rfl,rfl,by decide +kernel,rfl,by decide +kernel,by decide +kernel⟩
theorem iZ {f:Addr} {fd:FuncData} (F:Fun K "_law_cell_at" "_law_cell_at" aW f fd) (T:Txt K mg)  : FnOk P w K mg base CX0 1 f fd ["_law_script", "_law_k"] (aA K aD) :=
 FunQ.ok (t:=cH) F dR gM (fun cdv A outer s H E hr =>
  have nd:=dR.nd
  have hu:=hr.units
  (aj (bY (aR wg Az (qv 1) (dg bU ig rfl T.n_len jl (qv 0)) (nomark _))
   (ao (a_ (q_ix hu (qv 0) (qv 1))))
   aK)
   (ao (a_ au)))) jx
theorem fK:FnScope fj ["_law_cell"] (defScope bx):=⟨rfl,rfl,rfl,by decide +kernel,rfl,by decide +kernel,by decide +kernel⟩
theorem jY {f:Addr} {fd:FuncData} (F:Fun K "_law_deeds" "_law_deeds" bx f fd) (T:Txt K mg)  : FnOk P w K mg base CX0 1 f fd ["_law_cell"] (aA K bz) :=
 FunQ.ok (t:=dF) F fK jr (fun cdv A outer s H E hr =>
  have nd:=fK.nd
  have hu:=hr.units
  (aj (aJ (i:=1) nd rfl (Or.inr rfl) bh)
   (aj (aJ (i:=2) nd rfl (Or.inr rfl) (cM (q_ix hu (qv 1) (b7 (dM (qv 0) au) au)) (z_ (q_ix hu (qv 1) (b7 (dM (qv 0) au) au)) (b7 (dM (qv 0) au) au))))
   (aj (bY (aR (kEq (K:=K) hu) cW (b7 (dM (qv 0) au) au) au (nomark _))
   (ao (a_ (cM (dH (aa bh az)) (wW (tn:=["_law_k"]) (cn:=["_law_base", "_law_cell", "_law_letters"]) (ix:=[2,0,1]) rfl (wA (lD T.n_range (cM au (b7 (qv 0) au)))) (gA.of (sc:=defScope bx) (N:=fj) rfl rfl (by decide +kernel)) (fun _ _ _ _=>(aV (i:=0) (show (["_law_k", "_law_base", "_law_cell", "_law_letters"]:List Str).Nodup by decide +kernel) rfl (Or.inl rfl) (.inr rfl))) (fun _ _ _ _=>uw) (fun _ _ _ _=>(cM (q_ix hu (qv 3) (b7 (cM (dM (qv 2) au) (xG au (qv 0))) au)) (kZ (qv 1) (jg au) nP)))))))
   aK)
   (ao (aM 2 (a_ (kZ (dH (aa bh (aa (qv 2) (aa (cM (qv 2) bh) (aa (cM bh (kZ (qv 2) (jg au) nP)) az))))) nP (jg (cM au (b7 (qv 0) au))))))))))) mH
theorem eU:FnScope jo ["_law_m", "_law_came"] (defScope bA):=⟨rfl,rfl,rfl,by decide +kernel,rfl,by decide +kernel,by decide +kernel⟩
theorem jq {f:Addr} {fd:FuncData} (F:Fun K "_law_spread" "_law_spread" bA f fd) (T:Txt K mg)  : FnOk P w K mg base CX0 1 f fd ["_law_m", "_law_came"] (aA K aP) :=
 FunQ.ok (t:=di) F eU jb (fun cdv A outer s H E hr =>
  have nd:=eU.nd
  have hu:=hr.units
  (aj (aJ (i:=2) nd rfl (Or.inl rfl) sJ)
   (aj (aM 1 (uE PassesOwn.never rfl (qv 1) (aV (i:=3) nd rfl (Or.inl rfl))
   (ao (gh hu (cB (pv 2)) (qv 3) q_bl)) (fun _ _=>trivial)))
   (aj (dB PassesOwn.never rfl (lD T.n_range (q_ix hu (qv 0) au)) (aV (i:=4) nd rfl (Or.inl rfl))
   (ao (aM 0 (dB PassesOwn.never rfl (gk (q_ix hu (qv 0) au)) (aV (i:=5) nd rfl (Or.inl rfl))
   (ao (bY (qt_w (rD (aR (kEq (K:=K) hu) cW (q_ix hu (qv 5) au) bh (nomark _)) (nO (aR (kIn (K:=K) hu) qm (q_ix hu (qv 5) au) (qv 2) (by rfl)))))
   (ao (gh hu (cB (pv 2)) (q_ix hu (qv 5) au) q_bl))
   aK))))))
   (ao (lF (pv 2))))))) jW
theorem eV:FnScope jy ["_law_m", "_law_p", "_law_deed", "_law_q", "_law_found"] (defScope bB):=⟨rfl,rfl,rfl,by decide +kernel,rfl,by decide +kernel,by decide +kernel⟩
theorem jt {f:Addr} {fd:FuncData} (F:Fun K "_law_walked" "_law_walked" bB f fd) (T:Txt K mg)  : FnOk P w K mg base CX0 1 f fd ["_law_m", "_law_p", "_law_deed", "_law_q", "_law_found"] (aA K aX) :=
 FunQ.ok (t:=cV) F eV jh (fun cdv A outer s H E hr =>
  have nd:=eV.nd
  have hu:=hr.units
  (aj (bY (qt_w (qC (gw (je (vm T.n_isinstance (qv 4) (rK T.n_list n_)))) (pH (aR Bq Dg (dg bU ig rfl T.n_len jl (qv 4)) (xX (xG au (q_ix hu (qv 0) au)) au) (nomark _)))))
   (ao (a_ q_bl))
   aK)
   (aj (aM 1 (aJ (i:=5) nd rfl (Or.inl rfl) (qv 1)))
   (aj (aJ (i:=6) nd rfl (Or.inl rfl) (dH az))
   (aj (aM 4 (dB PassesOwn.never rfl (gk (qv 4)) (aV (i:=7) nd rfl (Or.inl rfl))
   (aj (bY (qt_w (qC (gw (je (vm T.n_isinstance (qv 7) (rK T.n_tuple uQ)))) (qC (aR (yP (K:=K) hu) zT (qv 7) (q_ix hu (qv 0) au) (by rfl)) (pH (aR (kNe (K:=K) hu) tH (q_ix hu (qv 7) au) (qv 5) (nomark _))))))
   (ao (a_ q_bl))
   aK)
   (aj (bY (aR (kNe (K:=K) hu) tH (q_ix hu (qv 7) au) bh (nomark _))
   (ao (wV (cB (pv 6)) (q_ix hu (qv 7) au)))
   aK)
   (ao (aJ (i:=5) nd rfl (Or.inl rfl) (q_ix hu (qv 7) au)))))))
   (aj (bY (aR (kEq (K:=K) hu) cW (qv 2) bh (nomark _))
   (ao (a_ (vJ (mU (kEq (K:=K) hu) cW (qv 6) (dH az) (nomark _)) (uD (mU (kEq (K:=K) hu) cW (qv 5) (qv 3) (nomark _))))))
   aK)
   (ao (aM 2 (a_ (vJ (mU (kEq (K:=K) hu) cW (qv 6) (dH (aa (qv 2) az)) (nomark _)) (uD (mU (kEq (K:=K) hu) cW (qv 5) (qv 3) (nomark _))))))))))))) kJ
theorem jG:FnScope qz ["thing"] (defScope cU):=⟨rfl,rfl,rfl,by decide +kernel,rfl,by decide +kernel,by decide +kernel⟩
theorem qJ {f:Addr} {fd:FuncData} (F:Fun K "is_deed" "is_deed" cU f fd) (T:Txt K mg) (c_is_open:Cal P w K mg base 1 "is_open" ["thing"] (aA K b8)):FnOk P w K mg base CX0 2 f fd ["thing"] (aA K bO) :=
 FunQ.ok (t:=iy) F jG nW (fun cdv A outer s H E hr =>
  have nd:=jG.nd
  have hu:=hr.units
  (ao (a_ (q_or (dC c_is_open (hr.mono (by decide)) (aa (qv 0) az)) (uD (vJ (vm T.n_isinstance (qv 0) (rK T.n_str wu)) (uD (mU (kEq (K:=K) hu) cW (qv 0) (q_gs T.g_HIDDEN) (nomark _))))))))) tO
theorem dG:FnScope jj ["_law_script", "_law_many", "_law_deeds_here"] (defScope aZ):=⟨rfl,rfl,rfl,by decide +kernel,rfl,by decide +kernel,by decide +kernel⟩
theorem i_ {f:Addr} {fd:FuncData} (F:Fun K "_law_machine" "_law_machine" aZ f fd) (T:Txt K mg) (c__law_cell_at:Cal P w K mg base 1 "_law_cell_at" ["_law_script", "_law_k"] (aA K aD)):FnOk P w K mg base CX0 2 f fd ["_law_script", "_law_many", "_law_deeds_here"] (aA K aQ) :=
 FunQ.ok (t:=cL) F dG gO (fun cdv A outer s H E hr =>
  have nd:=dG.nd
  have hu:=hr.units
  (aj (aJ (i:=3) nd rfl (Or.inl rfl) (dC c__law_cell_at (hr.mono (by decide)) (aa (qv 0) (aa au az))))
   (aj (aJ (i:=4) nd rfl (Or.inl rfl) qU)
   (aj (aM 0 (dB PassesOwn.never rfl (xu T.n_enumerate (kZ (qv 0) (jg au) (jg au))) (wU rfl (fD (aV (i:=5) nd rfl (Or.inl rfl)) (fD (aV (i:=6) nd rfl (Or.inl rfl)) uh)))
   (aj (aJ (i:=7) nd rfl (Or.inl rfl) (q_ix hu (qv 2) (b7 (dM (dM (qv 6) (qv 1)) (qv 1)) (dg bU ig rfl T.n_len jl (qv 2)))))
   (aj (bY (qt_w (rD (aR (kEq (K:=K) hu) cW (b7 (qv 3) au) au (nomark _)) (nO (aR (kEq (K:=K) hu) cW (b7 (qv 5) au) au (nomark _)))))
   (ao (aJ (i:=7) nd rfl (Or.inl rfl) bh))
   aK)
   (ao (gh hu (cB (pv 4)) (dU (aa (b7 (qv 6) (qv 1)) (aa (qv 7) (aa (b7 (dM (qv 6) (qv 1)) (qv 1)) az)))) q_bl))))))
   (aj (bY (aR (kEq (K:=K) hu) cW (b7 (dM (qv 3) au) au) au (nomark _))
   (aj (aJ (i:=8) nd rfl (Or.inl rfl) au)
   (aj (aJ (i:=9) nd rfl (Or.inl rfl) (uO T.n_list T.n_range rfl au (qv 1)))
   (aj (oX PassesOwn.never (aR (kNe (K:=K) hu) tH (qv 9) (dH az) (nomark _))
   (aj (vq (i:=10) nd rfl (Or.inl rfl) (cB (pv 9)) (b7 (dM (dM (qv 3) au) (cM (dg bU ig rfl T.n_len jl (qv 9)) au)) (dg bU ig rfl T.n_len jl (qv 9))))
   (aj (gh hu (cB (pv 4)) (dU (aa (qv 8) (aa bh (aa (qv 10) az)))) q_bl)
   (ao (aM 10 (aJ (i:=8) nd rfl (Or.inl rfl) (qv 10)))))))
   (ao (bY (aR (kEq (K:=K) hu) cW (b7 (dM (qv 3) au) au) au (nomark _))
   (ao (gh hu (cB (pv 4)) (dU (aa (qv 8) (aa bh (aa au az)))) q_bl))
   aK)))))
   aK)
   (ao (rF (qm_v (pv 1) (qm_e (dg Ad vP rfl T.n_sorted sG (qj jP tX rfl T.n_list n_ (qv 4))) wK))))))))) jw
theorem gn:FnScope mF ["_law_m", "_law_p", "_law_deed"] (defScope bR):=⟨rfl,rfl,rfl,by decide +kernel,rfl,by decide +kernel,by decide +kernel⟩
theorem mC {f:Addr} {fd:FuncData} (F:Fun K "_law_come" "_law_come" bR f fd) (T:Txt K mg) (c__law_spread:Cal P w K mg base 1 "_law_spread" ["_law_m", "_law_came"] (aA K aP)):FnOk P w K mg base CX0 2 f fd ["_law_m", "_law_p", "_law_deed"] (aA K bJ) :=
 FunQ.ok (t:=eX) F gn lE (fun cdv A outer s H E hr =>
  have nd:=gn.nd
  have hu:=hr.units
  (aj (aJ (i:=3) nd rfl (Or.inl rfl) (dC c__law_spread (hr.mono (by decide)) (aa (qv 0) (aa (xP (qv 1) q_bl) az))))
   (aj (bY (aR (kEq (K:=K) hu) cW (qv 2) bh (nomark _))
   (ao (lF (pv 3)))
   aK)
   (aj (aJ (i:=4) nd rfl (Or.inl rfl) sJ)
   (aj (aM 0 (dB PassesOwn.never rfl (gk (q_ix hu (qv 0) au)) (aV (i:=5) nd rfl (Or.inl rfl))
   (ao (bY (qt_w (rD (aR (kEq (K:=K) hu) cW (q_ix hu (qv 5) au) (qv 2) (nomark _)) (nO (aR (kIn (K:=K) hu) qm (q_ix hu (qv 5) au) (qv 3) (by rfl)))))
   (ao (gh hu (cB (pv 4)) (q_ix hu (qv 5) au) q_bl))
   aK))))
   (ao (a_ (dC c__law_spread (hr.mono (by decide)) (aa (qv 0) (aa (qv 4) az)))))))))) nG
theorem jA:FnScope jR ["m", "p", "deed", "q"] (defScope bH):=⟨rfl,rfl,rfl,by decide +kernel,rfl,by decide +kernel,by decide +kernel⟩
theorem tD {f:Addr} (T:Txt K mg) (c_check_state:CalX P w K mg base rn 1 "check_state" ["m", "state"] aL) (c_ways_of:Cal P w K mg base 1 "ways_of" ["m"] (aA K bV)) (c_hidden_walks:Cal P w K mg base 1 "hidden_walks" ["ways", "state"] (aA K aG)) (c_is_deed:Cal P w K mg base 2 "is_deed" ["thing"] (aA K bO)) (cdv:Value) (A:Around) (outer:List PySem.Env) (s:Shared) (H:Hp) (E:XK) (hr:Room 2 (A.deeper (envOfC "walk_of" (defScope bH) s.heap.objs.size f cdv))) :
  QSs (cxOf (CXx P w mg rn) P w K mg base jR "walk_of" (defScope bH) f cdv A outer s H E) K (LX rn mg E) (defBody bH) iD :=
 have nd:=jA.nd
 have hu:(A.deeper (envOfC "walk_of" (defScope bH) s.heap.objs.size f cdv)).units+64<cLine:=hr.units
 (aj (pq c_check_state (hr.mono (by decide)) Ag (aa (qv 0) (aa (qv 1) az)))
   (aj (pq c_check_state (hr.mono (by decide)) Ag (aa (qv 0) (aa (qv 3) az)))
   (aj (bY (gw (je (dC c_is_deed (hr.mono (by decide)) (aa (qv 2) az))))
   (ao (pM rfl wN T.x_NoDeed (.head _) bh))
   aK)
   (aj (aJ (i:=4) nd rfl (Or.inl rfl) (dC c_ways_of (hr.mono (by decide)) (aa (qv 0) az)))
   (aj (aM 4 (m_ (i:=5) nd rfl (Or.inl rfl) (dC c_hidden_walks (hr.mono (by decide)) (aa (qv 4) (aa (qv 1) az)))))
   (aj (bY (aR (kEq (K:=K) hu) cW (qv 2) (q_gs T.g_HIDDEN) (nomark _))
   (ao (a_ (vY hu (qv 5) (qv 3))))
   aK)
   (aj (aM 5 (Bm (uE PassesOwn.leaving rfl (qv 5) (aV (i:=6) nd rfl (Or.inl rfl))
   (ao (aM 2 (aM 6 (dB PassesOwn.leaving rfl (gk (Bp hu (qv 4) (dU (aa (qv 6) (aa (qv 2) az))) (q_fz (dH az)))) (aV (i:=7) nd rfl (Or.inl rfl))
   (aj (m_ (i:=8) nd rfl (Or.inl rfl) (vY hu (dC c_hidden_walks (hr.mono (by decide)) (aa (qv 4) (aa (qv 7) az))) (qv 3)))
   (ao (bY (aR op_notN wZ (qv 8) yI (nomark _))
   (ao (aM 7 (aM 2 (aM 6 (a_ (cM (cM (q_ix hu (qv 5) (qv 6)) (dH (aa (dU (aa (qv 6) (aa (qv 2) (aa (qv 7) az)))) az))) (qv 8)))))))
   aK))))))) (fun _ _=>trivial))))
   (ao (a_ yI)))))))))
theorem qN {f:Addr} {fd:FuncData} (F:Fun K "walk_of" "walk_of" bH f fd) (T:Txt K mg) (c_check_state:CalX P w K mg base rn 1 "check_state" ["m", "state"] aL) (c_ways_of:Cal P w K mg base 1 "ways_of" ["m"] (aA K bV)) (c_hidden_walks:Cal P w K mg base 1 "hidden_walks" ["ways", "state"] (aA K aG)) (c_is_deed:Cal P w K mg base 2 "is_deed" ["thing"] (aA K bO)):FnOk P w K mg base (CXx P w mg rn) 3 f fd ["m", "p", "deed", "q"] (dI K rn mg bL) :=
 FunX.ok F jA oH (tD T c_check_state c_ways_of c_hidden_walks c_is_deed) tL
theorem fV:FnScope lB ["_law_m", "_law_p", "_law_deed", "_law_q"] (defScope bK):=⟨rfl,rfl,rfl,by decide +kernel,rfl,by decide +kernel,by decide +kernel⟩
theorem k_ {f:Addr} {fd:FuncData} (F:Fun K "_law_asked" "_law_asked" bK f fd) (T:Txt K mg) (c_walk_of:CalX P w K mg base rn 3 "walk_of" ["m", "p", "deed", "q"] bL):FnOk P w K mg base CX0 4 f fd ["_law_m", "_law_p", "_law_deed", "_law_q"] (aA K aO) :=
 FunQ.ok (t:=dW) F fV jn (fun cdv A outer s H E hr =>
  have nd:=fV.nd
  have hu:=hr.units
  (aj (zJ (j:=5) (ρh:=fun a=>[none,none,none,none,none,some (.xc a),none]) T.r_KinError nd rfl rfl rfl rfl (fun a=>rfl) (fun pn xe E1 hx1=>(ao (vd c_walk_of (hr.mono (by decide)) hx1 (i:=4) nd rfl (Or.inl rfl) (aa (qv 0) (aa (qv 1) (aa (qv 2) (aa (qv 3) az)))))))
   (fun pn a oe n C hn hm xc hp hcl=>by
    obtain ⟨c_NoFrame,m_NoFrame,k_NoFrame⟩:=T.i_NoFrame n C hn hm
    obtain ⟨c_NoText,m_NoText,k_NoText⟩:=T.i_NoText n C hn hm
    obtain ⟨c_TooBig,m_TooBig,k_TooBig⟩:=T.i_TooBig n C hn hm
    obtain ⟨c_NoMachine,m_NoMachine,k_NoMachine⟩:=T.i_NoMachine n C hn hm
    obtain ⟨c_NoRow,m_NoRow,k_NoRow⟩:=T.i_NoRow n C hn hm
    obtain ⟨c_NoName,m_NoName,k_NoName⟩:=T.i_NoName n C hn hm
    obtain ⟨c_NoScroll,m_NoScroll,k_NoScroll⟩:=T.i_NoScroll n C hn hm
    obtain ⟨c_NoState,m_NoState,k_NoState⟩:=T.i_NoState n C hn hm
    obtain ⟨c_NoDeed,m_NoDeed,k_NoDeed⟩:=T.i_NoDeed n C hn hm
    exact (aj (aJ (i:=6) nd rfl (Or.inl rfl) (dH (aa (iz (vc:=.ref c_NoMachine) (j:=5) T.n_isinstance hp hcl xc k_NoMachine (pv 5) (pe_glob rfl m_NoMachine rfl) (fun _ r=>r)) (aa (iz (vc:=.ref c_TooBig) (j:=5) T.n_isinstance hp hcl xc k_TooBig (pv 5) (pe_glob rfl m_TooBig rfl) (fun _ r=>r)) (aa (iz (vc:=.ref c_NoText) (j:=5) T.n_isinstance hp hcl xc k_NoText (pv 5) (pe_glob rfl m_NoText rfl) (fun _ r=>r)) (aa (iz (vc:=.ref c_NoFrame) (j:=5) T.n_isinstance hp hcl xc k_NoFrame (pv 5) (pe_glob rfl m_NoFrame rfl) (fun _ r=>r)) az))))))
   (aj (aJ (i:=6) nd rfl (Or.inl rfl) (cM (qv 6) (dH (aa (iz (vc:=.ref c_NoScroll) (j:=5) T.n_isinstance hp hcl xc k_NoScroll (pv 5) (pe_glob rfl m_NoScroll rfl) (fun _ r=>r)) (aa (iz (vc:=.ref c_NoName) (j:=5) T.n_isinstance hp hcl xc k_NoName (pv 5) (pe_glob rfl m_NoName rfl) (fun _ r=>r)) (aa (iz (vc:=.ref c_NoRow) (j:=5) T.n_isinstance hp hcl xc k_NoRow (pv 5) (pe_glob rfl m_NoRow rfl) (fun _ r=>r)) az))))))
   (aj (bY (qt_w (qC (aR (kIn (K:=K) hu) qm q_bl (qv 6) (by rfl)) (qC (gw (je (iz (vc:=.ty "ValueError") (j:=5) T.n_isinstance hp hcl xc (T.i_ValueError n C hn hm) (pv 5) (rK T.n_ValueError lu) (fun _ r=>r)))) (pH (aR (kEq (K:=K) hu) cW (iz (vc:=.ref c_NoState) (j:=5) T.n_isinstance hp hcl xc k_NoState (pv 5) (pe_glob rfl m_NoState rfl) (fun _ r=>r)) (iz (vc:=.ref c_NoDeed) (j:=5) T.n_isinstance hp hcl xc k_NoDeed (pv 5) (pe_glob rfl m_NoDeed rfl) (fun _ r=>r)) (nomark _))))))
   (ao (a_ (dU (aa bh (aa bh az)))))
   aK)
   (aj (bY (je (iz (vc:=.ref c_NoState) (j:=5) T.n_isinstance hp hcl xc k_NoState (pv 5) (pe_glob rfl m_NoState rfl) (fun _ r=>r)))
   (ao (a_ (dU (aa bh (aa bh az)))))
   aK)
   (ao (a_ (dU (aa bh (aa bh az)))))))))))
   (ao (rF (qm_e bh (qm_v (pv 4) wK)))))) lV
theorem dw:FnScope gP ["_law_m", "_law_far"] (defScope aU):=⟨rfl,rfl,rfl,by decide +kernel,rfl,by decide +kernel,by decide +kernel⟩
theorem gC {f:Addr} {fd:FuncData} (F:Fun K "_law_refusals" "_law_refusals" aU f fd) (T:Txt K mg) (c__law_asked:Cal P w K mg base 4 "_law_asked" ["_law_m", "_law_p", "_law_deed", "_law_q"] (aA K aO)):FnOk P w K mg base CX0 5 f fd ["_law_m", "_law_far"] (aA K aN) :=
 FunQ.ok (t:=cg) F dw fY (fun cdv A outer s H E hr =>
  have nd:=dw.nd
  have hu:=hr.units
  (aj (aJ (i:=2) nd rfl (Or.inl rfl) (q_ix hu (dH (aa bh (aa bh (aa bh (aa bh (aa bh (aa bh az))))))) (b7 (qv 1) au)))
   (aj (aJ (i:=3) nd rfl (Or.inl rfl) (b7 (qv 1) (q_ix hu (qv 0) au)))
   (aj (dB PassesOwn.never rfl (wO (dU (aa (Bk au) (aa (xX (Bk au) (b7 (qv 1) (Ae au au))) (aa (q_ix hu (qv 0) au) (aa (cM (q_ix hu (qv 0) au) (b7 (qv 1) (Ae au au))) az)))))) (aV (i:=4) nd rfl (Or.inl rfl))
   (ao (aM 2 (dB PassesOwn.never rfl (wO (dU (aa bh (aa bh (aa (qv 2) az))))) (aV (i:=5) nd rfl (Or.inl rfl))
   (aj (bY (aR (kNe (K:=K) hu) tH (dC c__law_asked (hr.mono (by decide)) (aa (qv 0) (aa (qv 4) (aa (qv 5) (aa (qv 3) az))))) (dU (aa bh (aa bh az))) (nomark _))
   (ao (a_ q_bl))
   aK)
   (ao (bY (aR (kNe (K:=K) hu) tH (dC c__law_asked (hr.mono (by decide)) (aa (qv 0) (aa (qv 3) (aa (qv 5) (aa (qv 4) az))))) (dU (aa bh (aa bh az))) (nomark _))
   (ao (a_ q_bl))
   aK)))))))
   (ao (a_ (mU (kEq (K:=K) hu) cW (dC c__law_asked (hr.mono (by decide)) (aa (qv 0) (aa (qv 3) (aa (qv 2) (aa (xX (q_ix hu (qv 0) au) au) az))))) (dU (aa bh (aa bh az))) (nomark _)))))))) ji
theorem wy:FnScope zy ["_law_script"] (defScope jU):=⟨rfl,rfl,rfl,by decide +kernel,rfl,by decide +kernel,by decide +kernel⟩
theorem ok_law {f:Addr} {fd:FuncData} (F:Fun K "law" "law" jU f fd) (T:Txt K mg) (c__law_cell_at:Cal P w K mg base 1 "_law_cell_at" ["_law_script", "_law_k"] (aA K aD)) (c__law_deeds:Cal P w K mg base 1 "_law_deeds" ["_law_cell"] (aA K bz)) (c__law_machine:Cal P w K mg base 2 "_law_machine" ["_law_script", "_law_many", "_law_deeds_here"] (aA K aQ)) (c__law_come:Cal P w K mg base 2 "_law_come" ["_law_m", "_law_p", "_law_deed"] (aA K bJ)) (c__law_refusals:Cal P w K mg base 5 "_law_refusals" ["_law_m", "_law_far"] (aA K aN)) (c_walk_of:CalX P w K mg base rn 3 "walk_of" ["m", "p", "deed", "q"] bL) (c__law_walked:Cal P w K mg base 1 "_law_walked" ["_law_m", "_law_p", "_law_deed", "_law_q", "_law_found"] (aA K aX)):FnOk P w K mg base CX0 6 f fd ["_law_script"] (aA K sp_law) :=
 FunQ.ok (t:=yl) F wy x_ (fun cdv A outer s H E hr =>
  have nd:=wy.nd
  have hu:=hr.units
  (aj (aJ (i:=1) nd rfl (Or.inl rfl) (dC c__law_cell_at (hr.mono (by decide)) (aa (qv 0) (aa au az))))
   (aj (aJ (i:=2) nd rfl (Or.inl rfl) (cM au (b7 (dM (qv 1) au) au)))
   (aj (bY (aR (kEq (K:=K) hu) cW (b7 (qv 1) au) au (nomark _))
   (ao (aJ (i:=2) nd rfl (Or.inl rfl) (cM au (b7 (dM (qv 1) au) au))))
   aK)
   (aj (aJ (i:=3) nd rfl (Or.inl rfl) (dC c__law_cell_at (hr.mono (by decide)) (aa (qv 0) (aa au az))))
   (aj (aJ (i:=4) nd rfl (Or.inl rfl) (dC c__law_deeds (hr.mono (by decide)) (aa (qv 3) az)))
   (aj (aJ (i:=5) nd rfl (Or.inl rfl) (dC c__law_machine (hr.mono (by decide)) (aa (qv 0) (aa (qv 2) (aa (qv 4) az)))))
   (aj (aM 2 (aJ (i:=6) nd rfl (Or.inl rfl) (dU (aa (qv 2) (aa (qj jP tX rfl T.n_list n_ (q_ix hu (qv 5) au)) az)))))
   (aj (aM 6 (aM 5 (aM 4 (aJ (i:=7) nd rfl (Or.inl rfl) (q_ix hu (cM (qv 4) (dH (aa bh az))) (b7 (dM (qv 3) au) (cM (dg bU ig rfl T.n_len jl (qv 4)) au)))))))
   (aj (dB PassesOwn.never rfl (lD T.n_range (uC vX uq rfl T.n_min wH (qv 2) au)) (aV (i:=8) nd rfl (Or.inl rfl))
   (aj (aJ (i:=9) nd rfl (Or.inl rfl) (b7 (cM (dM (qv 3) au) (qv 8)) (qv 2)))
   (aj (aJ (i:=10) nd rfl (Or.inl rfl) (dC c__law_come (hr.mono (by decide)) (aa (qv 5) (aa (qv 9) (aa (qv 7) az)))))
   (ao (aM 10 (dB PassesOwn.never rfl (lD T.n_range (uC vX uq rfl T.n_min wH (qv 2) au)) (aV (i:=11) nd rfl (Or.inl rfl))
   (aj (aJ (i:=12) nd rfl (Or.inl rfl) (b7 (cM (cM (dM (qv 3) au) (xG au (qv 8))) (qv 11)) (qv 2)))
   (aj (m_ (i:=13) nd rfl (Or.inl rfl) (Br c_walk_of (hr.mono (by decide)) (aa (qv 5) (aa (qv 9) (aa (qv 7) (aa (qv 12) az))))))
   (ao (bY (aR op_isN zW (qv 13) yI (nomark _))
   (ao (bY (aR (kIn (K:=K) hu) qm (qv 12) (qv 10) (by rfl))
   (ao (a_ q_bl))
   aK))
   (ao (bY (gw (je (dC c__law_walked (hr.mono (by decide)) (aa (qv 5) (aa (qv 9) (aa (qv 7) (aa (qv 12) (aa (qv 13) az))))))))
   (ao (a_ q_bl))
   aK))))))))))))
   (ao (a_ (vJ (dC c__law_refusals (hr.mono (by decide)) (aa (qv 5) (aa (qv 3) az))) (uD (mU (kEq (K:=K) hu) cW (qv 5) (qv 6) (nomark _)))))))))))))))) Cz
end
theorem us1 {us:List Value} (h:us.length=1):∃ a0,us=[a0]:=by
 cases us with
 | nil=>simp at h
 | cons a0 us =>
 cases us with
 | nil=>exact ⟨_,rfl⟩
 | cons b us=>simp at h
theorem us2 {us:List Value} (h:us.length=2):∃ a0 a1,us=[a0,a1]:=by
 cases us with
 | nil=>simp at h
 | cons a0 us =>
 cases us with
 | nil=>simp at h
 | cons a1 us =>
 cases us with
 | nil=>exact ⟨_,_,rfl⟩
 | cons b us=>simp at h
theorem us3 {us:List Value} (h:us.length=3):∃ a0 a1 a2,us=[a0,a1,a2]:=by
 cases us with
 | nil=>simp at h
 | cons a0 us =>
 cases us with
 | nil=>simp at h
 | cons a1 us =>
 cases us with
 | nil=>simp at h
 | cons a2 us =>
 cases us with
 | nil=>exact ⟨_,_,_,rfl⟩
 | cons b us=>simp at h
theorem us4 {us:List Value} (h:us.length=4):∃ a0 a1 a2 a3,us=[a0,a1,a2,a3]:=by
 cases us with
 | nil=>simp at h
 | cons a0 us =>
 cases us with
 | nil=>simp at h
 | cons a1 us =>
 cases us with
 | nil=>simp at h
 | cons a2 us =>
 cases us with
 | nil=>simp at h
 | cons a3 us =>
 cases us with
 | nil=>exact ⟨_,_,_,_,rfl⟩
 | cons b us=>simp at h
theorem us5 {us:List Value} (h:us.length=5):∃ a0 a1 a2 a3 a4,us=[a0,a1,a2,a3,a4]:=by
 cases us with
 | nil=>simp at h
 | cons a0 us =>
 cases us with
 | nil=>simp at h
 | cons a1 us =>
 cases us with
 | nil=>simp at h
 | cons a2 us =>
 cases us with
 | nil=>simp at h
 | cons a3 us =>
 cases us with
 | nil=>simp at h
 | cons a4 us =>
 cases us with
 | nil=>exact ⟨_,_,_,_,_,rfl⟩
 | cons b us=>simp at h
theorem all_mk {l:PySem.W.OpenLaw} {w:World} {K:PySem.W.Frag} {h:Heap} {mg:Str->Option Value} {fa:Addr} (X:K.In h) (G:h.Ns mainGlobals mg) (hfa:mg "law" = some (.ref fa))
  (a0:PySem.W.nsIn K mainGlobals "is_open" = some (some (.ref f0))) (l0:K.lookup f0=some ⟨o0,d0,.func (PySem.W.fnOf "is_open" "is_open" (defArgs cz) (defBody cz) (defScope cz) .none v0 j0 p0 e0 r0 u0),t0⟩) (c0:PySem.W.codeIn K r0 "is_open" = true) (k0:PySem.W.keepIn K (.ref f0)=true)
  (a1:PySem.W.nsIn K mainGlobals "is_deed" = some (some (.ref f1))) (l1:K.lookup f1=some ⟨o1,d1,.func (PySem.W.fnOf "is_deed" "is_deed" (defArgs cU) (defBody cU) (defScope cU) .none v1 j1 p1 e1 r1 u1),t1⟩) (c1:PySem.W.codeIn K r1 "is_deed" = true) (k1:PySem.W.keepIn K (.ref f1)=true)
  (a2:PySem.W.nsIn K mainGlobals "check_state" = some (some (.ref f2))) (l2:K.lookup f2=some ⟨o2,d2,.func (PySem.W.fnOf "check_state" "check_state" (defArgs aF) (defBody aF) (defScope aF) .none v2 j2 p2 e2 r2 u2),t2⟩) (c2:PySem.W.codeIn K r2 "check_state" = true) (k2:PySem.W.keepIn K (.ref f2)=true)
  (a3:PySem.W.nsIn K mainGlobals "ways_of" = some (some (.ref f3))) (l3:K.lookup f3=some ⟨o3,d3,.func (PySem.W.fnOf "ways_of" "ways_of" (defArgs cR) (defBody cR) (defScope cR) .none v3 j3 p3 e3 r3 u3),t3⟩) (c3:PySem.W.codeIn K r3 "ways_of" = true) (k3:PySem.W.keepIn K (.ref f3)=true)
  (a4:PySem.W.nsIn K mainGlobals "hidden_walks" = some (some (.ref f4))) (l4:K.lookup f4=some ⟨o4,d4,.func (PySem.W.fnOf "hidden_walks" "hidden_walks" (defArgs aY) (defBody aY) (defScope aY) .none v4 j4 p4 e4 r4 u4),t4⟩) (c4:PySem.W.codeIn K r4 "hidden_walks" = true) (k4:PySem.W.keepIn K (.ref f4)=true)
  (a5:PySem.W.nsIn K mainGlobals "walk_of" = some (some (.ref f5))) (l5:K.lookup f5=some ⟨o5,d5,.func (PySem.W.fnOf "walk_of" "walk_of" (defArgs bH) (defBody bH) (defScope bH) .none v5 j5 p5 e5 r5 u5),t5⟩) (c5:PySem.W.codeIn K r5 "walk_of" = true) (k5:PySem.W.keepIn K (.ref f5)=true)
  (a6:PySem.W.nsIn K mainGlobals "_law_cell_at" = some (some (.ref f6))) (l6:K.lookup f6=some ⟨o6,d6,.func (PySem.W.fnOf "_law_cell_at" "_law_cell_at" (defArgs aW) (defBody aW) (defScope aW) .none v6 j6 p6 e6 r6 u6),t6⟩) (c6:PySem.W.codeIn K r6 "_law_cell_at" = true) (k6:PySem.W.keepIn K (.ref f6)=true)
  (a7:PySem.W.nsIn K mainGlobals "_law_deeds" = some (some (.ref f7))) (l7:K.lookup f7=some ⟨o7,d7,.func (PySem.W.fnOf "_law_deeds" "_law_deeds" (defArgs bx) (defBody bx) (defScope bx) .none v7 j7 p7 e7 r7 u7),t7⟩) (c7:PySem.W.codeIn K r7 "_law_deeds" = true) (k7:PySem.W.keepIn K (.ref f7)=true)
  (a8:PySem.W.nsIn K mainGlobals "_law_machine" = some (some (.ref f8))) (l8:K.lookup f8=some ⟨o8,d8,.func (PySem.W.fnOf "_law_machine" "_law_machine" (defArgs aZ) (defBody aZ) (defScope aZ) .none v8 j8 p8 e8 r8 u8),t8⟩) (c8:PySem.W.codeIn K r8 "_law_machine" = true) (k8:PySem.W.keepIn K (.ref f8)=true)
  (a9:PySem.W.nsIn K mainGlobals "_law_spread" = some (some (.ref f9))) (l9:K.lookup f9=some ⟨o9,d9,.func (PySem.W.fnOf "_law_spread" "_law_spread" (defArgs bA) (defBody bA) (defScope bA) .none v9 j9 p9 e9 r9 u9),t9⟩) (c9:PySem.W.codeIn K r9 "_law_spread" = true) (k9:PySem.W.keepIn K (.ref f9)=true)
  (a10:PySem.W.nsIn K mainGlobals "_law_come" = some (some (.ref f10))) (l10:K.lookup f10=some ⟨o10,d10,.func (PySem.W.fnOf "_law_come" "_law_come" (defArgs bR) (defBody bR) (defScope bR) .none v10 j10 p10 e10 r10 u10),t10⟩) (c10:PySem.W.codeIn K r10 "_law_come" = true) (k10:PySem.W.keepIn K (.ref f10)=true)
  (a11:PySem.W.nsIn K mainGlobals "_law_walked" = some (some (.ref f11))) (l11:K.lookup f11=some ⟨o11,d11,.func (PySem.W.fnOf "_law_walked" "_law_walked" (defArgs bB) (defBody bB) (defScope bB) .none v11 j11 p11 e11 r11 u11),t11⟩) (c11:PySem.W.codeIn K r11 "_law_walked" = true) (k11:PySem.W.keepIn K (.ref f11)=true)
  (a12:PySem.W.nsIn K mainGlobals "_law_asked" = some (some (.ref f12))) (l12:K.lookup f12=some ⟨o12,d12,.func (PySem.W.fnOf "_law_asked" "_law_asked" (defArgs bK) (defBody bK) (defScope bK) .none v12 j12 p12 e12 r12 u12),t12⟩) (c12:PySem.W.codeIn K r12 "_law_asked" = true) (k12:PySem.W.keepIn K (.ref f12)=true)
  (a13:PySem.W.nsIn K mainGlobals "_law_refusals" = some (some (.ref f13))) (l13:K.lookup f13=some ⟨o13,d13,.func (PySem.W.fnOf "_law_refusals" "_law_refusals" (defArgs aU) (defBody aU) (defScope aU) .none v13 j13 p13 e13 r13 u13),t13⟩) (c13:PySem.W.codeIn K r13 "_law_refusals" = true) (k13:PySem.W.keepIn K (.ref f13)=true)
  (a14:PySem.W.nsIn K mainGlobals "law" = some (some (.ref f14))) (l14:K.lookup f14=some ⟨o14,d14,.func (PySem.W.fnOf "law" "law" (defArgs jU) (defBody jU) (defScope jU) .none v14 j14 p14 e14 r14 u14),t14⟩) (c14:PySem.W.codeIn K r14 "law" = true) (k14:PySem.W.keepIn K (.ref f14)=true)
  (n_ValueError:PySem.W.nsIn K mainGlobals "ValueError" = some none)
  (n_all:PySem.W.nsIn K mainGlobals "all" = some none)
  (n_enumerate:PySem.W.nsIn K mainGlobals "enumerate" = some none)
  (n_isinstance:PySem.W.nsIn K mainGlobals "isinstance" = some none)
  (n_len:PySem.W.nsIn K mainGlobals "len" = some none)
  (n_list:PySem.W.nsIn K mainGlobals "list" = some none)
  (n_min:PySem.W.nsIn K mainGlobals "min" = some none)
  (n_range:PySem.W.nsIn K mainGlobals "range" = some none)
  (n_sorted:PySem.W.nsIn K mainGlobals "sorted" = some none)
  (n_str:PySem.W.nsIn K mainGlobals "str" = some none)
  (n_tuple:PySem.W.nsIn K mainGlobals "tuple" = some none)
  {t_HIDDEN:Tok} (g_HIDDEN:PySem.W.nsIn K mainGlobals "HIDDEN" = some (some (.str "*" t_HIDDEN)))
  {t_LETTERS:Tok} (g_LETTERS:PySem.W.nsIn K mainGlobals "LETTERS" = some (some (.str "abcdefghijklmnopqrstuvwxyz" t_LETTERS)))
  {t_MOST_LETTERS:Tok} (g_MOST_LETTERS:PySem.W.nsIn K mainGlobals "MOST_LETTERS" = some (some (.int 6 t_MOST_LETTERS)))
  {C_KinError:Addr} (xa_KinError:PySem.W.nsIn K mainGlobals "KinError" = some (some (.ref C_KinError)))
  {C_NoDeed:Addr} (xa_NoDeed:PySem.W.nsIn K mainGlobals "NoDeed" = some (some (.ref C_NoDeed)))
  {C_NoFrame:Addr} (xa_NoFrame:PySem.W.nsIn K mainGlobals "NoFrame" = some (some (.ref C_NoFrame)))
  {C_NoMachine:Addr} (xa_NoMachine:PySem.W.nsIn K mainGlobals "NoMachine" = some (some (.ref C_NoMachine)))
  {C_NoName:Addr} (xa_NoName:PySem.W.nsIn K mainGlobals "NoName" = some (some (.ref C_NoName)))
  {C_NoRow:Addr} (xa_NoRow:PySem.W.nsIn K mainGlobals "NoRow" = some (some (.ref C_NoRow)))
  {C_NoScroll:Addr} (xa_NoScroll:PySem.W.nsIn K mainGlobals "NoScroll" = some (some (.ref C_NoScroll)))
  {C_NoState:Addr} (xa_NoState:PySem.W.nsIn K mainGlobals "NoState" = some (some (.ref C_NoState)))
  {C_NoText:Addr} (xa_NoText:PySem.W.nsIn K mainGlobals "NoText" = some (some (.ref C_NoText)))
  {C_TooBig:Addr} (xa_TooBig:PySem.W.nsIn K mainGlobals "TooBig" = some (some (.ref C_TooBig)))
  (xe_KinError:PySem.W.excIn K C_KinError [.type "ValueError",.type "Exception",.type "BaseException",.type "object"] "ValueError.__new__" = true) (xg_KinError:PySem.W.findIn K (.ref C_KinError) "__getattr__" = some none) (xh_KinError:PySem.W.findIn K (.ref C_KinError) "__getattribute__" = some (some (.builtin "BaseException.__getattribute__"))) (xi_KinError:PySem.W.findIn K (.ref C_KinError) "__class__" = some (some (.builtin "object.__class__"))) (xj_KinError:PySem.W.mroIn K C_KinError (.type "object")=some true)
  (xe_NoDeed:PySem.W.excIn K C_NoDeed [.type "ValueError",.type "Exception",.type "BaseException",.type "object"] "ValueError.__new__" = true) (xg_NoDeed:PySem.W.findIn K (.ref C_NoDeed) "__getattr__" = some none) (xh_NoDeed:PySem.W.findIn K (.ref C_NoDeed) "__getattribute__" = some (some (.builtin "BaseException.__getattribute__"))) (xi_NoDeed:PySem.W.findIn K (.ref C_NoDeed) "__class__" = some (some (.builtin "object.__class__"))) (xj_NoDeed:PySem.W.mroIn K C_NoDeed (.type "object")=some true)
  (xe_NoState:PySem.W.excIn K C_NoState [.type "ValueError",.type "Exception",.type "BaseException",.type "object"] "ValueError.__new__" = true) (xg_NoState:PySem.W.findIn K (.ref C_NoState) "__getattr__" = some none) (xh_NoState:PySem.W.findIn K (.ref C_NoState) "__getattribute__" = some (some (.builtin "BaseException.__getattribute__"))) (xi_NoState:PySem.W.findIn K (.ref C_NoState) "__class__" = some (some (.builtin "object.__class__"))) (xj_NoState:PySem.W.mroIn K C_NoState (.type "object")=some true)
  (xs_NoDeed_KinError:PySem.W.mroIn K C_NoDeed (.ref C_KinError)=some true)
  (xt_NoDeed_NoFrame:PySem.W.kitOne K (.ref C_NoDeed) (.ref C_NoFrame)=some false)
  (xt_NoDeed_NoText:PySem.W.kitOne K (.ref C_NoDeed) (.ref C_NoText)=some false)
  (xt_NoDeed_TooBig:PySem.W.kitOne K (.ref C_NoDeed) (.ref C_TooBig)=some false)
  (xt_NoDeed_NoMachine:PySem.W.kitOne K (.ref C_NoDeed) (.ref C_NoMachine)=some false)
  (xt_NoDeed_NoRow:PySem.W.kitOne K (.ref C_NoDeed) (.ref C_NoRow)=some false)
  (xt_NoDeed_NoName:PySem.W.kitOne K (.ref C_NoDeed) (.ref C_NoName)=some false)
  (xt_NoDeed_NoScroll:PySem.W.kitOne K (.ref C_NoDeed) (.ref C_NoScroll)=some false)
  (xt_NoDeed_ValueError:PySem.W.kitOne K (.ref C_NoDeed) (.type "ValueError")=some true)
  (xt_NoDeed_NoState:PySem.W.kitOne K (.ref C_NoDeed) (.ref C_NoState)=some false)
  (xt_NoDeed_NoDeed:PySem.W.kitOne K (.ref C_NoDeed) (.ref C_NoDeed)=some true)
  (xs_NoState_KinError:PySem.W.mroIn K C_NoState (.ref C_KinError)=some true)
  (xt_NoState_NoFrame:PySem.W.kitOne K (.ref C_NoState) (.ref C_NoFrame)=some false)
  (xt_NoState_NoText:PySem.W.kitOne K (.ref C_NoState) (.ref C_NoText)=some false)
  (xt_NoState_TooBig:PySem.W.kitOne K (.ref C_NoState) (.ref C_TooBig)=some false)
  (xt_NoState_NoMachine:PySem.W.kitOne K (.ref C_NoState) (.ref C_NoMachine)=some false)
  (xt_NoState_NoRow:PySem.W.kitOne K (.ref C_NoState) (.ref C_NoRow)=some false)
  (xt_NoState_NoName:PySem.W.kitOne K (.ref C_NoState) (.ref C_NoName)=some false)
  (xt_NoState_NoScroll:PySem.W.kitOne K (.ref C_NoState) (.ref C_NoScroll)=some false)
  (xt_NoState_ValueError:PySem.W.kitOne K (.ref C_NoState) (.type "ValueError")=some true)
  (xt_NoState_NoState:PySem.W.kitOne K (.ref C_NoState) (.ref C_NoState)=some true)
  (xt_NoState_NoDeed:PySem.W.kitOne K (.ref C_NoState) (.ref C_NoDeed)=some false)
  : ∃ fd:FuncData,(∀ (s:Shared) (v:Value),BindsTo s fd ⟨[v],[]⟩ [("_law_script",v)])/\∀ base:Heap,K.In base->base.Ns mainGlobals mg->FnOk l.prog w K mg base CX0 6 fa fd ["_law_script"] (aA K sp_law):=by
 have e:=hfa.symm.trans (PySem.W.mg_of X G a14)
 cases e
 have ma_KinError:=PySem.W.mg_of X G xa_KinError
 have ma_NoDeed:=PySem.W.mg_of X G xa_NoDeed
 have ma_NoFrame:=PySem.W.mg_of X G xa_NoFrame
 have ma_NoMachine:=PySem.W.mg_of X G xa_NoMachine
 have ma_NoName:=PySem.W.mg_of X G xa_NoName
 have ma_NoRow:=PySem.W.mg_of X G xa_NoRow
 have ma_NoScroll:=PySem.W.mg_of X G xa_NoScroll
 have ma_NoState:=PySem.W.mg_of X G xa_NoState
 have ma_NoText:=PySem.W.mg_of X G xa_NoText
 have ma_TooBig:=PySem.W.mg_of X G xa_TooBig
 have mk_KinError:XcK K C_KinError:=⟨xe_KinError,xg_KinError,xh_KinError,xi_KinError,xj_KinError⟩
 have mk_NoDeed:XcK K C_NoDeed:=⟨xe_NoDeed,xg_NoDeed,xh_NoDeed,xi_NoDeed,xj_NoDeed⟩
 have mk_NoState:XcK K C_NoState:=⟨xe_NoState,xg_NoState,xh_NoState,xi_NoState,xj_NoState⟩
 have each:∀ {G:Str->Addr->Prop},G "NoDeed" C_NoDeed->G "NoState" C_NoState->∀ n C,n∈rn->mg n=some (.ref C)->G n C:=by
  intro G q_NoDeed q_NoState n C hn hm
  simp only [rn,xam,xbo,or_false] at hn
  rcases hn with rfl | rfl
  ·rw [ma_NoDeed] at hm; cases hm; exact q_NoDeed
  ·rw [ma_NoState] at hm; cases hm; exact q_NoState
 have T:Txt K mg:=⟨PySem.W.mg_none_of X G n_ValueError,PySem.W.mg_none_of X G n_all,PySem.W.mg_none_of X G n_enumerate,PySem.W.mg_none_of X G n_isinstance,PySem.W.mg_none_of X G n_len,PySem.W.mg_none_of X G n_list,PySem.W.mg_none_of X G n_min,PySem.W.mg_none_of X G n_range,PySem.W.mg_none_of X G n_sorted,PySem.W.mg_none_of X G n_str,PySem.W.mg_none_of X G n_tuple,⟨_,PySem.W.mg_of X G g_HIDDEN⟩,⟨_,PySem.W.mg_of X G g_LETTERS⟩,⟨_,PySem.W.mg_of X G g_MOST_LETTERS⟩,⟨_,ma_NoDeed,mk_NoDeed⟩,⟨_,ma_NoState,mk_NoState⟩,⟨_,ma_KinError,mk_KinError,each ⟨mk_NoDeed,xs_NoDeed_KinError⟩ ⟨mk_NoState,xs_NoState_KinError⟩⟩,each ⟨_,ma_NoFrame,xt_NoDeed_NoFrame⟩ ⟨_,ma_NoFrame,xt_NoState_NoFrame⟩,each ⟨_,ma_NoText,xt_NoDeed_NoText⟩ ⟨_,ma_NoText,xt_NoState_NoText⟩,each ⟨_,ma_TooBig,xt_NoDeed_TooBig⟩ ⟨_,ma_TooBig,xt_NoState_TooBig⟩,each ⟨_,ma_NoMachine,xt_NoDeed_NoMachine⟩ ⟨_,ma_NoMachine,xt_NoState_NoMachine⟩,each ⟨_,ma_NoRow,xt_NoDeed_NoRow⟩ ⟨_,ma_NoRow,xt_NoState_NoRow⟩,each ⟨_,ma_NoName,xt_NoDeed_NoName⟩ ⟨_,ma_NoName,xt_NoState_NoName⟩,each ⟨_,ma_NoScroll,xt_NoDeed_NoScroll⟩ ⟨_,ma_NoScroll,xt_NoState_NoScroll⟩,each xt_NoDeed_ValueError xt_NoState_ValueError,each ⟨_,ma_NoState,xt_NoDeed_NoState⟩ ⟨_,ma_NoState,xt_NoState_NoState⟩,each ⟨_,ma_NoDeed,xt_NoDeed_NoDeed⟩ ⟨_,ma_NoDeed,xt_NoState_NoDeed⟩⟩
 have F0:=fun_mk (st:=cz) l0 c0 k0
 have F1:=fun_mk (st:=cU) l1 c1 k1
 have F2:=fun_mk (st:=aF) l2 c2 k2
 have F3:=fun_mk (st:=cR) l3 c3 k3
 have F4:=fun_mk (st:=aY) l4 c4 k4
 have F5:=fun_mk (st:=bH) l5 c5 k5
 have F6:=fun_mk (st:=aW) l6 c6 k6
 have F7:=fun_mk (st:=bx) l7 c7 k7
 have F8:=fun_mk (st:=aZ) l8 c8 k8
 have F9:=fun_mk (st:=bA) l9 c9 k9
 have F10:=fun_mk (st:=bR) l10 c10 k10
 have F11:=fun_mk (st:=bB) l11 c11 k11
 have F12:=fun_mk (st:=bK) l12 c12 k12
 have F13:=fun_mk (st:=aU) l13 c13 k13
 have F14:=fun_mk (st:=jU) l14 c14 k14
 refine ⟨PySem.W.fnOf "law" "law" (defArgs jU) (defBody jU) (defScope jU) .none v14 j14 p14 e14 r14 u14,fun s v=>.of_eq rfl,fun base _ _=>?_⟩
 have C0:Cal l.prog w K mg base 1 "is_open" ["thing"] (aA K b8):=F0.cal (PySem.W.mg_of X G a0) (qD F0 T ) fun _ _ _ _ _ _ us hl=>by obtain ⟨_,rfl⟩:=us1 hl; rfl
 have C2:CalX l.prog w K mg base rn 1 "check_state" ["m", "state"] aL:=Fun.calX F2 (PySem.W.mg_of X G a2) (jm F2 T ) fun _ _ _ _ _ _ us hl=>by obtain ⟨_,_,rfl⟩:=us2 hl; rfl
 have C3:Cal l.prog w K mg base 1 "ways_of" ["m"] (aA K bV):=F3.cal (PySem.W.mg_of X G a3) (qF F3 T ) fun _ _ _ _ _ _ us hl=>by obtain ⟨_,rfl⟩:=us1 hl; rfl
 have C4:Cal l.prog w K mg base 1 "hidden_walks" ["ways", "state"] (aA K aG):=F4.cal (PySem.W.mg_of X G a4) (iM F4 T ) fun _ _ _ _ _ _ us hl=>by obtain ⟨_,_,rfl⟩:=us2 hl; rfl
 have C6:Cal l.prog w K mg base 1 "_law_cell_at" ["_law_script", "_law_k"] (aA K aD):=F6.cal (PySem.W.mg_of X G a6) (iZ F6 T ) fun _ _ _ _ _ _ us hl=>by obtain ⟨_,_,rfl⟩:=us2 hl; rfl
 have C7:Cal l.prog w K mg base 1 "_law_deeds" ["_law_cell"] (aA K bz):=F7.cal (PySem.W.mg_of X G a7) (jY F7 T ) fun _ _ _ _ _ _ us hl=>by obtain ⟨_,rfl⟩:=us1 hl; rfl
 have C9:Cal l.prog w K mg base 1 "_law_spread" ["_law_m", "_law_came"] (aA K aP):=F9.cal (PySem.W.mg_of X G a9) (jq F9 T ) fun _ _ _ _ _ _ us hl=>by obtain ⟨_,_,rfl⟩:=us2 hl; rfl
 have C11:Cal l.prog w K mg base 1 "_law_walked" ["_law_m", "_law_p", "_law_deed", "_law_q", "_law_found"] (aA K aX):=F11.cal (PySem.W.mg_of X G a11) (jt F11 T ) fun _ _ _ _ _ _ us hl=>by obtain ⟨_,_,_,_,_,rfl⟩:=us5 hl; rfl
 have C1:Cal l.prog w K mg base 2 "is_deed" ["thing"] (aA K bO):=F1.cal (PySem.W.mg_of X G a1) (qJ F1 T C0) fun _ _ _ _ _ _ us hl=>by obtain ⟨_,rfl⟩:=us1 hl; rfl
 have C8:Cal l.prog w K mg base 2 "_law_machine" ["_law_script", "_law_many", "_law_deeds_here"] (aA K aQ):=F8.cal (PySem.W.mg_of X G a8) (i_ F8 T C6) fun _ _ _ _ _ _ us hl=>by obtain ⟨_,_,_,rfl⟩:=us3 hl; rfl
 have C10:Cal l.prog w K mg base 2 "_law_come" ["_law_m", "_law_p", "_law_deed"] (aA K bJ):=F10.cal (PySem.W.mg_of X G a10) (mC F10 T C9) fun _ _ _ _ _ _ us hl=>by obtain ⟨_,_,_,rfl⟩:=us3 hl; rfl
 have C5:CalX l.prog w K mg base rn 3 "walk_of" ["m", "p", "deed", "q"] bL:=Fun.calX F5 (PySem.W.mg_of X G a5) (qN F5 T C2 C3 C4 C1) fun _ _ _ _ _ _ us hl=>by obtain ⟨_,_,_,_,rfl⟩:=us4 hl; rfl
 have C12:Cal l.prog w K mg base 4 "_law_asked" ["_law_m", "_law_p", "_law_deed", "_law_q"] (aA K aO):=F12.cal (PySem.W.mg_of X G a12) (k_ F12 T C5) fun _ _ _ _ _ _ us hl=>by obtain ⟨_,_,_,_,rfl⟩:=us4 hl; rfl
 have C13:Cal l.prog w K mg base 5 "_law_refusals" ["_law_m", "_law_far"] (aA K aN):=F13.cal (PySem.W.mg_of X G a13) (gC F13 T C12) fun _ _ _ _ _ _ us hl=>by obtain ⟨_,_,rfl⟩:=us2 hl; rfl
 exact ok_law F14 T C6 C7 C8 C10 C13 C5 C11
theorem walk {l:PySem.W.OpenLaw} {q:Program} {loose:List Str} {XP:(Str->Option Value)->Heap->Prop} {YP:World->Heap->Prop} {d:DefRec} {K:Params->PySem.W.Frag} (hn:l.most=some 63) (hdf:d.params.defaults=[])
  (hY:∀ (w:World) (h:Heap),YP w h->(K w.params).In h)
  (F:∀ (w:World) (mg:Str->Option Value) (fa:Addr) (h:Heap),(K w.params).In h->h.Ns mainGlobals mg->mg d.name=some (.ref fa) ->
   ∃ fd:FuncData,(∀ (s:Shared) (u:Value),BindsTo s fd ⟨[u],[]⟩ [("_law_script",u)])/\∀ base:Heap,(K w.params).In base->base.Ns mainGlobals mg->FnOk l.prog w (K w.params) mg base CX0 6 fa fd ["_law_script"] (aA (K w.params) sp_law)) :
  PySem.W.WalkO q loose XP YP l.row.toRowW d [] (fun f vs=>PySem.call f vs) :=
 L2.walk_of (n:=63) (k:=6) (x := "_law_script") (CX:=fun _=>CX0) (sp:=fun w=>aA (K w.params) sp_law) hn (by decide) hdf ⟨rfl,by decide,by decide⟩ hY F (fun w H a ns hl hO hS=>vM hl hS) fun _ _ _ _ _ z=>z
end L2.Q.Law
open PySem PySem.W PyProof.Rows
namespace PySem.W.Fast
def tw15620668156935600238:=0
def tw5303406374439022777:=0
def tw2159531314567817588:=0
def tw14342096065033193739:=0
def tw16593638928635293500:=0
def tw8249774479225466723:=0
def tw12846916455498416002:=0
def tw14189383251185571462:=0
def tw16575750285695958135:=0
def tw17236250729215777511:=0
def tw5183063819731922105:=0
def tw6048943375494205315:=0
def tw7019929759466329224:=0
def tw399883149717398750:=0
def tw16811204001412424501:=0
def tw13177834171020322564:=0
def tw5998598326638247888:=0
def tw15609981519374920842:=0
def tw3686554358614956777:=0
def tw17197874121418575083:=0
end PySem.W.Fast
set_option maxRecDepth 100000 in
set_option maxHeartbeats 0 in
theorem PySem.Challenge.cw_kinlook_k50_walks_told_holds : PySem.Challenge.rw_kinlook_k50_walks_told.Holds := by
 w_on; o_law; k_head; (case hw=>w_witness2)
 k_fill
 refine L2.Q.Law.walk (l:=PySem.Challenge.rw_kinlook_k50_walks_told) rfl rfl (fun w h Y=>PySem.W.kIn_of Y) ?F
 case F =>
  intro w mg fa h KX G hmg
  refine' L2.Q.Law.all_mk KX G hmg ?a0 ?l0 ?c0 ?k0 ?a1 ?l1 ?c1 ?k1 ?a2 ?l2 ?c2 ?k2 ?a3 ?l3 ?c3 ?k3 ?a4 ?l4 ?c4 ?k4 ?a5 ?l5 ?c5 ?k5 ?a6 ?l6 ?c6 ?k6 ?a7 ?l7 ?c7 ?k7 ?a8 ?l8 ?c8 ?k8 ?a9 ?l9 ?c9 ?k9 ?a10 ?l10 ?c10 ?k10 ?a11 ?l11 ?c11 ?k11 ?a12 ?l12 ?c12 ?k12 ?a13 ?l13 ?c13 ?k13 ?a14 ?l14 ?c14 ?k14 ?n_ValueError ?n_all ?n_enumerate ?n_isinstance ?n_len ?n_list ?n_min ?n_range ?n_sorted ?n_str ?n_tuple ?g_HIDDEN ?g_LETTERS ?g_MOST_LETTERS ?xa_KinError ?xa_NoDeed ?xa_NoFrame ?xa_NoMachine ?xa_NoName ?xa_NoRow ?xa_NoScroll ?xa_NoState ?xa_NoText ?xa_TooBig ?xe_KinError ?xg_KinError ?xh_KinError ?xi_KinError ?xj_KinError ?xe_NoDeed ?xg_NoDeed ?xh_NoDeed ?xi_NoDeed ?xj_NoDeed ?xe_NoState ?xg_NoState ?xh_NoState ?xi_NoState ?xj_NoState ?xs_NoDeed_KinError ?xt_NoDeed_NoFrame ?xt_NoDeed_NoText ?xt_NoDeed_TooBig ?xt_NoDeed_NoMachine ?xt_NoDeed_NoRow ?xt_NoDeed_NoName ?xt_NoDeed_NoScroll ?xt_NoDeed_ValueError ?xt_NoDeed_NoState ?xt_NoDeed_NoDeed ?xs_NoState_KinError ?xt_NoState_NoFrame ?xt_NoState_NoText ?xt_NoState_TooBig ?xt_NoState_NoMachine ?xt_NoState_NoRow ?xt_NoState_NoName ?xt_NoState_NoScroll ?xt_NoState_ValueError ?xt_NoState_NoState ?xt_NoState_NoDeed
  (case a0=>k_is)
  (case l0=>k_is)
  (case c0=>k_is)
  (case k0=>k_is)
  (case a1=>k_is)
  (case l1=>k_is)
  (case c1=>k_is)
  (case k1=>k_is)
  (case a2=>k_is)
  (case l2=>k_is)
  (case c2=>k_is)
  (case k2=>k_is)
  (case a3=>k_is)
  (case l3=>k_is)
  (case c3=>k_is)
  (case k3=>k_is)
  (case a4=>k_is)
  (case l4=>k_is)
  (case c4=>k_is)
  (case k4=>k_is)
  (case a5=>k_is)
  (case l5=>k_is)
  (case c5=>k_is)
  (case k5=>k_is)
  (case a6=>k_is)
  (case l6=>k_is)
  (case c6=>k_is)
  (case k6=>k_is)
  (case a7=>k_is)
  (case l7=>k_is)
  (case c7=>k_is)
  (case k7=>k_is)
  (case a8=>k_is)
  (case l8=>k_is)
  (case c8=>k_is)
  (case k8=>k_is)
  (case a9=>k_is)
  (case l9=>k_is)
  (case c9=>k_is)
  (case k9=>k_is)
  (case a10=>k_is)
  (case l10=>k_is)
  (case c10=>k_is)
  (case k10=>k_is)
  (case a11=>k_is)
  (case l11=>k_is)
  (case c11=>k_is)
  (case k11=>k_is)
  (case a12=>k_is)
  (case l12=>k_is)
  (case c12=>k_is)
  (case k12=>k_is)
  (case a13=>k_is)
  (case l13=>k_is)
  (case c13=>k_is)
  (case k13=>k_is)
  (case a14=>k_is)
  (case l14=>k_is)
  (case c14=>k_is)
  (case k14=>k_is)
  (case n_ValueError=>k_is)
  (case n_all=>k_is)
  (case n_enumerate=>k_is)
  (case n_isinstance=>k_is)
  (case n_len=>k_is)
  (case n_list=>k_is)
  (case n_min=>k_is)
  (case n_range=>k_is)
  (case n_sorted=>k_is)
  (case n_str=>k_is)
  (case n_tuple=>k_is)
  (case g_HIDDEN=>k_is)
  (case g_LETTERS=>k_is)
  (case g_MOST_LETTERS=>k_is)
  (case xa_KinError=>k_is)
  (case xa_NoDeed=>k_is)
  (case xa_NoFrame=>k_is)
  (case xa_NoMachine=>k_is)
  (case xa_NoName=>k_is)
  (case xa_NoRow=>k_is)
  (case xa_NoScroll=>k_is)
  (case xa_NoState=>k_is)
  (case xa_NoText=>k_is)
  (case xa_TooBig=>k_is)
  (case xe_KinError=>k_exc)
  (case xg_KinError=>k_is)
  (case xh_KinError=>k_is)
  (case xi_KinError=>k_is)
  (case xj_KinError=>k_is)
  (case xe_NoDeed=>k_exc)
  (case xg_NoDeed=>k_is)
  (case xh_NoDeed=>k_is)
  (case xi_NoDeed=>k_is)
  (case xj_NoDeed=>k_is)
  (case xe_NoState=>k_exc)
  (case xg_NoState=>k_is)
  (case xh_NoState=>k_is)
  (case xi_NoState=>k_is)
  (case xj_NoState=>k_is)
  (case xs_NoDeed_KinError=>k_is)
  (case xt_NoDeed_NoFrame=>kit_is)
  (case xt_NoDeed_NoText=>kit_is)
  (case xt_NoDeed_TooBig=>kit_is)
  (case xt_NoDeed_NoMachine=>kit_is)
  (case xt_NoDeed_NoRow=>kit_is)
  (case xt_NoDeed_NoName=>kit_is)
  (case xt_NoDeed_NoScroll=>kit_is)
  (case xt_NoDeed_ValueError=>kit_is)
  (case xt_NoDeed_NoState=>kit_is)
  (case xt_NoDeed_NoDeed=>kit_is)
  (case xs_NoState_KinError=>k_is)
  (case xt_NoState_NoFrame=>kit_is)
  (case xt_NoState_NoText=>kit_is)
  (case xt_NoState_TooBig=>kit_is)
  (case xt_NoState_NoMachine=>kit_is)
  (case xt_NoState_NoRow=>kit_is)
  (case xt_NoState_NoName=>kit_is)
  (case xt_NoState_NoScroll=>kit_is)
  (case xt_NoState_ValueError=>kit_is)
  (case xt_NoState_NoState=>kit_is)
  (case xt_NoState_NoDeed=>kit_is)
