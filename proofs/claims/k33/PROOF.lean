import PyProof.Rows.All
import Wide.All
import OpenK.AllK
import Wide.FinOn
import Lean
import PyProof.EqAt
import PyProof.EqKinds
import PyProof.TupleCall
import PyProof.CompUse
import PyProof.NeData
import PyProof.WalksEnum
import PyProof.EnumMake
import PyProof.ZipIter
import PyProof.Rows.EnumRows
import PyProof.Rows.FactsT2
import KE.KDictList
import PyProof.Rows.SortRuns
import PyProof.Rows.SortWalk
import KE.KSortTup
import PyProof.Rows.SortStr
import PyProof.ListRange
import PyProof.StrOps2
import PyProof.StrBlock2
import PyProof.AutoIntG3
import PyProof.ListMulRight
import PyProof.Rows.ListMulArg
import PyProof.Rows.CallKwBuiltin
import PyProof.Rows.StrMul
import KE.KMinBuiltin
import PyProof.TupleKey
import PyProof.SetKind
import PyProof.Rows.SetFrom
import PyProof.DictWalks
import KE.KRevIter
import PyProof.NsDelKeeps
import PyProof.AutoSeq1
import PySem.Challenge.RW_kinlook_k33_what_is_a_table
open PySem renaming wpAny_bind->xaa,wpAny_pure->xaf,wpAny_mono->xaZ
open List renaming length_map->xab,mem_cons_of_mem->xac,mem_cons_self->xad,mem_append_right->xae,mem_append->xah,mem_append_left->xai,mem_cons->xaj,nodup_append->xam,getElem?_eq_some_iff->xan,mem_map->xao,sublist_append_right->xar,map_cons->xas,size_toArray->xau,length_take->xax,nodup_cons->xay,map_map->xaz,length_append->xaA,getElem?_map->xaE,mem_of_getElem?->xaH,append_nil->xaI,mem_singleton->xaJ,length_cons->xaL,nodup_nil->xaO,map_append->xaP,take_length->xaQ,getElem?_append_right->xaR,drop_eq_getElem_cons->xaT,filterMap_cons->xaV,getElem?_eq_getElem->xaX,any_eq_true->xa1,append_assoc->xa2,pairwise_map->xa3,mem_range->xa6,sublist_append_left->xa8,zip_cons_cons->xa9,eraseIdx_cons_succ->xbb,mem_filter->xbd,getElem?_append_left->xbg,length_drop->xbi,nil_append->xbn,map_congr_left->xbo,nil_sublist->xbq,append_eq_nil_iff->xbr,getElem?_eq_none->xbv,all_cons->xbx,any_cons->xby,reverse_cons->xbz,ext_getElem?->xbA,take_add_one->xbC,mem_of_mem_drop->xbD,mem_of_mem_take->xbE,not_mem_nil->xbF,map_fst_zip->xbG,find?_cons->xbH,getElem?_set_ne->xbL,pairwise_append->xbM,extract_eq_drop_take->xbP,length_reverse->xbR,length_zip->xbS,getElem?_replicate->xbV,getElem?_cons_zero->xbX,getElem?_set_self->xb0,take_of_length_le->xb1,length_pos_of_mem->xb2,length_replicate->xb3,cons_append->xb4,all_eq_true->xb5,perm_append_comm->xb6,take_append_drop->xb8,countP_cons->xca,drop_length->xcb,cons_ne_nil->xcc,getElem_mem->xcd,mem_iff_getElem?->xce,filter_eq_self->xck,contains_cons->xcm,getElem?_set->xcq,lookup_cons->xct
open Nat renaming le_refl->xag,zero_le->xap,lt_of_lt_of_le->xav,ne_of_lt->xaw,le_trans->xaB,le_of_lt->xaK,le_of_not_lt->xaM,add_sub_of_le->xaN,le_add_right->xaU,lt_of_succ_lt->xaY,lt_irrefl->xa0,zero_add->xba,lt_succ_of_lt->xbc,succ_pos->xbw,lt_succ_of_le->xbB,one_pos->xbJ,le_of_eq->xbK,add_assoc->xbO,sub_lt->xbQ,lt_of_le_of_lt->xbT,ne_of_gt->xbU,add_sub_cancel_left->xbW,le_succ_of_le->xbY,add_comm->xci,min_self->xcj,sub_le->xcs,add_zero->xcu
open PySem.Heap renaming lt_size->xak,get?_push_of_some->xal,get?_push_size->xaC,get?_update_other->xbe,get?_update_self->xbk,get?_push_ne->xbZ,size_update->xb9
open Bool renaming false_eq_true->xaq,false_ne_true->xat,and_eq_true->xaG,eq_iff_iff->xa7,not_eq_true'->xcp
open Array renaming getElem?_toList->xaD,toList_push->xaF,getElem?_eq_none->xaS,length_toList->xaW,getElem?_eq_getElem->xbj,size_extract->xbl,eq_empty_of_size_eq_zero->xbm,getD_eq_getD_getElem?->xbs,append_assoc->xbt,getElem?_eq_some_iff->xbu,getElem?_extract->xbI,perm_iff_toList_perm->xbN,toList_inj->xb7,toList_extract->xcf,append_empty->xcl
open Int renaming toNat_of_nonneg->xa4,le_trans->xa5,le_of_lt->xbf,le_refl->xbh,emod_lt_of_pos->xcn,not_lt->xcr
open Option renaming map_eq_some_iff->xbp,map_some->xcg,isSome_map->xco
local macro_rules | `(command| def $i:declId $s:optDeclSig $v:declVal)=>`(command| noncomputable def $i:declId $s:optDeclSig $v:declVal)
local macro_rules | `(command| abbrev $i:declId $s:optDeclSig $v:declVal)=>`(command| noncomputable abbrev $i:declId $s:optDeclSig $v:declVal)
set_option compiler.extract_closed false
local macro_rules | `(tactic| walk_at "l") => `(tactic| first | lia | omega)
local macro_rules | `(tactic| walk_at "s1") => `(tactic| solve_by_elim (maxDepth := 4) [Nat.lt_of_lt_of_le, Nat.lt_of_le_of_lt, Nat.le_trans, Nat.lt_trans, Nat.le_of_lt, Nat.le_of_not_lt])
local macro_rules | `(tactic| walk_at "s2") => `(tactic| solve_by_elim (maxDepth := 5) [Nat.lt_of_lt_of_le, Nat.lt_of_le_of_lt, Nat.le_trans, Nat.le_of_lt, Nat.le_of_not_lt, Nat.lt_of_not_le, Nat.lt_of_succ_lt, Nat.le_of_succ_le])
local macro_rules | `(tactic| walk_at "s3") => `(tactic| solve_by_elim (maxDepth := 5) [Int.lt_of_lt_of_le, Int.lt_of_le_of_lt, Int.le_trans, Int.le_of_lt, Int.not_lt.mp, Int.not_le.mp])
local macro_rules | `(tactic| walk_at "s4") => `(tactic| solve_by_elim (maxDepth := 5) [Nat.le_trans, Nat.lt_of_lt_of_le, Nat.le_of_lt, Nat.le_add_right, Nat.le_add_left, Nat.add_le_add_left, Nat.add_lt_add_left, Nat.succ_le_succ, Nat.sub_le])
theorem L2.ex2 {α β:Type _} {A B C:α->β->Prop} {G:Prop} (x:∃ a b,A a b/\B a b/\C a b) (k:∀ a b,A a b->B a b->C a b->G):G :=
 let ⟨a,b,p,q,r⟩:=x
 k a b p q r
set_option Elab.async false
set_option linter.all false
set_option maxRecDepth 100000
namespace L2
open PySem PySem.Spec PyProof.Rows
abbrev Key:=Sum Int Str
def keyIs:Key->Value->Bool
 | .inl k,v=>Value.isInt k v
 | .inr x,v=>Value.isStrOf x v
def keyH (w:World):Key->Int
 | .inl k=>hashInt k
 | .inr x=>hashStr w x
theorem keyIs_shape:∀ {k:Key} {v:Value},keyIs k v=true->(∃ i t,k=Sum.inl i/\v=Value.int i t)\/(∃ x t,k=Sum.inr x/\v=Value.str x t)
 | .inl i,v,h=>by
  obtain ⟨t,e⟩:=Value.isInt_shape (k:=i) (v:=v) h
  exact .inl ⟨i,t,rfl,e⟩
 | .inr x,v,h=>by
  obtain ⟨t,e⟩:=Value.isStrOf_shape (x:=x) (v:=v) h
  exact .inr ⟨x,t,rfl,e⟩
theorem keyIs_int (i:Int) (t:Tok):keyIs (.inl i) (.int i t)=true:=by simp [keyIs,Value.isInt]
theorem keyIs_str (x:Str) (t:Tok):keyIs (.inr x) (.str x t)=true:=by simp [keyIs,Value.isStrOf]
theorem key_ll (a b:Int):decide ((Sum.inl a:Key)=Sum.inl b)=(a == b):=by
 by_cases e:a=b
 ·subst e; simp
 ·have h:¬ (Sum.inl a:Key)=Sum.inl b:=fun q=>e (Sum.inl.inj q)
  rw [decide_eq_false h]
  exact (beq_eq_false_iff_ne.mpr e).symm
theorem key_rr (a b:Str):decide ((Sum.inr a:Key)=Sum.inr b)=decide (a=b):=by
 by_cases e:a=b
 ·subst e; simp
 ·have h:¬ (Sum.inr a:Key)=Sum.inr b:=fun q=>e (Sum.inr.inj q)
  rw [decide_eq_false h,decide_eq_false e]
theorem key_lr (a:Int) (b:Str):decide ((Sum.inl a:Key)=Sum.inr b)=false:=decide_eq_false (fun q=>nomatch q)
theorem key_rl (a:Str) (b:Int):decide ((Sum.inr a:Key)=Sum.inl b)=false:=decide_eq_false (fun q=>nomatch q)
def mixKind (prog:Program) (w:World):PySem.KeyKind prog w Key where
 is:=keyIs
 hash:=keyH w
 inj:=fun v a b ha hb=>by
  rcases keyIs_shape ha with ⟨i,t,rfl,rfl⟩ | ⟨x,t,rfl,rfl⟩
  ·rcases keyIs_shape hb with ⟨j,u,rfl,e⟩ | ⟨y,u,rfl,e⟩
   ·injection e with e1 _; rw [e1]
   ·exact nomatch e
  ·rcases keyIs_shape hb with ⟨j,u,rfl,e⟩ | ⟨y,u,rfl,e⟩
   ·exact nomatch e
   ·injection e with e1 _; rw [e1]
 byValue:=fun k v h=>by
  rcases keyIs_shape h with ⟨i,t,rfl,rfl⟩ | ⟨x,t,rfl,rfl⟩ <;> rfl
 pyHash:=fun hv h=>by
  rcases keyIs_shape hv with ⟨i,t,rfl,rfl⟩ | ⟨x,t,rfl,rfl⟩
  ·exact wpAny_pyHash_int h
  ·exact wpAny_pyHash_str h
 eqBool:=fun hu hv h=>by
  rcases keyIs_shape hu with ⟨i,t,rfl,rfl⟩ | ⟨x,t,rfl,rfl⟩
  ·rcases keyIs_shape hv with ⟨j,u,rfl,rfl⟩ | ⟨y,u,rfl,rfl⟩
   ·rw [key_ll] at h; exact wpAny_eqBool_int h
   ·rw [key_lr] at h; exact SeqAt.EqAt.int_str i t y u _ _ _ _ h
  ·rcases keyIs_shape hv with ⟨j,u,rfl,rfl⟩ | ⟨y,u,rfl,rfl⟩
   ·rw [key_rl] at h; exact SeqAt.EqAt.str_int x t j u _ _ _ _ h
   ·rw [key_rr] at h; exact wpAny_eqBool_str h
 «strs» := fun k x t v h=>by
  rcases keyIs_shape h with ⟨i,u,rfl,e⟩ | ⟨y,u,rfl,e⟩
  ·exact nomatch e
  ·injection e with e1 _
   subst e1
   cases v <;> rfl
theorem mixKind_int (prog:Program) (w:World) (i:Int) (t:Tok):(mixKind prog w).is (.inl i) (.int i t)=true:=keyIs_int i t
theorem mixKind_str (prog:Program) (w:World) (x:Str) (t:Tok):(mixKind prog w).is (.inr x) (.str x t)=true:=keyIs_str x t
inductive V where
 | non | bl (b:Bool) | int (i:Int) | str (x:Str) | byt (b:Array UInt8) | flt (b:UInt64) | ref (a:Addr) | ty (n:String)
 deriving DecidableEq
def RelV:V->Value->Prop
 | .non,u=>u=Value.none
 | .bl b,u=>u=Value.bool b
 | .int i,u=>∃ t,u=Value.int i t
 | .str x,u=>∃ t,u=Value.str x t
 | .byt b,u=>∃ t,u=Value.bytes b t
 | .flt b,u=>∃ t,u=Value.float b t
 | .ref a,u=>u=Value.ref a
 | .ty n,u=>u=Value.type n
abbrev Vals:List V->List Value->Prop:=Paired RelV
theorem Vals.length {xs:List V} {us:List Value} (r:Vals xs us):xs.length=us.length:=Paired.length r
theorem Vals.get:∀ {xs:List V} {us:List Value} {i:Nat} {x:V},Vals xs us->xs[i]? = some x->∃ u,us[i]? = some u/\RelV x u
 | _,_,_,_,.nil,e=>by simp at e
 | _,_,0,_,.cons r _,e=>by simp at e; subst e; exact ⟨_,rfl,r⟩
 | _,_,i+1,x,.cons _ t,e=>by
  obtain ⟨u,h1,h2⟩:=Vals.get (i:=i) (x:=x) t (by simpa using e)
  exact ⟨u,by simpa using h1,h2⟩
theorem Vals.set {x:V} {u:Value} (r:RelV x u):∀ {xs:List V} {us:List Value} (i:Nat),Vals xs us->Vals (xs.set i x) (us.set i u)
 | _,_,_,.nil=>.nil
 | _,_,0,.cons _ t=>.cons r t
 | _,_,i+1,.cons q t=>.cons q (Vals.set r i t)
theorem Vals.append:∀ {xs ys:List V} {us ws:List Value},Vals xs us->Vals ys ws->Vals (xs++ys) (us++ws)
 | _,_,_,_,.nil,s=>s
 | _,_,_,_,.cons r t,s=>.cons r (Vals.append t s)
theorem Vals.take:∀ {xs:List V} {us:List Value} (n:Nat),Vals xs us->Vals (xs.take n) (us.take n)
 | _,_,0,_=>.nil
 | _,_,_+1,.nil=>.nil
 | _,_,n+1,.cons r t=>.cons r (Vals.take n t)
theorem Vals.drop:∀ {xs:List V} {us:List Value} (n:Nat),Vals xs us->Vals (xs.drop n) (us.drop n)
 | _,_,0,r=>r
 | _,_,_+1,.nil=>.nil
 | _,_,n+1,.cons _ t=>Vals.drop n t
def RelO:Option V->Option Value->Prop
 | some v,some u=>RelV v u
 | none,none=>True
 | _,_=>False
def KV {κ:Type}:List (κ × V)->List (κ × Value)->Prop:=Paired fun (p:κ × V) (q:κ × Value)=>p.1=q.1/\RelV p.2 q.2
def kV:Key->V
 | .inl i=>.int i
 | .inr x=>.str x
inductive HO where
 /-- a list -/
 | lst (xs:List V)
 /-- a tuple (never changes) -/
 | tup (xs:List V)
 /-- a dict whose keys are ints and texts; one whose keys are tuples of ints and texts (the empty one is both) -/
 | dK (kvs:List (Key × V)) | dT (kvs:List (List Key × V))
 /-- a set of ints: its members,its size -/
 | set (S:Int->Bool) (n:Nat)
 /-- an instance of the class at C,its dict at dx,its attributes -/
 | ins (C dx:Addr) (fs:List (Str × V))
 /-- the dict of the instance at x -/
 | own (x:Addr)
 /-- the dict of an exception -/
 | xd (fs:List (Str × V))
 /-- a bound method,f of x -/
 | met (f x:Addr)
 /-- a range object lo,lo+1,.. below hi -/
 | rng (lo hi:Int)
 /-- a thing that is known to the object (the script; a dict while a loop walks it): read,never written while it is so -/
 | frz (o:Obj) (u:HO)
 /-- a code object's table -/
 | tbl (ps:Array Value)
 /-- any other thing,by what is true of its one object (a def of one's own: SetO a S n:=HO.ext fun h=>..) -/
 | ext (φ:Heap->Prop)
abbrev Hp:=Addr->Option HO
def upd (H:Hp) (a:Addr) (o:HO):Hp:=fun b=>if b=a then some o else H b
theorem upd_same {H:Hp} {a:Addr} {o:HO}:upd H a o a=some o:=by unfold upd; rw [if_pos rfl]
theorem upd_ne {H:Hp} {a b:Addr} {o:HO} (h:b≠a):upd H a o b=H b:=by unfold upd; rw [if_neg h]
theorem ne_of {H:Hp} {a b:Addr} {o u:HO} (h:H a=some o) (h':H b=some u) (d:o≠u):a≠b:=by
 intro e; subst e; rw [h] at h'; exact d (Option.some.inj h')
theorem ne_of_none {H:Hp} {a b:Addr} {o:HO} (h:H a=some o) (h':H b=none):a≠b:=by
 intro e; subst e; rw [h] at h'; cases h'
section
variable (P:Program) (w:World)
def ObjOk (H:Hp) (h:Heap) (a:Addr):HO->Prop
 | .lst xs=>xs.length<=sizeLine/\∃ (its:List Value) (n:Nat),Vals xs its/\h.get? a=some { cls:=.type "list",data:=.seq its.toArray n }
 | .tup xs=>xs.length<=sizeLine/\∃ its:List Value,Vals xs its/\IsTup h a its.toArray
 | .dK kvs=>kvs.length<=sizeLine/\(a == sysModules)=false/\∃ vs,KV kvs vs/\h.DictOf (mixKind P w) a vs
 | .dT kvs=>kvs.length<=sizeLine/\(a == sysModules)=false/\∃ xs:List (List Key × Addr × Value),
   Paired (fun (p:List Key × V) (q:List Key × Addr × Value)=>p.1=q.1/\H q.2.1=some (.tup (p.1.map kV))/\RelV p.2 q.2.2) kvs xs /\
   ∃ o es ep,h.get? a=some o/\o.ExactDict/\o.data=.dict es ep/\es.toList=xs.map (entryOfKey (tupleKind (mixKind P w)))/\(xs.map (·.1)).Nodup
 | .set S n=>h.SetOf (intKind P w) a S n
 | .ins C dx fs=>H dx=some (.own a)/\fs.length<=1000/\dx≠a/\h.get? a=some (PySem.W.instObj C dx) /\
   ∃ mA,h.Ns1 dx mA/\(∀ f,RelO (fs.lookup f) (mA f))/\PySem.Within mA (fs.map (·.1))
 | .own _=>∃ o,h.get? a=some o
 | .xd fs=>∃ mA,h.Ns1 a mA/\∀ f,RelO (fs.lookup f) (mA f)
 | .rng lo hi=>∃ t u v,h.get? a=some { cls:=.type "range",data:=.fields #[.int lo t,.int hi u,.int 1 v] }
 | .frz o u=>h.get? a=some o/\ObjOk H h a u
 | .tbl ps=>h.get? a=some { cls:=.none,data:=.fields ps }
 | .met f x=>h.get? a=some (PySem.W.methodObj (.ref f) (.ref x))
 | .ext φ=>φ h/\(∃ o,h.get? a=some o)/\∀ h1 h2:Heap,φ h1->(∀ o,h1.get? a=some o->h2.get? a=some o)->φ h2
def HOk (H:Hp) (h:Heap):Prop:=∀ a o,H a=some o->ObjOk P w H h a o
end
section
variable {P:Program} {w:World} {H H':Hp} {h h':Heap} {a:Addr} {o:HO}
theorem ObjOk.lt (x:ObjOk P w H h a o):a<h.objs.size:=by
 cases o with
 | lst xs=>obtain ⟨_,_,_,_,e⟩:=x; exact xak e
 | tup xs=>obtain ⟨_,_,_,p⟩:=x; exact p.lt
 | dK kvs=>obtain ⟨_,_,_,_,o,_,_,e,_⟩:=x; exact xak e
 | dT kvs=>obtain ⟨_,_,_,_,o,_,_,e,_⟩:=x; exact xak e
 | set S n=>obtain ⟨o,_,_,_,e,_⟩:=x; exact xak e
 | ins C dx fs=>obtain ⟨_,_,_,e,_⟩:=x; exact xak e
 | own y=>obtain ⟨_,e⟩:=x; exact xak e
 | xd fs=>obtain ⟨_,⟨_,_,_,e,_⟩,_⟩:=x; exact xak e
 | rng lo hi=>obtain ⟨_,_,_,e⟩:=x; exact xak e
 | frz ob u=>obtain ⟨e,_⟩:=x; exact xak e
 | tbl ps=>exact xak (show h.get? a=some _ from x)
 | met f y=>exact xak (show h.get? a=some _ from x)
 | ext φ=>obtain ⟨_,⟨_,e⟩,_⟩:=x; exact xak e
theorem Paired.mapP {α β:Type} {F G:α->β->Prop}:∀ {l₁:List α} {l₂:List β},Paired F l₁ l₂->(∀ a b,F a b->G a b)->Paired G l₁ l₂
 | _,_,.nil,_=>.nil
 | _,_,.cons r t,f=>.cons (f _ _ r) (Paired.mapP t f)
theorem ObjOk.stay (x:ObjOk P w H h a o) (k:∀ b u,(b=a\/H b=some (.own a))->h.get? b=some u->h'.get? b=some u)
  (ho:∀ b,H b=some (.own a)->H' b=some (.own a)) (ht:∀ b xs,H b=some (.tup xs)->H' b=some (.tup xs)):ObjOk P w H' h' a o:=by
 induction o with
 | lst xs=>obtain ⟨z,its,n,r,e⟩:=x; exact ⟨z,its,n,r,k _ _ (.inl rfl) e⟩
 | tup xs=>obtain ⟨z,its,r,ob,e,c⟩:=x; exact ⟨z,its,r,ob,k _ _ (.inl rfl) e,c⟩
 | dK kvs=>obtain ⟨z,y,vs,r,ob,es,ep,e,c⟩:=x; exact ⟨z,y,vs,r,ob,es,ep,k _ _ (.inl rfl) e,c⟩
 | dT kvs =>
  obtain ⟨z,y,xs,r,ob,es,ep,e,c⟩:=x
  exact ⟨z,y,xs,Paired.mapP r fun p q z=>⟨z.1,ht _ _ z.2.1,z.2.2⟩,ob,es,ep,k _ _ (.inl rfl) e,c⟩
 | set S n=>obtain ⟨ob,es,ep,t,e,c⟩:=x; exact ⟨ob,es,ep,t,k _ _ (.inl rfl) e,c⟩
 | ins C dx fs =>
  obtain ⟨d,z,ne,e,mA,⟨od,es,ep,e2,c⟩,r⟩:=x
  exact ⟨ho _ d,z,ne,k _ _ (.inl rfl) e,mA,⟨od,es,ep,k _ _ (.inr d) e2,c⟩,r⟩
 | own y=>obtain ⟨ob,e⟩:=x; exact ⟨ob,k _ _ (.inl rfl) e⟩
 | xd fs=>obtain ⟨mA,⟨od,es,ep,e,c⟩,r⟩:=x; exact ⟨mA,⟨od,es,ep,k _ _ (.inl rfl) e,c⟩,r⟩
 | rng lo hi=>obtain ⟨t,u,v,e⟩:=x; exact ⟨t,u,v,k _ _ (.inl rfl) e⟩
 | frz ob u ih=>obtain ⟨e,q⟩:=x; exact ⟨k _ _ (.inl rfl) e,ih q⟩
 | tbl ps =>
  have e:h.get? a=some { cls:=.none,data:=.fields ps }:=x
  show h'.get? a=some { cls:=.none,data:=.fields ps }
  exact k a _ (.inl rfl) e
 | met f y =>
  have e:h.get? a=some (PySem.W.methodObj (.ref f) (.ref y)):=x
  show h'.get? a=some (PySem.W.methodObj (.ref f) (.ref y))
  exact k a _ (.inl rfl) e
 | ext φ=>obtain ⟨p,⟨o,e⟩,st⟩:=x; exact ⟨st _ _ p fun o q=>k _ _ (.inl rfl) q,⟨o,k _ _ (.inl rfl) e⟩,st⟩
theorem HOk.lt (x:HOk P w H h) (e:H a=some o):a<h.objs.size:=(x a o e).lt
theorem HOk.fresh (x:HOk P w H h) (e:h.objs.size<=a):H a=none:=by
 cases q:H a with
 | none=>rfl
 | some u=>exact absurd (xav (x.lt q) e) (xa0 _)
theorem HOk.kept (x:HOk P w H h) (k:∀ b u,h.get? b=some u->h'.get? b=some u):HOk P w H h':=fun a o e =>
 (x a o e).stay (fun b u _ q=>k b u q) (fun _ q=>q) fun _ _ q=>q
theorem HOk.laid (x:HOk P w H h) (k:∀ b u,h.get? b=some u->h'.get? b=some u) (hp:h.objs.size<=a) (new:ObjOk P w (upd H a o) h' a o):HOk P w (upd H a o) h':=fun b u e=>by
 have hn:=x.fresh hp
 by_cases hb:b=a
 ·subst hb; rw [upd_same] at e; cases e; exact new
 ·rw [upd_ne hb] at e
  exact (x b u e).stay (fun c v _ q=>k c v q) (fun c q=>by rw [upd_ne (ne_of_none q hn)]; exact q) fun c xs q=>by rw [upd_ne (ne_of_none q hn)]; exact q
end
def Rd (H:Hp) (a:Addr) (u:HO):Prop:=H a=some u\/∃ o,H a=some (.frz o u)
theorem Rd.of {H:Hp} {a:Addr} {u:HO} (h:H a=some u):Rd H a u:=.inl h
theorem Rd.ok {P:Program} {w:World} {H:Hp} {h:Heap} {a:Addr} {u:HO} (r:Rd H a u) (x:HOk P w H h):ObjOk P w H h a u:=by
 rcases r with r | ⟨o,r⟩
 ·exact x a u r
 ·obtain ⟨_,q⟩:=x a _ r
  exact q
def Mut:Option HO->Prop
 | some (.lst _)=>True
 | some (.dK _)=>True
 | some (.dT _)=>True
 | some (.set _ _)=>True
 | some (.ins _ _ _)=>True
 | some (.ext _)=>True
 | _=>False
section
variable {P:Program} {w:World} {H:Hp} {h h':Heap} {x e:Addr} {o':HO}
theorem HOk.write (ok:HOk P w H h) (mu:Mut (H x)) (he:e=x\/H e=some (.own x)) (k:∀ b u,b≠e->h.get? b=some u->h'.get? b=some u) (heo:∃ u,h'.get? e=some u)
  (new:ObjOk P w (upd H x o') h' x o'):HOk P w (upd H x o') h':=fun b u q=>by
 have nown:∀ c y,H c=some (.own y)->c≠x:=fun c y r z=>by subst z; rw [r] at mu; exact mu
 have ntup:∀ c xs,H c=some (.tup xs)->c≠x:=fun c xs r z=>by subst z; rw [r] at mu; exact mu
 by_cases hb:b=x
 ·subst hb; rw [upd_same] at q; cases q; exact new
 ·rw [upd_ne hb] at q
  by_cases hbe:b=e
  ·have q':H b=some (.own x):=by
    rcases he with z | z
    ·exact absurd (hbe.trans z) hb
    ·rw [hbe]; exact z
   rw [q] at q'; cases q'
   obtain ⟨v,hv⟩:=heo
   exact ⟨v,by rw [hbe]; exact hv⟩
  ·refine (ok b u q).stay (fun c v hc r=>k c v ?_ r) (fun c r=>by rw [upd_ne (nown c b r)]; exact r) fun c xs r=>by rw [upd_ne (ntup c xs r)]; exact r
   rcases hc with rfl | hc
   ·exact hbe
   ·rintro rfl
    rcases he with z | z
    ·exact nown c b hc z
    ·rw [hc] at z; cases z; exact hb rfl
end
structure Un (fs ex:List Addr) (H H':Hp) (h h':Heap):Prop where
 keep:∀ b o,h.get? b=some o->H b=none->b∉fs->b∉ex->h'.get? b=some o
 slot:∀ b o,h.get? b=some o->H b=none->b∈fs->b∉ex->∃ sl,h'.get? b=some { o with slots:=sl }
 free:∀ b o,h.get? b=some o->H b=none->b∉ex->H' b=none
 there:∀ b o,h.get? b=some o->b∉ex->∃ o',h'.get? b=some o'
 tups:∀ b xs,H b=some (.tup xs)->H' b=some (.tup xs)
 frzs:∀ b o u,H b=some (.frz o u)->H' b=some (.frz o u)
 tbls:∀ b ps,H b=some (.tbl ps)->∃ more,H' b=some (.tbl (ps++more))
section
variable {fs fs' ex ex':List Addr} {H H1 H2:Hp} {h h1 h2 h':Heap} {a x e:Addr} {o:HO}
theorem Un.any (u:Un fs ex H H1 h h1) {b:Addr} {ob:Obj} (q:h.get? b=some ob) (n:H b=none) (hx:b∉ex):∃ sl,h1.get? b=some { ob with slots:=sl }:=by
 by_cases hb:b∈fs
 ·exact u.slot b ob q n hb hx
 ·exact ⟨ob.slots,u.keep b ob q n hb hx⟩
theorem Un.trans (a:Un fs ex H H1 h h1) (b:Un fs ex H1 H2 h1 h2):Un fs ex H H2 h h2 where
 keep:=fun c ob q n hc hx=>b.keep c ob (a.keep c ob q n hc hx) (a.free c ob q n hx) hc hx
 slot:=fun c ob q n hc hx=>by
  obtain ⟨sl,e1⟩:=a.slot c ob q n hc hx
  obtain ⟨sl',e2⟩:=b.slot c _ e1 (a.free c ob q n hx) hc hx
  exact ⟨sl',e2⟩
 free:=fun c ob q n hx=>by
  obtain ⟨o',e1⟩:=a.there c ob q hx
  exact b.free c o' e1 (a.free c ob q n hx) hx
 there:=fun c ob q hx=>by
  obtain ⟨o',e1⟩:=a.there c ob q hx
  exact b.there c o' e1 hx
 tups:=fun c xs q=>b.tups c xs (a.tups c xs q)
 frzs:=fun c ob xs q=>b.frzs c ob xs (a.frzs c ob xs q)
 tbls:=fun c ps q=>by
  obtain ⟨m1,e1⟩:=a.tbls c ps q
  obtain ⟨m2,e2⟩:=b.tbls c _ e1
  exact ⟨m1++m2,by rw [e2,xbt]⟩
theorem Un.kept (k:∀ b u,h.get? b=some u->h'.get? b=some u):Un fs ex H H h h' :=
 ⟨fun b ob q _ _ _=>k b ob q,fun b ob q _ _ _=>⟨ob.slots,k b ob q⟩,fun _ _ _ n _=>n,fun b ob q _=>⟨ob,k b ob q⟩,fun _ _ q=>q,fun _ _ _ q=>q,fun _ ps q=>⟨#[],by rw [q]; simp⟩⟩
theorem Un.refl:Un fs ex H H h h:=Un.kept fun _ _ q=>q
theorem Un.laid (k:∀ b u,h.get? b=some u->h'.get? b=some u) (hp:h.objs.size<=a) (hn:H a=none):Un fs ex H (upd H a o) h h' where
 keep:=fun b u q _ _ _=>k b u q
 slot:=fun b u q _ _ _=>⟨u.slots,k b u q⟩
 free:=fun b u q n _=>by rw [upd_ne (xaw (xav (xak q) hp))]; exact n
 there:=fun b u q _=>⟨u,k b u q⟩
 tups:=fun b xs q=>by rw [upd_ne (ne_of_none q hn)]; exact q
 frzs:=fun b u xs q=>by rw [upd_ne (ne_of_none q hn)]; exact q
 tbls:=fun b ps q=>⟨#[],by rw [upd_ne (ne_of_none q hn),q]; simp⟩
theorem Un.write (mu:Mut (H x)) (he:e=x\/H e=some (.own x)) (k:∀ b u,b≠e->h.get? b=some u->h'.get? b=some u) (heo:∃ u,h'.get? e=some u):Un fs ex H (upd H x o) h h':=by
 have hx:∀ b,H b=none->b≠x:=fun b n z=>by subst z; rw [n] at mu; exact mu
 have hb:∀ b,H b=none->b≠e:=fun b n z=>by
  subst z
  rcases he with r | r
  ·exact hx b n r
  ·rw [n] at r; cases r
 have hm:∀ b u,H b=some u->¬ Mut (some u)->b≠x:=fun b u q nm z=>by subst z; rw [q] at mu; exact nm mu
 refine ⟨fun b u q n _ _=>k b u (hb b n) q,fun b u q n _ _=>⟨u.slots,k b u (hb b n) q⟩,fun b u q n _=>by rw [upd_ne (hx b n)]; exact n,fun b u q _=>?_,
  fun b xs q=>by rw [upd_ne (hm b _ q fun z=>z)]; exact q,fun b u xs q=>by rw [upd_ne (hm b _ q fun z=>z)]; exact q,fun b ps q=>⟨#[],by rw [upd_ne (hm b _ q fun z=>z),q]; simp⟩⟩
 by_cases hbe:b=e
 ·subst hbe; exact heo
 ·exact ⟨u,k b u hbe q⟩
theorem Un.mono (u:Un fs ex H H1 h h1) (hs:∀ b∈fs,b∈fs') (hx:∀ b∈ex,b∈ex'):Un fs' ex' H H1 h h1 :=
 ⟨fun b ob q n hb he=>u.keep b ob q n (fun z=>hb (hs b z)) fun z=>he (hx b z),fun _ _ q n _ he=>u.any q n fun z=>he (hx _ z),fun b ob q n he=>u.free b ob q n fun z=>he (hx b z),fun b ob q he=>u.there b ob q fun z=>he (hx b z),u.tups,u.frzs,u.tbls⟩
end
def trk (h:Heap) (H:Hp):List Addr:=(List.range h.objs.size).filter fun a=>(H a).isSome
def hidT (h:Heap) (H:Hp):Heap:=PySem.W.hideAll h (trk h H)
theorem hidT_size (h:Heap) (H:Hp):(hidT h H).objs.size=h.objs.size:=PySem.W.hideAll_size _ _
theorem hidT_get {h:Heap} {H:Hp} {b:Addr} {o:Obj} (e:h.get? b=some o) (n:H b=none):(hidT h H).get? b=some o :=
 PySem.W.hideAll_get _ e fun hm=>by
  have q:(H b).isSome=true:=(xbd.mp hm).2
  rw [n] at q; simp at q
theorem of_hidT {h:Heap} {H:Hp} {b:Addr} {o:Obj} (e:(hidT h H).get? b=some o):h.get? b=some o/\H b=none:=by
 have e':h.get? b=some o:=PySem.W.of_hideAll (trk h H) e
 refine ⟨e',?_⟩
 cases q:H b with
 | none=>rfl
 | some x =>
  have hm:b∈trk h H:=xbd.mpr ⟨xa6.mpr (xak e'),by simp [q]⟩
  have z:(hidT h H).get? b=none:=PySem.W.hideAll_none (trk h H) hm
  rw [z] at e; cases e
def allNews (g h:Heap) (L:Addr):List (Addr × Obj):=(List.range h.objs.size).filterMap fun a=>if a=L\/(g.get? a).isSome=true then none else (h.get? a).map fun o=>(a,o)
def rest (g h:Heap) (L d:Addr):List (Addr × Obj):=(allNews g h L).filter fun p=>decide (p.1≠d)
structure Mod (K:PySem.W.Frag) (mg:Str->Option Value) (base:Heap):Prop where
 kin:K.In base
 glob:base.Ns mainGlobals mg
 blt:∃ mb,base.Ns builtinsNs mb/\∀ x:Str,x ≠ "__name__"->mb x=bootBuiltins x
 nolimit:base.NoLimit
structure Cx where
 prog:Program
 w:World
 K:PySem.W.Frag
 mg:Str->Option Value
 base:Heap
 A:Around
 N:List Str
 s₀:Shared
 H₀:Hp
 env:Env
 outer:List Env
 stack:List Env
 ex:List Addr
 fn:Str->Bool
 calm:Bool
 pn:List (Addr × Obj)
 xe:Value->Shared->Prop
def frs (l:List Env):List Addr:=l.filterMap (·.frame)
abbrev Cx.fs (X:Cx):List Addr:=frs X.outer
def Vis (sc:Scope) (x:Str):Prop:=sc.names.lookup x=some .local\/sc.names.lookup x=some .cell\/sc.names.lookup x=some .free
def Loc (sc:Scope) (x:Str):Prop:=sc.names.lookup x=some .local\/sc.names.lookup x=some .cell
def Look (env:Env) (h:Heap) (m:Str->Option Value) (x:Str) (u:Value):Prop :=
 (env.kindOf x=some .local/\m x=some u)\/((env.kindOf x=some .cell\/env.kindOf x=some .free)/\∃ c,env.cells.lookup x=some c/\h.IsCell c (some u))
structure Cx.Ok (X:Cx):Prop where
 mod:Mod X.K X.mg X.base
 kind:X.env.scope.kind=.function
 glob:X.env.globals=mainGlobals
 blt:X.env.builtins=builtinsNs
 above:X.s₀.heap.objs.size<=X.env.locals
 inj:∀ x y c,X.env.cells.lookup x=some c->X.env.cells.lookup y=some c->x=y
 has:∀ x,(X.env.kindOf x=some .cell\/X.env.kindOf x=some .free)->∃ c,X.env.cells.lookup x=some c
 cab:∀ x c,X.fn x=true->X.env.cells.lookup x=some c->X.s₀.heap.objs.size<=c
 hd:X.calm=true->X.A.handled=none
 frames:X.A.frames=some X.stack
 stk:X.stack=X.outer\/(X.stack=X.env :: X.outer/\X.env.frame=some X.env.locals)
 exf:∀ b∈X.ex,b≠X.env.locals/\∀ x c,X.env.cells.lookup x=some c->c≠b
 bs:∀ b o,X.base.get? b=some o->X.s₀.heap.get? b=some o/\X.H₀ b=none
 bsz:X.base.objs.size<=X.s₀.heap.objs.size
 noex:∀ b o,X.base.get? b=some o->b∉X.ex
 exfs:∀ b∈X.ex,b∉X.fs
 funs:X.s₀.heap.FunFrames X.base X.outer
 frf:∀ b∈X.fs,X.H₀ b=none
structure Inv (X:Cx) (pins:List (Addr × Obj)) (σ:List (Option V)) (H:Hp) (s:Shared):Prop where
 ok:X.Ok
 os:s.os=X.s₀.os
 bare:AllBare s.gens
 base:Un X.fs X.ex X.H₀ H X.s₀.heap s.heap
 loc:∃ m,s.heap.Ns X.env.locals m/\∀ (i:Nat) (x:Str) (v:V),X.N[i]? = some x->σ[i]? = some (some v)->Vis X.env.scope x->∃ u,RelV v u/\Look X.env s.heap m x u
 cell:∀ x c,X.env.cells.lookup x=some c->∃ v,s.heap.IsCell c v
 free:H X.env.locals=none
 freeC:∀ x c,X.env.cells.lookup x=some c->H c=none
 pin:∀ p∈X.pn++pins,s.heap.get? p.1=some p.2/\H p.1=none/\p.1≠X.env.locals/\p.1∉X.fs/\∀ v,p.2.data≠.cell v
 hok:HOk X.prog X.w H s.heap
 len:σ.length=X.N.length
section
variable {X:Cx} {pins:List (Addr × Obj)} {σ:List (Option V)} {H H':Hp} {s:Shared} {h':Heap}
theorem Cx.Ok.nofr (ok:X.Ok) {b:Addr} {o:Obj} (e:X.base.get? b=some o):b∉X.fs:=fun hb=>by
 have:=(ok.funs.mem hb).1
 rw [e] at this; cases this
theorem Inv.bs (I:Inv X pins σ H s):∀ b o,X.base.get? b=some o->s.heap.get? b=some o/\H b=none:=fun b o e =>
 ⟨I.base.keep b o (I.ok.bs b o e).1 (I.ok.bs b o e).2 (I.ok.nofr e) (I.ok.noex b o e),I.base.free b o (I.ok.bs b o e).1 (I.ok.bs b o e).2 (I.ok.noex b o e)⟩
theorem Inv.bk (I:Inv X pins σ H s):∀ b o,X.base.get? b=some o->s.heap.get? b=some o:=fun b o e=>(I.bs b o e).1
theorem Inv.mod (I:Inv X pins σ H s):Mod X.K X.mg X.base:=I.ok.mod
theorem Inv.kIn (I:Inv X pins σ H s):X.K.In s.heap:=I.ok.mod.kin.keeps I.bk
theorem Inv.nolimit (I:Inv X pins σ H s):s.heap.NoLimit:=I.ok.mod.nolimit.keeps I.bk
theorem Inv.fr (I:Inv X pins σ H s):∃ m,Fr X.base X.env.locals s.heap m :=
 let ⟨m,hn,_⟩:=I.loc
 ⟨m,hn,I.bk,xaB I.ok.bsz I.ok.above⟩
theorem Inv.lt (I:Inv X pins σ H s):X.env.locals<s.heap.objs.size:=let ⟨_,hn,_⟩:=I.loc; hn.lt
theorem Inv.sz (I:Inv X pins σ H s):X.s₀.heap.objs.size<=s.heap.objs.size:=xaB I.ok.above (xaK I.lt)
theorem Inv.nofs (I:Inv X pins σ H s) {a:Addr} (h:s.heap.objs.size<=a):a∉X.fs:=fun hb=>by
 obtain ⟨_,o,ho,_⟩:=I.ok.funs.mem hb
 exact absurd (xav (xak ho) (xaB I.sz h)) (xa0 _)
theorem Inv.cne (I:Inv X pins σ H s):∀ x c,X.env.cells.lookup x=some c->c≠X.env.locals:=fun x c e z=>by
 obtain ⟨v,o,ho,hd⟩:=I.cell x c e
 obtain ⟨m,⟨o',es,ep,ho',hd',_⟩,_⟩:=I.loc
 rw [z,ho'] at ho; cases ho; rw [hd'] at hd; cases hd
theorem Inv.funs (I:Inv X pins σ H s):s.heap.FunFrames X.base X.outer:=by
 have all:∀ (l:List Env),(∀ b∈frs l,b∈X.fs)->X.s₀.heap.FunFrames X.base l->s.heap.FunFrames X.base l:=by
  intro l
  induction l with
  | nil=>intro _ _; trivial
  | cons env r ih =>
   intro hs hl
   obtain ⟨hk,⟨L,o,hf,hn,ho,hd⟩,hr⟩:=hl
   have hL:L∈X.fs:=hs L (by unfold frs; rw [xaV,hf]; exact xad)
   obtain ⟨sl,e⟩:=I.base.slot L o ho (I.ok.frf L hL) hL fun z=>I.ok.exfs L z hL
   exact ⟨hk,⟨L,_,hf,hn,e,hd⟩,ih (fun b hb=>hs b (by unfold frs; rw [xaV,hf]; exact xac _ hb)) hr⟩
 exact all X.outer (fun _ hb=>hb) I.ok.funs
theorem Inv.stack (I:Inv X pins σ H s):s.heap.FunFrames X.base X.stack:=by
 rcases I.ok.stk with e | ⟨e,hf⟩
 ·rw [e]; exact I.funs
 ·rw [e]
  obtain ⟨m,hn,_⟩:=I.loc
  refine .cons (by rw [I.ok.kind]; decide) hf hn ?_ I.funs
  exact Heap.get?_none_of_le (xaB I.ok.bsz I.ok.above)
theorem Inv.stkSub (I:Inv X pins σ H s):∀ b∈frs X.stack,b∈X.env.locals :: X.fs:=fun b hb=>by
 rcases I.ok.stk with e | ⟨e,hf⟩
 ·rw [e] at hb; exact xac _ hb
 ·rw [e] at hb
  unfold frs at hb
  rw [xaV,hf] at hb
  exact hb
theorem Inv.stkFree (I:Inv X pins σ H s):∀ b∈frs X.stack,H b=none:=fun b hb=>by
 rcases xaj.mp (I.stkSub b hb) with e | hb
 ·rw [e]; exact I.free
 ·obtain ⟨_,o,ho,_⟩:=I.ok.funs.mem hb
  exact I.base.free b o ho (I.ok.frf b hb) fun z=>I.ok.exfs b z hb
theorem Inv.step {g':Array GenState} {t':Nat} {d':Drawn} {ch:List Addr} (I:Inv X pins σ H s)
  (hch:∀ b∈ch,(b∈X.ex\/X.s₀.heap.objs.size<=b)/\b≠X.env.locals/\(∀ x c,X.env.cells.lookup x=some c->c≠b)/\∀ p∈X.pn++pins,p.1≠b)
  (keep:∀ b o,b≠X.env.locals->b∉X.fs->b∉ch->s.heap.get? b=some o->H b=none->h'.get? b=some o)
  (slot:∀ b o,b≠X.env.locals->b∈X.fs->b∉ch->s.heap.get? b=some o->H b=none->∃ sl,h'.get? b=some { o with slots:=sl }) (free:∀ b o,b∉ch->s.heap.get? b=some o->H b=none->H' b=none)
  (there:∀ b o,b∉ch->s.heap.get? b=some o->∃ o',h'.get? b=some o')
  (tups:∀ b xs,H b=some (.tup xs)->H' b=some (.tup xs)) (frzs:∀ b o u,H b=some (.frz o u)->H' b=some (.frz o u)) (tbls:∀ b ps,H b=some (.tbl ps)->∃ more,H' b=some (.tbl (ps++more)))
  (ns:∀ m,s.heap.Ns X.env.locals m->h'.Ns X.env.locals m) (hok:HOk X.prog X.w H' h') (hg:AllBare g') :
  Inv X pins σ H' { s with heap:=h',gens:=g',drawn:=d',toks:=t' }:=by
 have neL:∀ b o,X.s₀.heap.get? b=some o->b≠X.env.locals:=fun b o e=>xaw (xav (xak e) I.ok.above)
 have neC:∀ b o,X.s₀.heap.get? b=some o->b∉X.ex->b∉ch:=fun b o e hx hb=>by
  rcases (hch b hb).1 with z | z
  ·exact hx z
  ·exact absurd (xav (xak e) z) (xa0 _)
 have cellK:∀ x c,X.env.cells.lookup x=some c->∀ v,s.heap.IsCell c v->h'.IsCell c v:=fun x c e v hx9=>by
  obtain ⟨o,ho,hd⟩:=hx9
  have nch:c∉ch:=fun z=>(hch c z).2.2.1 x c e rfl
  by_cases hc:c∈X.fs
  ·obtain ⟨sl,q⟩:=slot c o (I.cne x c e) hc nch ho (I.freeC x c e)
   exact ⟨_,q,hd⟩
  ·exact ⟨o,keep c o (I.cne x c e) hc nch ho (I.freeC x c e),hd⟩
 refine ⟨I.ok,I.os,hg,⟨fun b o e n hb hx=>?_,fun b o e n hb hx=>?_,fun b o e n hx=>?_,fun b o e hx=>?_,fun b xs e=>tups b xs (I.base.tups b xs e),fun b o xs e=>frzs b o xs (I.base.frzs b o xs e),fun b ps e=>?_⟩,?_,fun x c e=>?_,?_,fun x c e=>?_,fun p hp=>?_,hok,I.len⟩
 ·exact keep b o (neL b o e) hb (neC b o e hx) (I.base.keep b o e n hb hx) (I.base.free b o e n hx)
 ·obtain ⟨sl,e1⟩:=I.base.slot b o e n hb hx
  obtain ⟨sl',e2⟩:=slot b _ (neL b o e) hb (neC b o e hx) e1 (I.base.free b o e n hx)
  exact ⟨sl',e2⟩
 ·obtain ⟨o',e1⟩:=I.base.there b o e hx
  exact free b o' (neC b o e hx) e1 (I.base.free b o e n hx)
 ·obtain ⟨o',e1⟩:=I.base.there b o e hx
  exact there b o' (neC b o e hx) e1
 ·obtain ⟨m1,e1⟩:=I.base.tbls b ps e
  obtain ⟨m2,e2⟩:=tbls b _ e1
  exact ⟨m1++m2,by rw [e2,xbt]⟩
 ·obtain ⟨m,hn,hl⟩:=I.loc
  refine ⟨m,ns m hn,fun i x v e1 e2 e3=>?_⟩
  obtain ⟨u,r,l⟩:=hl i x v e1 e2 e3
  refine ⟨u,r,?_⟩
  rcases l with l | ⟨k,c,e,z⟩
  ·exact .inl l
  ·exact .inr ⟨k,c,e,cellK x c e _ z⟩
 ·obtain ⟨v,z⟩:=I.cell x c e
  exact ⟨v,cellK x c e v z⟩
 ·obtain ⟨m,⟨o,_,_,ho,_⟩,_⟩:=I.loc
  exact free _ o (fun z=>(hch _ z).2.1 rfl) ho I.free
 ·obtain ⟨v,o,ho,hd⟩:=I.cell x c e
  exact free c o (fun z=>(hch c z).2.2.1 x c e rfl) ho (I.freeC x c e)
 ·obtain ⟨e,n,ne,nf,d⟩:=I.pin p hp
  have nch:p.1∉ch:=fun z=>(hch p.1 z).2.2.2 p hp rfl
  exact ⟨keep p.1 p.2 ne nf nch e n,free p.1 p.2 nch e n,ne,nf,d⟩
theorem Inv.un {t':Nat} (I:Inv X pins σ H s) (u:Un X.fs [] H H' s.heap h') (hok:HOk X.prog X.w H' h'):Inv X pins σ H' { s with heap:=h',toks:=t' }:=by
 obtain ⟨m,⟨o,es,ep,ho,r⟩,_⟩:=id I.loc
 obtain ⟨sl,hL⟩:=u.any ho I.free (by simp)
 exact I.step (g':=s.gens) (d':=s.drawn) (ch:=[]) (fun _ z=>nomatch z) (fun b o _ hb _ e n=>u.keep b o e n hb (by simp)) (fun b o _ hb _ e n=>u.slot b o e n hb (by simp)) (fun b o _ e n=>u.free b o e n (by simp)) (fun b o _ e=>u.there b o e (by simp)) u.tups u.frzs u.tbls (fun m' hm=>by
  obtain ⟨o',es',ep',ho',r'⟩:=hm
  rw [ho] at ho'; cases ho'
  exact ⟨_,es',ep',hL,r'⟩) hok I.bare
theorem Inv.call {g':Array GenState} {t':Nat} {d':Drawn} {ch:List Addr} (I:Inv X pins σ H s) (u:Un (frs X.stack) ch H H' s.heap h') (hok:HOk X.prog X.w H' h') (hg:AllBare g')
  (hch:∀ b∈ch,(b∈X.ex\/X.s₀.heap.objs.size<=b)/\b≠X.env.locals/\(∀ x c,X.env.cells.lookup x=some c->c≠b)/\∀ p∈X.pn++pins,p.1≠b) :
  Inv X pins σ H' { s with heap:=h',gens:=g',drawn:=d',toks:=t' }:=by
 obtain ⟨m,⟨o,es,ep,ho,r⟩,_⟩:=id I.loc
 obtain ⟨sl,hL⟩:=u.any ho I.free fun z=>(hch _ z).2.1 rfl
 exact I.step (ch:=ch) hch (fun b o hL hb hc e n=>u.keep b o e n (fun z=>(xaj.mp (I.stkSub b z)).elim hL hb) hc) (fun b o _ _ hc e n=>u.any e n hc) (fun b o hc e n=>u.free b o e n hc) (fun b o hc e=>u.there b o e hc) u.tups u.frzs u.tbls (fun m' hm=>by
  obtain ⟨o',es',ep',ho',r'⟩:=hm
  rw [ho] at ho'; cases ho'
  exact ⟨_,es',ep',hL,r'⟩) hok hg
theorem Inv.turned {t':Nat} {it:Addr} (I:Inv X pins σ H s) (k:∀ b o,b≠it->s.heap.get? b=some o->h'.get? b=some o) (hn:H it=none) (hL:it≠X.env.locals)
  (h1:it∈X.ex\/X.s₀.heap.objs.size<=it) (h2:∀ x c,X.env.cells.lookup x=some c->c≠it) (h3:∀ p∈X.pn++pins,p.1≠it):Inv X pins σ H { s with heap:=h',toks:=t' }:=by
 have nit:∀ b u,H b=some u->b≠it:=fun b u e z=>by rw [z,hn] at e; cases e
 refine I.step (g':=s.gens) (d':=s.drawn) (ch:=[it]) (fun b hb=>?_) (fun b o _ _ hc e _=>k b o (fun z=>hc (by simp [z])) e) (fun b o _ _ hc e _=>⟨o.slots,k b o (fun z=>hc (by simp [z])) e⟩) (fun _ _ _ _ n=>n)
  (fun b o hc e=>⟨o,k b o (fun z=>hc (by simp [z])) e⟩) (fun _ _ e=>e) (fun _ _ _ e=>e) (fun b ps e=>⟨#[],by rw [e]; simp⟩) (fun m hm=>?_) (fun b u e=>?_) I.bare
 ·have e:b=it:=by simpa using hb
  subst e
  exact ⟨h1,hL,h2,h3⟩
 ·obtain ⟨o,es,ep,ho,r⟩:=hm
  exact ⟨o,es,ep,k _ o (Ne.symm hL) ho,r⟩
 ·refine (I.hok b u e).stay (fun c v hc q=>k c v ?_ q) (fun _ q=>q) fun _ _ q=>q
  rcases hc with z | z
  ·rw [z]; exact nit b u e
  ·exact nit c _ z
theorem Inv.tok (I:Inv X pins σ H s) (t:Nat):Inv X pins σ H { s with toks:=t }:=I.un (h':=s.heap) (t':=t) Un.refl I.hok
theorem Inv.kept {t':Nat} (I:Inv X pins σ H s) (k:∀ b u,s.heap.get? b=some u->h'.get? b=some u):Inv X pins σ H { s with heap:=h',toks:=t' }:=I.un (Un.kept k) (I.hok.kept k)
theorem Inv.laid {a:Addr} {o:HO} {t':Nat} (I:Inv X pins σ H s) (k:∀ b u,s.heap.get? b=some u->h'.get? b=some u) (hp:s.heap.objs.size<=a) (new:ObjOk X.prog X.w (upd H a o) h' a o) :
  Inv X pins σ (upd H a o) { s with heap:=h',toks:=t' }:=I.un (Un.laid k hp (I.hok.fresh hp)) (I.hok.laid k hp new)
theorem Inv.write {x e:Addr} {o:HO} {t':Nat} (I:Inv X pins σ H s) (mu:Mut (H x)) (he:e=x\/H e=some (.own x)) (k:∀ b u,b≠e->s.heap.get? b=some u->h'.get? b=some u) (heo:∃ u,h'.get? e=some u)
  (new:ObjOk X.prog X.w (upd H x o) h' x o):Inv X pins σ (upd H x o) { s with heap:=h',toks:=t' }:=I.un (Un.write mu he k heo) (I.hok.write mu he k heo new)
theorem Inv.pins_of {pins':List (Addr × Obj)} (I:Inv X pins σ H s) (h:∀ p∈pins',s.heap.get? p.1=some p.2/\H p.1=none/\p.1≠X.env.locals/\p.1∉X.fs/\∀ v,p.2.data≠.cell v):Inv X pins' σ H s :=
 ⟨I.ok,I.os,I.bare,I.base,I.loc,I.cell,I.free,I.freeC,fun p hp=>(xah.mp hp).elim (fun z=>I.pin p (xai _ z)) (h p),I.hok,I.len⟩
theorem nodup_ix {N:List Str} (hN:N.Nodup) {i j:Nat} {x:Str} (a:N[i]? = some x) (b:N[j]? = some x):i=j:=by
 obtain ⟨h1,e1⟩:=xan.mp a
 obtain ⟨h2,e2⟩:=xan.mp b
 exact (List.getElem_inj hN).mp (e1.trans e2.symm)
theorem store_ok2 {M:Model} {A:Around} {E:Value->Shared->Prop} {i:Nat} {x:Str} {v:V} {u:Value} {Q:Unit->Shared->Prop} (I:Inv X pins σ H s) (hN:X.N.Nodup) (hi:X.N[i]? = some x) (hx:Loc X.env.scope x) (r:RelV v u)
  (h:∀ s',Inv X pins (σ.set i (some v)) H s'->(∃ a,Heap.SameBut a s.heap s'.heap/\(a=X.env.locals\/X.env.cells.lookup x=some a))->Q () s') (hf:X.fn x=true\/X.env.scope.names.lookup x=some .local:=by first | exact .inl rfl | exact .inr rfl | assumption):wpAny M A (storeName X.env x u) Q E s:=by
 obtain ⟨m,hn,hl⟩:=id I.loc
 have hcls:(X.env.scope.kind == .class || (X.env.scope.kind == .module && X.env.locals != X.env.globals))=false:=by rw [I.ok.kind]; rfl
 have hiσ:i<σ.length:=by rw [I.len]; exact (xan.mp hi).1
 have cne:=I.cne
 have tracked:∀ {a:Addr} {h':Heap},(∃ o,s.heap.get? a=some o/\H a=none)->Heap.SameBut a s.heap h'->HOk X.prog X.w H h':=fun {a h'} ha hs b ob e=>by
  obtain ⟨_,_,hfree⟩:=ha
  refine (I.hok b ob e).stay (fun c w' hc q=>(hs.2 c ?_).trans q) (fun _ q=>q) fun _ _ q=>q
  rintro rfl
  rcases hc with rfl | hc
  ·rw [hfree] at e; cases e
  ·rw [hfree] at hc; cases hc
 rcases hx with hk | hk
 ·refine wpAny_storeName_local hk hn (fun h' hn' hs=>?_) hcls
  obtain ⟨oL,_,_,hoL,_⟩:=id hn
  refine h _ ⟨I.ok,I.os,I.bare,⟨fun b o e n hb hx=>?_,fun b o e n hb hx=>?_,I.base.free,fun b o e hx=>?_,I.base.tups,I.base.frzs,I.base.tbls⟩,⟨_,hn',fun j y v' e1 e2 e3=>?_⟩,fun y c e=>?_,I.free,I.freeC,fun p hp=>?_,tracked ⟨oL,hoL,I.free⟩ hs,by simpa using I.len⟩ ⟨_,hs,.inl rfl⟩
  ·exact (hs.2 b (xaw (xav (xak e) I.ok.above))).trans (I.base.keep b o e n hb hx)
  ·obtain ⟨sl,e1⟩:=I.base.slot b o e n hb hx
   exact ⟨sl,(hs.2 b (xaw (xav (xak e) I.ok.above))).trans e1⟩
  ·obtain ⟨o',e1⟩:=I.base.there b o e hx
   exact ⟨o',(hs.2 b (xaw (xav (xak e) I.ok.above))).trans e1⟩
  ·by_cases hj:j=i
   ·subst hj
    rw [hi] at e1; cases e1
    rw [xb0 hiσ] at e2
    cases e2
    exact ⟨u,r,.inl ⟨hk,by simp⟩⟩
   ·rw [xbL (Ne.symm hj)] at e2
    obtain ⟨u',r',q⟩:=hl j y v' e1 e2 e3
    refine ⟨u',r',?_⟩
    rcases q with ⟨k,e⟩ | ⟨k,c,e,z⟩
    ·refine .inl ⟨k,?_⟩
     have:y≠x:=fun e=>hj (nodup_ix hN e1 (e ▸ hi))
     simp [this,e]
    ·exact .inr ⟨k,c,e,z.sameBut hs (cne y c e)⟩
  ·obtain ⟨w',z⟩:=I.cell y c e
   exact ⟨w',z.sameBut hs (cne y c e)⟩
  ·obtain ⟨e,n,ne,nf,d⟩:=I.pin p hp
   exact ⟨(hs.2 p.1 ne).trans e,n,ne,nf,d⟩
 ·have hfn:X.fn x=true:=by
   rcases hf with z | z
   ·exact z
   ·rw [z] at hk; cases hk
  obtain ⟨c,hc⟩:=I.ok.has x (.inl hk)
  obtain ⟨w',z⟩:=I.cell x c hc
  refine wpAny_storeName_cell I.ok.kind hk hc z (fun h' hc' hs=>?_)
  obtain ⟨oc,hoc,hocd⟩:=id z
  refine h { s with heap:=h' } ⟨I.ok,I.os,I.bare,⟨fun b o e n hb hx=>?_,fun b o e n hb hx=>?_,I.base.free,fun b o e hx=>?_,I.base.tups,I.base.frzs,I.base.tbls⟩,⟨m,hn.sameBut hs (Ne.symm (cne x c hc)),fun j y v' e1 e2 e3=>?_⟩,fun y c' e=>?_,I.free,I.freeC,fun p hp=>?_,tracked ⟨oc,hoc,I.freeC x c hc⟩ hs,by simpa using I.len⟩ ⟨c,hs,.inr hc⟩
  ·exact (hs.2 b (xaw (xav (xak e) (I.ok.cab x c hfn hc)))).trans (I.base.keep b o e n hb hx)
  ·obtain ⟨sl,e1⟩:=I.base.slot b o e n hb hx
   exact ⟨sl,(hs.2 b (xaw (xav (xak e) (I.ok.cab x c hfn hc)))).trans e1⟩
  ·obtain ⟨o',e1⟩:=I.base.there b o e hx
   exact ⟨o',(hs.2 b (xaw (xav (xak e) (I.ok.cab x c hfn hc)))).trans e1⟩
  ·by_cases hj:j=i
   ·subst hj
    rw [hi] at e1; cases e1
    rw [xb0 hiσ] at e2
    cases e2
    exact ⟨u,r,.inr ⟨.inl hk,c,hc,hc'⟩⟩
   ·rw [xbL (Ne.symm hj)] at e2
    obtain ⟨u',r',q⟩:=hl j y v' e1 e2 e3
    refine ⟨u',r',?_⟩
    rcases q with q | ⟨k,c',e,z'⟩
    ·exact .inl q
    ·refine .inr ⟨k,c',e,z'.sameBut hs ?_⟩
     rintro rfl
     exact hj (nodup_ix hN e1 (I.ok.inj _ _ _ e hc ▸ hi))
  ·by_cases hcc:c'=c
   ·subst hcc; exact ⟨_,hc'⟩
   ·obtain ⟨w2,z2⟩:=I.cell y c' e
    exact ⟨w2,z2.sameBut hs hcc⟩
  ·obtain ⟨e,n,ne,nf,d⟩:=I.pin p hp
   refine ⟨(hs.2 p.1 ?_).trans e,n,ne,nf,d⟩
   intro q
   rw [q,hoc] at e
   have q':oc=p.2:=Option.some.inj e
   exact d w' (by rw [<- q']; exact hocd)
theorem store_ok {M:Model} {A:Around} {E:Value->Shared->Prop} {i:Nat} {x:Str} {v:V} {u:Value} {Q:Unit->Shared->Prop} (I:Inv X pins σ H s) (hN:X.N.Nodup) (hi:X.N[i]? = some x) (hx:Loc X.env.scope x) (r:RelV v u)
  (h:∀ s',Inv X pins (σ.set i (some v)) H s'->Q () s') (hf:X.fn x=true\/X.env.scope.names.lookup x=some .local:=by first | exact .inl rfl | exact .inr rfl | assumption):wpAny M A (storeName X.env x u) Q E s :=
 store_ok2 I hN hi hx r (fun s' I' _=>h s' I') hf
theorem Inv.call' {s':Shared} {ch:List Addr} (I:Inv X pins σ H s) (ho:s'.os=s.os) (u:Un (frs X.stack) ch H H' s.heap s'.heap) (hok:HOk X.prog X.w H' s'.heap) (hg:AllBare s'.gens)
  (hch:∀ b∈ch,(b∈X.ex\/X.s₀.heap.objs.size<=b)/\b≠X.env.locals/\(∀ x c,X.env.cells.lookup x=some c->c≠b)/\∀ p∈X.pn++pins,p.1≠b):Inv X pins σ H' s':=by
 obtain ⟨h',g',d',t',o'⟩:=s'
 have e:o'=s.os:=ho
 subst e
 exact I.call (g':=g') (t':=t') (d':=d') u hok hg hch
end
abbrev XK:=Value->Option Addr->Hp->Prop
abbrev St:=List (Option V)
abbrev VK:=V->Hp->Prop
abbrev TE:=St->Hp->VK->Prop
abbrev TT:=St->Hp->(Bool->Hp->Prop)->Prop
abbrev TA:=St->Hp->(List V->Hp->Prop)->Prop
structure Ends where
 nx:St->Hp->Prop
 rt:VK
 bk:St->Hp->Prop:=fun _ _=>False
 ct:St->Hp->Prop:=fun _ _=>False
abbrev TS:=Ends->St->Hp->Prop
def EP (X:Cx) (pins:List (Addr × Obj)) (σ:St) (Q:VK) (u:Value) (s':Shared):Prop:=∃ v H',Inv X pins σ H' s'/\RelV v u/\Q v H'
def TP (X:Cx) (pins:List (Addr × Obj)) (σ:St) (Q:Bool->Hp->Prop) (b:Bool) (s':Shared):Prop:=∃ H',Inv X pins σ H' s'/\Q b H'
def AP (X:Cx) (pins:List (Addr × Obj)) (σ:St) (Q:List V->Hp->Prop) (us:List Value) (s':Shared):Prop:=∃ vs H',Inv X pins σ H' s'/\Vals vs us/\Q vs H'
def SP (X:Cx) (pins:List (Addr × Obj)) (D:Ends) (f:Flow) (s':Shared):Prop :=
 match f with
 | .next=>∃ σ' H',Inv X pins σ' H' s'/\D.nx σ' H'
 | .brk=>∃ σ' H',Inv X pins σ' H' s'/\D.bk σ' H'
 | .cont=>∃ σ' H',Inv X pins σ' H' s'/\D.ct σ' H'
 | .ret u=>∃ v σ' H',Inv X pins σ' H' s'/\RelV v u/\D.rt v H'
def PE (X:Cx) (e:Expr) (t:TE):Prop :=
 ∀ (pins:List (Addr × Obj)) (s:Shared) (σ:St) (H:Hp) (Q:VK),Inv X pins σ H s->t σ H Q->wpAny (model X.prog X.w) X.A (eval e X.env) (EP X pins σ Q) X.xe s
def PT (X:Cx) (e:Expr) (t:TT):Prop :=
 ∀ (pins:List (Addr × Obj)) (s:Shared) (σ:St) (H:Hp) (Q:Bool->Hp->Prop),Inv X pins σ H s->t σ H Q->wpAny (model X.prog X.w) X.A (isTrue e X.env (eval e X.env)) (TP X pins σ Q) X.xe s
def PW (X:Cx) (e:Expr) (t:TT):Prop :=
 ∀ (whole:Sem Value) (pins:List (Addr × Obj)) (s:Shared) (σ:St) (H:Hp) (Q:Bool->Hp->Prop),Inv X pins σ H s->t σ H Q->wpAny (model X.prog X.w) X.A (isTrue e X.env whole) (TP X pins σ Q) X.xe s
def PA (X:Cx) (es:List Expr) (t:TA):Prop :=
 ∀ (pos:Pos) (pins:List (Addr × Obj)) (s:Shared) (σ:St) (H:Hp) (Q:List V->Hp->Prop),Inv X pins σ H s->t σ H Q->wpAny (model X.prog X.w) X.A (spliced (backTo pos (starEach es X.env))) (AP X pins σ Q) X.xe s
def PS (X:Cx) (st:Stmt) (t:TS):Prop :=
 ∀ (pins:List (Addr × Obj)) (s:Shared) (σ:St) (H:Hp) (D:Ends),Inv X pins σ H s->t D σ H->wpAny (model X.prog X.w) X.A (exec st X.env) (SP X pins D) X.xe s
def PSs (X:Cx) (st:List Stmt) (t:TS):Prop :=
 ∀ (pins:List (Addr × Obj)) (s:Shared) (σ:St) (H:Hp) (D:Ends),Inv X pins σ H s->t D σ H->wpAny (model X.prog X.w) X.A (execs st X.env) (SP X pins D) X.xe s
theorem thn {α:Type} {t:Sem α} {Q Q':α->Shared->Prop} {M:Model} {A:Around} {E:Value->Shared->Prop} {s:Shared} (h:wpAny M A t Q E s) (hQ:∀ a s,Q a s->Q' a s):wpAny M A t Q' E s:=xaZ h hQ fun _ _ x=>x
section
variable {X:Cx}
def tVar (i:Nat):TE:=fun σ H Q=>∃ v,σ[i]? = some (some v)/\Q v H
def tC (v:V):TE:=fun _ H Q=>Q v H
theorem pe_var {i:Nat} {x:Str} {pos:Pos} (hN:X.N[i]? = some x) (hv:Vis X.env.scope x) (hd:(x == ("__debug__" : Str))=false:=by decide) (hcd:(x == ("__classdict__" : Str))=false:=by decide):PE X (.Name x pos) (tVar i):=by
 intro pins s σ H Q I h
 obtain ⟨v,e,h⟩:=h
 obtain ⟨m,hn,hl⟩:=I.loc
 obtain ⟨u,r,l⟩:=hl i x v hN e hv
 have fin:EP X pins σ Q u s:=⟨v,H,I,r,h⟩
 rcases l with ⟨hk,hm⟩ | ⟨hk,c,hc,hcell⟩
 ·exact wpAny_Name (wpAny_loadName_local I.ok.kind hk hn hm fin) hd
 ·rcases hk with hk | hk
  ·exact wpAny_Name (wpAny_loadName_cell I.ok.kind hk hc hcell fin) hd
  ·exact wpAny_Name (wpAny_loadName_free I.ok.kind hk hc hcell fin hcd) hd
theorem pe_int {i j pos}:PE X (.Constant (.int i) j pos) (tC (.int i)):=fun _ _ _ H _ I h=>wpAny_Constant_int ⟨.int i,H,I.tok _,⟨_,rfl⟩,h⟩
theorem pe_bl {b j pos}:PE X (.Constant (.bool b) j pos) (tC (.bl b)):=fun _ _ _ H _ I h=>Constant_bool ⟨.bl b,H,I,rfl,h⟩
theorem pe_non {j pos}:PE X (.Constant .none j pos) (tC .non):=fun _ _ _ H _ I h=>Constant_none ⟨.non,H,I,rfl,h⟩
theorem pe_str {x j pos}:PE X (.Constant (.str x) j pos) (tC (.str x)):=fun _ _ _ H _ I h=>Calls.Constant_str ⟨.str x,H,I.tok _,⟨_,rfl⟩,h⟩
def Gl (X:Cx) (x:Str):Prop:=X.env.kindOf x=some .globalImplicit
theorem ld_glob {E:Value->Shared->Prop} {pins:List (Addr × Obj)} {s:Shared} {σ:St} {H:Hp} {x:Str} {u:Value} {pos:Pos} {Q:Value->Shared->Prop} (I:Inv X pins σ H s) (hg:Gl X x) (hm:X.mg x=some u) (h:Q u s)
  (hd:(x == ("__debug__" : Str))=false:=by decide):wpAny (model X.prog X.w) X.A (eval (.Name x pos) X.env) Q E s :=
 Calls.Name_function_global I.ok.kind hg (Calls.loadGlobal_global (by rw [I.ok.glob]; exact I.mod.glob.keeps I.bk) hm h) hd
theorem ld_blt {E:Value->Shared->Prop} {pins:List (Addr × Obj)} {s:Shared} {σ:St} {H:Hp} {x:Str} {u:Value} {pos:Pos} {Q:Value->Shared->Prop} (I:Inv X pins σ H s) (hg:Gl X x) (hm:X.mg x=none) (hv:bootBuiltins x=some u) (h:Q u s)
  (hn:x ≠ "__name__" := by decide) (hd:(x == ("__debug__" : Str))=false:=by decide):wpAny (model X.prog X.w) X.A (eval (.Name x pos) X.env) Q E s:=by
 obtain ⟨mb,h1,h2⟩:=I.mod.blt
 exact Calls.Name_function_global I.ok.kind hg (Calls.loadGlobal_builtin (by rw [I.ok.glob]; exact I.mod.glob.keeps I.bk) hm (by rw [I.ok.blt]; exact h1.keeps I.bk) ((h2 x hn).trans hv) h) hd
theorem pe_glob {x:Str} {v:V} {u:Value} {pos:Pos} (hg:Gl X x) (hm:X.mg x=some u) (r:RelV v u) (hd:(x == ("__debug__" : Str))=false:=by decide):PE X (.Name x pos) (tC v) :=
 fun _ _ _ H _ I h=>ld_glob I hg hm ⟨v,H,I,r,h⟩ hd
theorem pe_bltn {x:Str} {v:V} {u:Value} {pos:Pos} (hg:Gl X x) (hm:X.mg x=none) (hv:bootBuiltins x=some u) (r:RelV v u) (hn:x ≠ "__name__" := by decide) (hd:(x == ("__debug__" : Str))=false:=by decide):PE X (.Name x pos) (tC v) :=
 fun _ _ _ H _ I h=>ld_blt I hg hm hv ⟨v,H,I,r,h⟩ hn hd
variable {a b:Expr} {ta tb:TE} {pos:Pos}
def tB (t:TE):TT:=fun σ H Q=>t σ H fun x H1=>∃ c,x=.bl c/\Q c H1
theorem pt_val {e:Expr} {t:TE} (h:PE X e t) (he:∀ whole,isTrue e X.env whole=(do let v <- whole; standAt e.pos; holding [v] (truthy v)):=by intro _; rfl):PT X e (tB t):=by
 intro pins s σ H Q I hw
 refine isTrue_plain (thn (h pins s σ H _ I hw) fun v s1 hx5=>L2.ex2 hx5 fun x H1 I1 r1 q1=>?_) (he _)
 obtain ⟨d,rfl,q⟩:=q1
 cases r1
 exact wpAny_truthy_bool ⟨H1,I1,q⟩
variable {tA tB':TT} {rest:List Expr}
def tAnd (t u:TT):TT:=fun σ H Q=>t σ H fun c H1=>if c=true then u σ H1 Q else Q false H1
def tOr (t u:TT):TT:=fun σ H Q=>t σ H fun c H1=>if c=true then Q true H1 else u σ H1 Q
def tNot (t:TT):TT:=fun σ H Q=>t σ H fun c H1=>Q (!c) H1
theorem pw_and1 (ha:PT X a tA):PW X (.BoolOp .And [a] pos) tA:=by
 intro wh pins s σ H Q I h
 refine isTrue_and (thn (ha pins s σ H Q I h) fun c s1 e=>?_)
 cases c with
 | true=>exact isTrue_and_nil e
 | false=>exact e
theorem pw_or1 (ha:PT X a tA):PW X (.BoolOp .Or [a] pos) tA:=by
 intro wh pins s σ H Q I h
 refine isTrue_or (thn (ha pins s σ H Q I h) fun c s1 e=>?_)
 cases c with
 | false=>exact isTrue_or_nil e
 | true=>exact e
theorem pw_and (ha:PT X a tA) (hb:PW X (.BoolOp .And (b :: rest) pos) tB'):PW X (.BoolOp .And (a :: b :: rest) pos) (tAnd tA tB'):=by
 intro wh pins s σ H Q I h
 refine isTrue_and (thn (ha pins s σ H _ I h) fun c s1 hx9=>?_)
 obtain ⟨H1,I1,q1⟩:=hx9
 cases c with
 | true=>exact hb wh pins s1 σ H1 Q I1 q1
 | false=>exact ⟨H1,I1,q1⟩
theorem pw_or (ha:PT X a tA) (hb:PW X (.BoolOp .Or (b :: rest) pos) tB'):PW X (.BoolOp .Or (a :: b :: rest) pos) (tOr tA tB'):=by
 intro wh pins s σ H Q I h
 refine isTrue_or (thn (ha pins s σ H _ I h) fun c s1 hx9=>?_)
 obtain ⟨H1,I1,q1⟩:=hx9
 cases c with
 | true=>exact ⟨H1,I1,q1⟩
 | false=>exact hb wh pins s1 σ H1 Q I1 q1
theorem pt_not (ha:PT X a tA):PT X (.UnaryOp .Not a pos) (tNot tA):=by
 intro pins s σ H Q I h
 exact isTrue_not (ha pins s σ H (fun c H1=>Q (!c) H1) I h)
def tAndV (ta tb:TE):TE:=fun σ H Q=>ta σ H fun x H1=>∃ c,x=.bl c/\if c=true then tb σ H1 Q else Q (.bl false) H1
theorem pe_one {op} {t:TE} (h:PE X a t):PE X (.BoolOp op [a] pos) t:=fun pins s σ H Q I hw=>BoolOp_one (h pins s σ H Q I hw)
theorem pe_and (ha:PE X a ta) (hb:PE X (.BoolOp .And (b :: rest) pos) tb):PE X (.BoolOp .And (a :: b :: rest) pos) (tAndV ta tb):=by
 intro pins s σ H Q I h
 refine BoolOp_and (thn (ha pins s σ H _ I h) fun v s1 hx5=>L2.ex2 hx5 fun x H1 I1 r1 q1=>?_)
 obtain ⟨c,rfl,q1⟩:=q1
 cases r1
 refine wpAny_truthy_bool ?_
 cases c with
 | true=>exact hb pins s1 σ H1 Q I1 q1
 | false=>exact ⟨.bl false,H1,I1,rfl,q1⟩
end
def SqL (K:PySem.W.Frag) (H:Hp) (a:Addr) (xs:List V):Prop :=
 Rd H a (.lst xs) \/
  ∃ (o:Obj) (its:Array Value) (n:Nat),K.lookup a=some o/\o.cls=.type "list"/\o.dict=none/\o.data=.seq its n/\its.size<=sizeLine/\Vals xs its.toList
def SqT (K:PySem.W.Frag) (H:Hp) (a:Addr) (xs:List V):Prop :=
 Rd H a (.tup xs) \/
  ∃ (o:Obj) (its:Array Value) (n:Nat),K.lookup a=some o/\o.cls=.type "tuple"/\o.data=.seq its n/\its.size<=sizeLine/\Vals xs its.toList
def absV:Value->Option V
 | .none=>some .non
 | .bool b=>some (.bl b)
 | .int i _=>some (.int i)
 | .str x _=>some (.str x)
 | .bytes b _=>some (.byt b)
 | .float b _=>some (.flt b)
 | .ref a=>some (.ref a)
 | .type n=>some (.ty n)
 | _=>none
theorem RelV.abs {x:V} {u:Value} (r:RelV x u):absV u=some x:=by
 cases x with
 | non=>cases r; rfl
 | bl _=>cases r; rfl
 | int _=>obtain ⟨t,rfl⟩:=r; rfl
 | str _=>obtain ⟨t,rfl⟩:=r; rfl
 | byt _=>obtain ⟨t,rfl⟩:=r; rfl
 | flt _=>obtain ⟨t,rfl⟩:=r; rfl
 | ref _=>cases r; rfl
 | ty _=>cases r; rfl
theorem RelV.inj {x y:V} {u:Value} (r:RelV x u) (q:RelV y u):x=y:=Option.some.inj (r.abs.symm.trans q.abs)
theorem Vals.inj:∀ {xs ys:List V} {us:List Value},Vals xs us->Vals ys us->xs=ys
 | _,_,_,.nil,.nil=>rfl
 | _,_,_,.cons r t,.cons r' t'=>by rw [r.inj r',Vals.inj t t']
section
variable {X:Cx} {pins:List (Addr × Obj)} {σ:St} {H:Hp} {s:Shared} {a:Addr} {xs ys:List V}
theorem SqL.of {K:PySem.W.Frag} (h:H a=some (.lst xs)):SqL K H a xs:=.inl (.inl h)
theorem SqT.of {K:PySem.W.Frag} (h:H a=some (.tup xs)):SqT K H a xs:=.inl (.inl h)
theorem Inv.list (I:Inv X pins σ H s) (h:SqL X.K H a xs):∃ its:List Value,Vals xs its/\PlainL s.heap a its.toArray/\xs.length<=sizeLine:=by
 rcases h with h | ⟨o,its,n,hk,hc,hd,hs,hz,r⟩
 ·obtain ⟨z,its,n,r,e⟩:=h.ok I.hok
  exact ⟨its,r,⟨_,n,e,rfl,rfl,rfl⟩,z⟩
 ·refine ⟨its.toList,r,⟨o,n,I.kIn a o hk,hc,hd,by simpa using hs⟩,?_⟩
  have e:=r.length
  simp only [xaW] at e
  lia
theorem Inv.tuple (I:Inv X pins σ H s) (h:SqT X.K H a xs):∃ its:List Value,Vals xs its/\IsTup s.heap a its.toArray/\xs.length<=sizeLine:=by
 rcases h with h | ⟨o,its,n,hk,hc,hs,hz,r⟩
 ·obtain ⟨z,its,r,p⟩:=h.ok I.hok
  exact ⟨its,r,p,z⟩
 ·refine ⟨its.toList,r,⟨o,I.kIn a o hk,hc,n,by simpa using hs⟩,?_⟩
  have e:=r.length
  simp only [xaW] at e
  lia
theorem Inv.list_inj (I:Inv X pins σ H s) (h:SqL X.K H a xs) (h':SqL X.K H a ys):xs=ys:=by
 obtain ⟨its,r,⟨o,n,e,_,_,d⟩,_⟩:=I.list h
 obtain ⟨its',r',⟨o',n',e',_,_,d'⟩,_⟩:=I.list h'
 rw [e] at e'; cases e'
 rw [d] at d'
 injection d' with d1 _
 have:its=its':=by simpa using congrArg Array.toList d1
 subst this
 exact r.inj r'
end
abbrev Cx.wish (X:Cx) (E:Value->Shared->Prop):Cx:={ X with xe:=E }
abbrev Cx.nox (X:Cx):Cx:=X.wish fun _ _=>False
theorem Cx.Ok.wish {X:Cx} (ok:X.Ok) (E:Value->Shared->Prop):(X.wish E).Ok :=
 ⟨ok.mod,ok.kind,ok.glob,ok.blt,ok.above,ok.inj,ok.has,ok.cab,ok.hd,ok.frames,ok.stk,ok.exf,ok.bs,ok.bsz,ok.noex,ok.exfs,ok.funs,ok.frf⟩
theorem Cx.Ok.unwish {X:Cx} {E:Value->Shared->Prop} (ok:(X.wish E).Ok):X.Ok :=
 ⟨ok.mod,ok.kind,ok.glob,ok.blt,ok.above,ok.inj,ok.has,ok.cab,ok.hd,ok.frames,ok.stk,ok.exf,ok.bs,ok.bsz,ok.noex,ok.exfs,ok.funs,ok.frf⟩
section
variable {X:Cx} {pins:List (Addr × Obj)} {σ:St} {H:Hp} {s:Shared} {E:Value->Shared->Prop}
theorem Inv.wish (I:Inv X pins σ H s) (E:Value->Shared->Prop):Inv (X.wish E) pins σ H s:=⟨I.ok.wish E,I.os,I.bare,I.base,I.loc,I.cell,I.free,I.freeC,I.pin,I.hok,I.len⟩
theorem Inv.unwish (I:Inv (X.wish E) pins σ H s):Inv X pins σ H s:=⟨I.ok.unwish,I.os,I.bare,I.base,I.loc,I.cell,I.free,I.freeC,I.pin,I.hok,I.len⟩
theorem SP.unwish {D:Ends} {f:Flow} {s':Shared} (h:SP (X.wish E) pins D f s'):SP X pins D f s':=by
 cases f with
 | next=>obtain ⟨σ',H',I,q⟩:=h; exact ⟨σ',H',I.unwish,q⟩
 | brk=>obtain ⟨σ',H',I,q⟩:=h; exact ⟨σ',H',I.unwish,q⟩
 | cont=>obtain ⟨σ',H',I,q⟩:=h; exact ⟨σ',H',I.unwish,q⟩
 | ret u=>obtain ⟨v,σ',H',I,r,q⟩:=h; exact ⟨v,σ',H',I.unwish,r,q⟩
theorem PE.nox {e:Expr} {t:TE} (h:PE X.nox e t):PE X e t:=fun pins s σ H Q I hw =>
 xaZ (h pins s σ H Q (I.wish _) hw) (fun _ _ hx5=>L2.ex2 hx5 fun v H' I' r q=>⟨v,H',I'.unwish,r,q⟩) fun _ _ z=>False.elim z
theorem PT.nox {e:Expr} {t:TT} (h:PT X.nox e t):PT X e t:=fun pins s σ H Q I hw =>
 xaZ (h pins s σ H Q (I.wish _) hw) (fun _ _ ⟨H',I',q⟩=>⟨H',I'.unwish,q⟩) fun _ _ z=>False.elim z
theorem PSs.nox {st:List Stmt} {t:TS} (h:PSs X.nox st t):PSs X st t:=fun pins s σ H D I hw =>
 xaZ (h pins s σ H D (I.wish _) hw) (fun _ _ q=>q.unwish) fun _ _ z=>False.elim z
end
section
variable {X:Cx} {st:Stmt} {rest:List Stmt} {t u:TS} {e:Expr} {te:TE} {pos:Pos}
def tNext:TS:=fun D σ H=>D.nx σ H
def tSeq (t u:TS):TS:=fun D σ H=>t { D with nx:=u D } σ H
theorem pss_nil:PSs X [] tNext:=fun _ _ σ H _ I h=>wpAny_execs_nil ⟨σ,H,I,h⟩
theorem pss_cons (h1:PS X st t) (h2:PSs X rest u):PSs X (st :: rest) (tSeq t u):=by
 intro pins s σ H D I h
 refine wpAny_execs_cons (thn (h1 pins s σ H { D with nx:=u D } I h) fun f s1 q=>?_)
 cases f with
 | next =>
  obtain ⟨σ',H',I',q⟩:=q
  exact h2 pins s1 σ' H' D I' q
 | ret v=>exact q
 | brk=>exact q
 | cont=>exact q
theorem pss_one (h1:PS X st t):PSs X [st] t:=by
 intro pins s σ H D I h
 refine wpAny_execs_cons (thn (h1 pins s σ H D I h) fun f s1 q=>?_)
 cases f with
 | next=>exact wpAny_execs_nil q
 | ret v=>exact q
 | brk=>exact q
 | cont=>exact q
theorem Inv.quiet {pins:List (Addr × Obj)} {σ:St} {H:Hp} {s:Shared} (I:Inv X pins σ H s):interactive X.env=false:=by simp [interactive,I.ok.kind]
def tDrop (te:TE):TS:=fun D σ H=>te σ H fun _ H1=>D.nx σ H1
theorem ps_expr (he:PE X e te) (hs:swapsWith e none pos.line X.env=pure false:=by rfl):PS X (.Expr e pos) (tDrop te):=by
 intro pins s σ H D I h
 exact wpAny_Expr_any (thn (he pins s σ H _ I h) fun v s1 hx5=>L2.ex2 hx5 fun x H1 I1 r1 q1=>⟨σ,H1,I1,q1⟩) I.quiet hs
def tRet (te:TE):TS:=fun D σ H=>te σ H D.rt
theorem ps_ret (he:PE X e te):PS X (.Return (some e) pos) (tRet te):=by
 intro pins s σ H D I h
 exact wpAny_Return_some (thn (he pins s σ H _ I h) fun v s1 hx5=>L2.ex2 hx5 fun x H1 I1 r1 q1=>⟨x,σ,H1,I1,r1,q1⟩)
def tIfS (c:TT) (t u:TS):TS:=fun D σ H=>c σ H fun b H1=>if b=true then t D σ H1 else u D σ H1
theorem ps_if {c:Expr} {a b:List Stmt} {tc:TT} (hc:PT X c tc) (ha:PSs X a t) (hb:PSs X b u):PS X (.If c a b pos) (tIfS tc t u):=by
 intro pins s σ H D I h
 refine wpAny_If (thn (hc pins s σ H _ I h) fun d s1 hx9=>?_)
 obtain ⟨H1,I1,q1⟩:=hx9
 cases d with
 | true=>exact ha pins s1 σ H1 D I1 q1
 | false=>exact hb pins s1 σ H1 D I1 q1
end
abbrev TG:=V->St->Hp->(St->Hp->Prop)->Prop
abbrev TGs:=List V->St->Hp->(St->Hp->Prop)->Prop
def PG (X:Cx) (target:Expr) (t:TG):Prop :=
 ∀ (pins:List (Addr × Obj)) (s:Shared) (σ:St) (H:Hp) (v:V) (u:Value) (Q:St->Hp->Prop),Inv X pins σ H s->RelV v u->t v σ H Q ->
  wpAny (model X.prog X.w) X.A (assign target X.env u) (fun _ s'=>∃ σ' H',Inv X pins σ' H' s'/\Q σ' H') X.xe s
def PGs (X:Cx) (ts:List Expr) (t:TGs):Prop :=
 ∀ (pins:List (Addr × Obj)) (s:Shared) (σ:St) (H:Hp) (vs:List V) (us:List Value) (Q:St->Hp->Prop),Inv X pins σ H s->Vals vs us->t vs σ H Q ->
  wpAny (model X.prog X.w) X.A (assignInOrder ((assignEach ts X.env).map (·.2)) us) (fun _ s'=>∃ σ' H',Inv X pins σ' H' s'/\Q σ' H') X.xe s
section
variable {X:Cx} {pos:Pos}
def gName (i:Nat):TG:=fun v σ H Q=>Q (σ.set i (some v)) H
theorem pg_name {i:Nat} {x:Str} (hN:X.N.Nodup) (hi:X.N[i]? = some x) (hx:Loc X.env.scope x) (hf:X.fn x=true\/X.env.scope.names.lookup x=some .local:=by first | exact .inl rfl | exact .inr rfl | assumption):PG X (.Name x pos) (gName i):=by
 intro pins s σ H v u Q I r h
 exact wpAny_assign_Name (store_ok I hN hi hx r (fun s' I'=>⟨_,H,I',h⟩) hf)
def gNil:TGs:=fun vs σ H Q=>vs=[]/\Q σ H
def gCons (t:TG) (u:TGs):TGs:=fun vs σ H Q=>∃ v r,vs=v :: r/\t v σ H fun σ' H'=>u r σ' H' Q
theorem pgs_nil:PGs X [] gNil:=by
 intro pins s σ H vs us Q I r h
 obtain ⟨e,h⟩:=h
 subst e
 cases r
 exact assignInOrder_nil ⟨σ,H,I,h⟩
theorem pgs_cons {e:Expr} {es:List Expr} {t:TG} {u:TGs} (h1:PG X e t) (h2:PGs X es u)
  (hs:(assignEach (e :: es) X.env).map (·.2)=assign e X.env :: (assignEach es X.env).map (·.2):=by rfl):PGs X (e :: es) (gCons t u):=by
 intro pins s σ H vs us Q I r h
 obtain ⟨v,vr,e1,h⟩:=h
 subst e1
 cases r with
 | cons r rr =>
  rw [hs]
  refine assignInOrder_cons (thn (h1 pins s σ H _ _ _ I r h) fun _ s1 hx9=>?_)
  obtain ⟨σ1,H1,I1,q1⟩:=hx9
  exact h2 pins s1 σ1 H1 _ _ Q I1 rr q1
def gTup (K:PySem.W.Frag) (n:Nat) (t:TGs):TG:=fun v σ H Q=>∃ a xs,v=.ref a/\SqT K H a xs/\xs.length=n/\t xs σ H Q
theorem pg_tup {es:List Expr} {k:Nat} {t:TGs} {n:Nat} (hc:X.calm=true) (h:PGs X es t)
  (hn:(assignEach es X.env).length=n:=by rfl) (hst:(assignEach es X.env).findIdx? (·.1)=none:=by rfl):PG X (.Tuple es k pos) (gTup X.K n t):=by
 intro pins s σ H v u Q I r hw
 obtain ⟨a,xs,e1,hq,hl,hw⟩:=hw
 subst e1
 cases r
 obtain ⟨its,rv,ht,hz⟩:=I.tuple hq
 refine assign_Tuple_tuple (I.ok.hd hc) ht (by simp [hn,<- hl,rv.length]) hst fun h' hx=>?_
 have I1:Inv X pins σ H { s with heap:=h' }:=I.kept (t':=s.toks) fun b o e=>hx b o (xaw (xak e)) e
 exact h pins _ σ H xs _ Q I1 (by simpa using rv) hw
def tAsg (te:TE) (g:TG):TS:=fun D σ H=>te σ H fun x H1=>g x σ H1 D.nx
theorem ps_asg {tg e:Expr} {te:TE} {g:TG} (he:PE X e te) (hg:PG X tg g) (hs:swapsWithSole [tg] e pos.line X.env=pure false:=by rfl) (hw:swappedStores [tg] e X.env=pure none:=by rfl)
  (h1:(assignEach [tg] X.env).map (·.2)=[assign tg X.env]:=by rfl):PS X (.Assign [tg] e pos) (tAsg te g):=by
 intro pins s σ H D I h
 refine wpAny_Assign_stores (thn (he pins s σ H _ I h) fun v s1 hx5=>L2.ex2 hx5 fun x H1 I1 r1 q1=>?_) hs hw
 rw [h1]
 exact thn (hg pins s1 σ H1 x v _ I1 r1 q1) fun _ s2 q=>q
theorem ps_set {i:Nat} {x:Str} {e:Expr} {te:TE} {pos':Pos} (hN:X.N.Nodup) (hi:X.N[i]? = some x) (hx:Loc X.env.scope x) (he:PE X e te) (hs:swapsWith e (some (.Name x pos')) pos.line X.env=pure false:=by rfl) (hf:X.fn x=true\/X.env.scope.names.lookup x=some .local:=by first | exact .inl rfl | exact .inr rfl | assumption) :
  PS X (.Assign [.Name x pos'] e pos) (tAsg te (gName i)):=by
 intro pins s σ H D I h
 refine wpAny_Assign_Name (thn (he pins s σ H _ I h) fun v s1 hx5=>L2.ex2 hx5 fun y H1 I1 r1 q1=>?_) hs
 exact store_ok I1 hN hi hx r1 (fun s2 I2=>⟨_,H1,I2,q1⟩) hf
end
section
variable {X:Cx} {pos:Pos}
def tWhile (c:TT) (tb:TS):TS:=fun D σ H=>∃ W:Nat->St->Hp->Prop,(∃ m,W m σ H)/\∀ m σ H,W m σ H ->
 c σ H fun b H1=>if b=true then ∃ N:St->Hp->Prop,(∀ σ' H',N σ' H'->∃ m',m'<m/\W m' σ' H')/\tb { D with nx:=N,ct:=N,bk:=D.nx } σ H1 else D.nx σ H1
theorem ps_while {c:Expr} {body:List Stmt} {tc:TT} {tb:TS} (hp:PassesOwn (model X.prog X.w) X.A X.env X.xe) (hc:PT X c tc) (hb:PSs X body tb):PS X (.While c body [] pos) (tWhile tc tb):=by
 intro pins s σ H D I h
 obtain ⟨W,⟨m0,w0⟩,turn⟩:=h
 refine wpAny_While (codeAny_whileLoop (fun n s'=>∃ σ' H',Inv X pins σ' H' s'/\W n σ' H') ?_ m0 ⟨σ,H,I,w0⟩)
 rintro n s1 ⟨σ1,H1,I1,w1⟩
 refine wpAny_passesOwn hp (thn (hc pins s1 σ1 H1 _ I1 (turn n σ1 H1 w1)) fun b s2 hx9=>?_)
 obtain ⟨H2,I2,q2⟩:=hx9
 cases b with
 | true =>
  obtain ⟨N,hN,q2⟩:=q2
  rw [if_pos rfl]
  refine wpAny_passesOwn hp (thn (hb pins s2 σ1 H2 _ I2 q2) fun f s3 q3=>?_)
  cases f with
  | next =>
   obtain ⟨σ3,H3,I3,n3⟩:=q3
   obtain ⟨m',hm,w3⟩:=hN σ3 H3 n3
   exact ⟨m',hm,σ3,H3,I3,w3⟩
  | cont =>
   obtain ⟨σ3,H3,I3,n3⟩:=q3
   obtain ⟨m',hm,w3⟩:=hN σ3 H3 n3
   exact ⟨m',hm,σ3,H3,I3,w3⟩
  | brk=>exact q3
  | ret v=>exact q3
 | false =>
  rw [if_neg xat]
  exact wpAny_execs_nil ⟨σ1,H2,I2,q2⟩
end
structure It where
 go:Nat->Hp->Prop
 yld:Nat->Hp->V->Hp->Prop
 stop:Nat->Hp->Prop
def FpOk (X:Cx) (pins:List (Addr × Obj)) (H:Hp) (b:Addr):Prop :=
 H b=none/\b≠X.env.locals/\b∉X.fs/\(b∈X.ex\/X.s₀.heap.objs.size<=b)/\(∀ x c,X.env.cells.lookup x=some c->c≠b)/\∀ p∈X.pn++pins,p.1≠b
theorem Inv.fpOk {X:Cx} {pins:List (Addr × Obj)} {σ:St} {H H':Hp} {s:Shared} {b:Addr} (I:Inv X pins σ H s) (hb:s.heap.objs.size<=b) (hn:H' b=none):FpOk X pins H' b:=by
 refine ⟨hn,xbU (xav I.lt hb),I.nofs hb,.inr (xaB I.sz hb),fun x c e z=>?_,fun p hp z=>?_⟩
 ·obtain ⟨v,q⟩:=I.cell x c e
  exact absurd (xav q.lt (by rw [z]; exact hb)) (xa0 _)
 ·exact absurd (xav (xak (I.pin p hp).1) (by rw [z]; exact hb)) (xa0 _)
structure Turn (P:Program) (w:World) (K:PySem.W.Frag) (tg:Expr) (J:It) (fp:List Addr) (it:Addr) (tn:Nat->Heap->Prop):Prop where
 mem:it∈fp
 obj:∀ i h,tn i h->∀ b∈fp,∃ o,h.get? b=some o/\∀ v,o.data≠.cell v
 keep:∀ i h h',tn i h->(∀ b∈fp,∀ o,h.get? b=some o->h'.get? b=some o)->tn i h'
 item:∀ (X:Cx),X.prog=P->X.w=w->X.K=K->X.calm=true->∀ (i:Nat) (pins:List (Addr × Obj)) (s:Shared) (σ:St) (H:Hp) (E:Value->Shared->Prop),Inv X pins σ H s->(∀ b∈fp,FpOk X pins H b)->tn i s.heap->J.go i H ->
  wpAny (model P w) X.A (pyNext (.ref it)) (fun r s1=>∃ u,r=some u /\
   wpAny (model P w) X.A (letOwnedTupleGo tg (.ref it) u) (fun _ s2=>∃ x H',Inv X pins σ H' s2/\RelV x u/\J.yld i H x H'/\tn (i+1) s2.heap/\∀ b∈fp,H' b=none) E s1) E s
 done:∀ (X:Cx),X.prog=P->X.w=w->X.K=K->X.calm=true->∀ (i:Nat) (pins:List (Addr × Obj)) (s:Shared) (σ:St) (H:Hp) (E:Value->Shared->Prop),Inv X pins σ H s->(∀ b∈fp,FpOk X pins H b)->tn i s.heap->J.stop i H ->
  wpAny (model P w) X.A (pyNext (.ref it)) (fun r s1=>r=none/\Inv X pins σ H s1) E s
 self:∀ (A:Around) (i:Nat) (s:Shared) (Q:Value->Shared->Prop) (E:Value->Shared->Prop),tn i s.heap->Q (.ref it) s->wpAny (model P w) A (pyIter (.ref it)) Q E s
abbrev TI:=St->Hp->(It->Hp->Prop)->Prop
def PIE (X:Cx) (pins:List (Addr × Obj)) (σ:St) (tg:Expr) (R:It->Hp->Prop) (itv:Value) (s2:Shared):Prop :=
 ∃ (it:Addr) (fp:List Addr) (tn:Nat->Heap->Prop) (J:It) (H':Hp),itv=.ref it/\Inv X pins σ H' s2/\Turn X.prog X.w X.K tg J fp it tn/\tn 0 s2.heap/\(∀ b∈fp,FpOk X pins H' b)/\R J H'
def PI (X:Cx) (tg iter:Expr) (wi:TI):Prop :=
 ∀ (pins:List (Addr × Obj)) (s:Shared) (σ:St) (H:Hp) (R:It->Hp->Prop),Inv X pins σ H s->wi σ H R ->
  wpAny (model X.prog X.w) X.A (eval iter X.env) (fun v s1=>wpAny (model X.prog X.w) X.A (pyIter v) (PIE X pins σ tg R) X.xe s1) X.xe s
theorem go_of {M:Model} {A:Around} {E:Value->Shared->Prop} {s:Shared} {tg:Expr} {it:Addr} {u:Value} {o:Obj} {n:String} {vs:Array Value} {Q:Unit->Shared->Prop} (ho:s.heap.get? it=some o) (hc:o.cls=.type n) (hd:o.data=.fields vs)
  (hn:["enumerate", "zip", "dict_itemiterator", "dict_reverseitemiterator", "odict_iterator", "itertools.zip_longest", "itertools.pairwise"].contains n=false) (hQ:Q () s):wpAny M A (letOwnedTupleGo tg (.ref it) u) Q E s:=by
 unfold letOwnedTupleGo
 cases tg <;> first
  | exact xaf hQ
  | (cases u <;> first
     | exact xaf hQ
     | (refine xaa (wpAny_load ho ?_)
        rw [hc,hd]
        show wpAny M A (if (["enumerate", "zip", "dict_itemiterator", "dict_reverseitemiterator", "odict_iterator", "itertools.zip_longest", "itertools.pairwise"].contains n && vs[0]? == some (rawInt _))=true then _ else _) Q E s
        rw [if_neg (by intro h; rw [hn,Bool.false_and] at h; cases h)]
        exact xaf hQ))
def Itl (K:PySem.W.Frag) (a:Addr):It :=
 ⟨fun i H=>∃ xs x,SqL K H a xs/\xs[i]? = some x,fun i H x H'=>H'=H/\∀ xs,SqL K H a xs->xs[i]? = some x,fun i H=>∃ xs,SqL K H a xs/\xs.length<=i⟩
def Itr (lo:Int) (n:Nat):It:=⟨fun i _=>i<n,fun i H x H'=>H'=H/\x=.int (lo+i),fun i _=>n<=i⟩
theorem turn_list {P:Program} {w:World} {K:PySem.W.Frag} {tg:Expr} (a it:Addr):Turn P w K tg (Itl K a) [it] it (fun i h=>h.IsListIter it a i) where
 mem:=by simp
 obj:=fun i h st b hb=>by
  have e:b=it:=by simpa using hb
  subst e
  obtain ⟨o,e,c,d⟩:=st
  exact ⟨o,e,fun v z=>by rw [d] at z; cases z⟩
 keep:=fun i h h' st k=>st.at fun o e=>k it (by simp) o e
 item:=by
  intro X hP hw hK hc i pins s σ H E I hf st hg
  subst hP hw hK
  obtain ⟨xs,x,hq,hx⟩:=hg
  obtain ⟨its,rv,p,hz⟩:=I.list hq
  obtain ⟨u,hu,ru⟩:=rv.get hx
  obtain ⟨f0,f1,f2,f3,f4,f5⟩:=hf it (by simp)
  refine wpAny_pyNext_list_item st p.isList (x:=u) (by simpa using hu) fun h' st' sb=>?_
  have I1:Inv X pins σ H { s with heap:=h' }:=I.turned (t':=s.toks) (fun b o hb e=>(sb.2 b hb).trans e) f0 f1 f3 f4 f5
  obtain ⟨o,e,c,d⟩:=id st'
  exact ⟨u,rfl,go_of (s:={ s with heap:=h' }) e c d (by decide) ⟨x,H,I1,ru,⟨rfl,fun ys hy=>by rw [I.list_inj hy hq]; exact hx⟩,st',fun b hb=>(hf b hb).1⟩⟩
 done:=by
  intro X hP hw hK hc i pins s σ H E I hf st hg
  subst hP hw hK
  obtain ⟨xs,hq,hx⟩:=hg
  obtain ⟨its,rv,p,hz⟩:=I.list hq
  obtain ⟨f0,f1,f2,f3,f4,f5⟩:=hf it (by simp)
  have hl:=rv.length
  exact wpAny_pyNext_list_end (I.ok.hd hc) st p.isList (by simp; lia) fun h' eb=>⟨rfl,I.turned (t':=s.toks) (fun b o hb e=>eb b o hb e) f0 f1 f3 f4 f5⟩
 self:=fun _ _ _ _ _ st h=>wpAny_pyIter_listiter st h
theorem turn_range {P:Program} {w:World} {K:PySem.W.Frag} {tg:Expr} (it:Addr) (lo:Int) (n:Nat):Turn P w K tg (Itr lo n) [it] it (fun i h=>IsRangeIter h it (lo+(i:Nat) * 1) ((n:Int) - (i:Nat)) 1) where
 mem:=by simp
 obj:=fun i h st b hb=>by
  have e:b=it:=by simpa using hb
  subst e
  exact ⟨_,st,fun v z=>by
   have z':Data.fields _=Data.cell v:=z
   cases z'⟩
 keep:=fun i h h' st k=>k it (by simp) _ st
 item:=by
  intro X hP hw hK hc i pins s σ H E I hf st hg
  subst hP hw hK
  obtain ⟨f0,f1,f2,f3,f4,f5⟩:=hf it (by simp)
  have W:=Walks.range (prog:=X.prog) (w:=X.w) (I.ok.hd hc) it lo 1 n
  refine W.item i s _ _ hg st fun v h' tk hv st' kk=>?_
  obtain ⟨t,rfl⟩:=hv
  have I1:Inv X pins σ H { s with heap:=h',toks:=tk }:=I.turned (fun b o hb e=>kk b o (by simpa using hb) e) f0 f1 f3 f4 f5
  refine ⟨_,rfl,go_of (s:={ s with heap:=h',toks:=tk }) (n := "range_iterator") st' rfl rfl (by decide) ⟨.int (lo+i),H,I1,⟨t,?_⟩,⟨rfl,rfl⟩,st',fun b hb=>(hf b hb).1⟩⟩
  rw [Int.mul_one]
 done:=by
  intro X hP hw hK hc i pins s σ H E I hf st hg
  subst hP hw hK
  obtain ⟨f0,f1,f2,f3,f4,f5⟩:=hf it (by simp)
  exact wpAny_pyNext_range_end (I.ok.hd hc) st (by have:n<=i:=hg; lia) fun h' eb=>⟨rfl,I.turned (t':=s.toks) (fun b o hb e=>eb b o hb e) f0 f1 f3 f4 f5⟩
 self:=fun _ _ _ _ _ st h=>wpAny_pyIter_rangeiter st h
section
variable {X:Cx} {tg:Expr}
def iList (K:PySem.W.Frag) (tl:TE):TI:=fun σ H R=>tl σ H fun x H1=>∃ a,x=.ref a/\(∃ xs,SqL K H1 a xs)/\R (Itl K a) H1
theorem pi_list {l:Expr} {tl:TE} (hl:PE X l tl):PI X tg l (iList X.K tl):=by
 intro pins s σ H R I h
 refine thn (hl pins s σ H _ I h) fun v s1 hx5=>L2.ex2 hx5 fun x H1 I1 r1 q1=>?_
 obtain ⟨a,e,⟨xs,hq⟩,q⟩:=q1
 subst e
 cases r1
 obtain ⟨its,rv,p,hz⟩:=I1.list hq
 refine wpAny_pyIter_list p.isList ?_
 refine ⟨s1.heap.objs.size,[s1.heap.objs.size],_,_,H1,rfl,I1.kept (t':=s1.toks) fun b o e=>xal _ e,turn_list a _,⟨_,xaC _ rfl,rfl,rfl⟩,fun b hb=>?_,q⟩
 have e:b=s1.heap.objs.size:=by simpa using hb
 subst e
 exact I1.fpOk (xag _) (I1.hok.fresh (xag _))
theorem range_it {pins:List (Addr × Obj)} {σ:St} {H:Hp} {s:Shared} {R:It->Hp->Prop} {E:Value->Shared->Prop} {lo hi:Int} {t u v:Tok} {tk:Nat} (I:Inv X pins σ H s) (h1:-(2 ^ 62)<=lo) (h2:lo<2 ^ 62) (h3:-(2 ^ 62)<=hi) (h4:hi<2 ^ 62)
  (q:R (Itr lo (hi - lo).toNat) H):wpAny (model X.prog X.w) X.A (pyIter (.ref s.heap.objs.size)) (PIE X pins σ tg R) E { s with heap:=s.heap.push { cls:=.type "range",data:=.fields #[.int lo t,.int hi u,.int 1 v] },toks:=tk }:=by
 refine wpAny_pyIter_range (IsRange.new ..) (small_one h1 h2 h3 h4) ?_
 have I1:Inv X pins σ H { s with heap:=s.heap.push { cls:=.type "range",data:=.fields #[.int lo t,.int hi u,.int 1 v] },toks:=tk }:=I.kept fun b o e=>xal _ e
 refine ⟨(s.heap.push { cls:=.type "range",data:=.fields #[.int lo t,.int hi u,.int 1 v] }).objs.size,[(s.heap.push { cls:=.type "range",data:=.fields #[.int lo t,.int hi u,.int 1 v] }).objs.size],_,_,H,rfl,
  I1.kept (t':=tk) fun b o e=>xal _ e,turn_range _ lo (hi - lo).toNat,?_,fun b hb=>?_,q⟩
 ·have e1:lo+((0:Nat):Int) * 1=lo:=by simp
  have e2:(((hi - lo).toNat:Nat):Int) - ((0:Nat):Int)=Builtin.Range.rangeSize lo hi 1:=by rw [rangeSize_one]; split <;> lia
  show IsRangeIter _ _ (lo+((0:Nat):Int) * 1) ((((hi - lo).toNat:Nat):Int) - ((0:Nat):Int)) 1
  rw [e1,e2]
  exact xaC _ rfl
 ·have e:b=(s.heap.push { cls:=.type "range",data:=.fields #[.int lo t,.int hi u,.int 1 v] }).objs.size:=by simpa using hb
  subst e
  exact I1.fpOk (xag _) (I1.hok.fresh (xag _))
def iRng1 (ta:TA):TI:=fun σ H R=>ta σ H fun vs H1=>∃ j:Int,vs=[.int j]/\-(2 ^ 62)<=j/\j<2 ^ 62/\R (Itr 0 j.toNat) H1
theorem pi_range1 {a:Expr} {ta:TA} {p pos:Pos} (hg:Gl X "range") (hm:X.mg "range" = none) (ha:PA X [a] ta) (hs:starEach [a] X.env=[(false,eval a X.env)]:=by rfl):PI X tg (.Call (.Name "range" p) [a] [] pos) (iRng1 ta):=by
 intro pins s σ H R I h
 refine Call_ (ld_blt I hg hm boot_range (PyProof.Rows.callWith_type1 (thn (ha pos pins s σ H _ I h) fun us s1 hx5=>L2.ex2 hx5 fun vs H1 I1 r1 q1=>?_) hs rfl))
 obtain ⟨j,e,q1,q2,q⟩:=q1
 subst e
 cases r1 with
 | cons r rr =>
  cases rr
  obtain ⟨t,rfl⟩:=r
  exact call_range_1 (range_it I1 (by decide) (by decide) q1 q2 (by simpa using q))
def tFor (wi:TI) (g:TG) (tb:TS):TS:=fun D σ H=>wi σ H fun J H1=>∃ W:Nat->Nat->St->Hp->Prop,(∃ m,W 0 m σ H1)/\∀ i m σ H,W i m σ H ->
 (J.stop i H/\D.nx σ H)\/(J.go i H/\∃ N:St->Hp->Prop,(∀ σ' H',N σ' H'->∃ m',m'<m/\W (i+1) m' σ' H')/\∀ x H',J.yld i H x H'->g x σ H' fun σ2 H2=>tb { D with nx:=N,ct:=N,bk:=D.nx } σ2 H2)
def pinsAt (fp:List Addr) (h:Heap):List (Addr × Obj):=fp.filterMap fun b=>(h.get? b).map fun o=>(b,o)
theorem mem_pinsAt {fp:List Addr} {h:Heap} {b:Addr} {o:Obj} (hb:b∈fp) (e:h.get? b=some o):(b,o)∈pinsAt fp h:=List.mem_filterMap.mpr ⟨b,hb,by rw [e]; rfl⟩
theorem of_pinsAt {fp:List Addr} {h:Heap} {p:Addr × Obj} (hp:p∈pinsAt fp h):p.1∈fp/\h.get? p.1=some p.2:=by
 obtain ⟨b,hb,e⟩:=List.mem_filterMap.mp hp
 cases q:h.get? b with
 | none=>rw [q] at e; cases e
 | some o =>
  rw [q] at e
  have e':(b,o)=p:=Option.some.inj e
  subst e'
  exact ⟨hb,q⟩
theorem Inv.pinned {pins:List (Addr × Obj)} {σ:St} {H:Hp} {s:Shared} {fp:List Addr} (I:Inv X pins σ H s) (hf:∀ b∈fp,FpOk X pins H b) (ho:∀ b∈fp,∃ o,s.heap.get? b=some o/\∀ v,o.data≠.cell v):Inv X (pins++pinsAt fp s.heap) σ H s :=
 I.pins_of fun p hp=>(xah.mp hp).elim (fun z=>I.pin p (xae _ z)) fun z=>by
  obtain ⟨hb,e⟩:=of_pinsAt z
  obtain ⟨f0,f1,f2,_⟩:=hf p.1 hb
  obtain ⟨o,e',d⟩:=ho p.1 hb
  rw [e] at e'; cases e'
  exact ⟨e,f0,f1,f2,d⟩
theorem Inv.unpinned {pins pl:List (Addr × Obj)} {σ:St} {H:Hp} {s:Shared} (I:Inv X (pins++pl) σ H s):Inv X pins σ H s:=I.pins_of fun p hp=>I.pin p (xae _ (xai _ hp))
theorem ps_for {iter:Expr} {body:List Stmt} {wi:TI} {g:TG} {tb:TS} {pos:Pos} (hp:PassesOwn (model X.prog X.w) X.A X.env X.xe) (hc:X.calm=true) (hi:PI X tg iter wi) (hg:PG X tg g) (hb:PSs X body tb)
  (hs:∀ x,foldedSetIterable iter X.env x=pure x:=by intro _; rfl):PS X (.For tg iter body [] pos) (tFor wi g tb):=by
 intro pins s σ H D I h
 refine wpAny_For (thn (hi pins s σ H _ I h) fun v s1 h1=>thn h1 fun itv s2 h2=>?_) hs
 obtain ⟨it,fp,tn,J,H2,e,I2,T,st2,f2,W,⟨m0,w0⟩,turn⟩:=h2
 subst e
 -- what stays true of the iterator's objects through the loop
 have stat:∀ {H':Hp},(∀ b∈fp,H' b=none)->∀ b∈fp,FpOk X pins H' b:=fun hn b hb=>⟨hn b hb,(f2 b hb).2⟩
 refine codeAny_forLoop_any (fun n s'=>∃ i σ' H',Inv X pins σ' H' s'/\tn i s'.heap/\(∀ b∈fp,H' b=none)/\W i n σ' H') ?_ m0 ⟨0,σ,H2,I2,st2,fun b hb=>(f2 b hb).1,w0⟩
 rintro n s3 ⟨i,σ3,H3,I3,st3,fr3,w3⟩
 rcases turn i n σ3 H3 w3 with ⟨stop,qn⟩ | ⟨go,N,hN,step⟩
 ·refine wpAny_passesOwn hp (thn (T.done X rfl rfl rfl hc i pins s3 σ3 H3 X.xe I3 (stat fr3) st3 stop) fun r s4 hx9=>?_)
  obtain ⟨hr,I4⟩:=hx9
  subst hr
  exact wpAny_execs_nil ⟨σ3,H3,I4,qn⟩
 ·refine wpAny_passesOwn hp (thn (T.item X rfl rfl rfl hc i pins s3 σ3 H3 X.xe I3 (stat fr3) st3 go) fun r s4 hx9=>?_)
  obtain ⟨u,hr,h4⟩:=hx9
  subst hr
  refine wpAny_passesOwn hp (thn h4 fun _ s5 hx9=>?_)
  obtain ⟨x,H5,I5,r5,y5,st5,fr5⟩:=hx9
  have I5':=I5.pinned (stat fr5) (T.obj _ _ st5)
  refine wpAny_passesOwn hp (thn (hg _ s5 σ3 H5 x u _ I5' r5 (step x H5 y5)) fun _ s6 hx9=>?_)
  obtain ⟨σ6,H6,I6,q6⟩:=hx9
  refine wpAny_passesOwn hp (thn (hb _ s6 σ6 H6 _ I6 q6) fun f s7 q7=>?_)
  have again:∀ {σ7:St} {H7:Hp},Inv X (pins++pinsAt fp s5.heap) σ7 H7 s7->N σ7 H7->∃ m,m<n/\∃ i σ' H',Inv X pins σ' H' s7/\tn i s7.heap/\(∀ b∈fp,H' b=none)/\W i m σ' H':=fun {σ7 H7} I7 n7=>by
   obtain ⟨m',hm,w7⟩:=hN σ7 H7 n7
   refine ⟨m',hm,i+1,σ7,H7,I7.unpinned,T.keep _ _ _ st5 fun b hb o e=>(I7.pin (b,o) (xae _ (xae _ (mem_pinsAt hb e)))).1,fun b hb=>?_,w7⟩
   obtain ⟨o,e,d⟩:=T.obj _ _ st5 b hb
   exact (I7.pin (b,o) (xae _ (xae _ (mem_pinsAt hb e)))).2.1
  cases f with
  | next=>obtain ⟨σ7,H7,I7,n7⟩:=q7; exact again I7 n7
  | cont=>obtain ⟨σ7,H7,I7,n7⟩:=q7; exact again I7 n7
  | brk=>obtain ⟨σ7,H7,I7,q7⟩:=q7; exact ⟨σ7,H7,I7.unpinned,q7⟩
  | ret v=>obtain ⟨x7,σ7,H7,I7,r7,q7⟩:=q7; exact ⟨x7,σ7,H7,I7.unpinned,r7,q7⟩
end
abbrev R2:=V->V->Hp->VK->Prop
def OpR (X:Cx) (f:Value->Value->Sem Value) (r:R2):Prop :=
 ∀ (pins:List (Addr × Obj)) (s:Shared) (σ:St) (H:Hp) (x y:V) (v u:Value) (Q:VK),Inv X pins σ H s->RelV x v->RelV y u->r x y H Q ->
  wpAny (model X.prog X.w) X.A (f v u) (EP X pins σ Q) X.xe s
def UnR (X:Cx) (f:Value->Sem Value) (r:V->Hp->VK->Prop):Prop :=
 ∀ (pins:List (Addr × Obj)) (s:Shared) (σ:St) (H:Hp) (x:V) (v:Value) (Q:VK),Inv X pins σ H s->RelV x v->r x H Q ->
  wpAny (model X.prog X.w) X.A (f v) (EP X pins σ Q) X.xe s
def CallR (X:Cx) (f:Value) (r:List V->Hp->VK->Prop):Prop :=
 ∀ (pins:List (Addr × Obj)) (s:Shared) (σ:St) (H:Hp) (xs:List V) (us:List Value) (Q:VK),Inv X pins σ H s->Vals xs us->r xs H Q ->
  wpAny (model X.prog X.w) X.A (call f us) (EP X pins σ Q) X.xe s
def tOp (r:R2) (ta tb:TE):TE:=fun σ H Q=>ta σ H fun x H1=>tb σ H1 fun y H2=>r x y H2 Q
def tUn (r:V->Hp->VK->Prop) (ta:TE):TE:=fun σ H Q=>ta σ H fun x H1=>r x H1 Q
def rI (C:Int->Int->Prop) (g:Int->Int->V):R2:=fun x y H Q=>∃ i j,x=.int i/\y=.int j/\C i j/\Q (g i j) H
def rI0 (g:Int->Int->V):R2:=fun x y H Q=>∃ i j,x=.int i/\y=.int j/\Q (g i j) H
def rU (g:Int->V):V->Hp->VK->Prop:=fun x H Q=>∃ i,x=.int i/\Q (g i) H
section
variable {X:Cx} {a b:Expr} {ta tb:TE} {pos:Pos}
theorem binT (ha:PE X a ta) (hb:PE X b tb) {pins:List (Addr × Obj)} {s:Shared} {σ:St} {H:Hp} {R:V->V->Hp->Prop} (I:Inv X pins σ H s)
  (h:ta σ H fun x H1=>tb σ H1 fun y H2=>R x y H2) {Q:Value->Shared->Prop} {f:Value->Value->Sem Value}
  (hf:∀ v u s2 x y H2,Inv X pins σ H2 s2->RelV x v->RelV y u->R x y H2->wpAny (model X.prog X.w) X.A (f v u) Q X.xe s2) :
  wpAny (model X.prog X.w) X.A (eval a X.env) (fun v s₁=>wpAny (model X.prog X.w) X.A (eval b X.env) (fun u s₂=>wpAny (model X.prog X.w) X.A (f v u) Q X.xe s₂) X.xe s₁) X.xe s:=by
 refine thn (ha pins s σ H _ I h) fun v s1 hx5=>L2.ex2 hx5 fun x H1 I1 r1 q1=>?_
 refine thn (hb pins s1 σ H1 _ I1 q1) fun u s2 hx5=>L2.ex2 hx5 fun y H2 I2 r2 q2=>?_
 exact hf v u s2 x y H2 I2 r1 r2 q2
theorem pe_op {op:Operator} {r:R2} (ho:OpR X (binaryOp op) r) (ha:PE X a ta) (hb:PE X b tb):PE X (.BinOp a op b pos) (tOp r ta tb):=by
 intro pins s σ H Q I h
 exact wpAny_BinOp (binT ha hb I h fun v u s2 x y H2 I2 rx ry q=>ho pins s2 σ H2 x y v u Q I2 rx ry q)
theorem pe_un {op:UnaryOp} {r:V->Hp->VK->Prop} (ho:UnR X (unaryOp op) r) (ha:PE X a ta):PE X (.UnaryOp op a pos) (tUn r ta):=by
 intro pins s σ H Q I h
 exact UnaryOp_ (thn (ha pins s σ H _ I h) fun v s1 hx5=>L2.ex2 hx5 fun x H1 I1 r1 q1=>ho pins s1 σ H1 x v Q I1 r1 q1)
theorem opI {f:Value->Value->Sem Value} {C:Int->Int->Prop} {g:Int->Int->Int}
  (rule:∀ (i j:Int) (t u:Tok) (s:Shared) (Q:Value->Shared->Prop) (E:Value->Shared->Prop),C i j->Q (.int (g i j) s.toks) { s with toks:=s.toks+1 }->wpAny (model X.prog X.w) X.A (f (.int i t) (.int j u)) Q E s) :
  OpR X f (rI C fun i j=>.int (g i j)):=by
 intro pins s σ H x y v u Q I rx ry h
 obtain ⟨i,j,rfl,rfl,hc,q⟩:=h
 obtain ⟨t,rfl⟩:=rx
 obtain ⟨t',rfl⟩:=ry
 exact rule i j t t' s _ _ hc ⟨.int (g i j),H,I.tok _,⟨_,rfl⟩,q⟩
theorem opI0 {f:Value->Value->Sem Value} {g:Int->Int->Int}
  (rule:∀ (i j:Int) (t u:Tok) (s:Shared) (Q:Value->Shared->Prop) (E:Value->Shared->Prop),Q (.int (g i j) s.toks) { s with toks:=s.toks+1 }->wpAny (model X.prog X.w) X.A (f (.int i t) (.int j u)) Q E s) :
  OpR X f (rI0 fun i j=>.int (g i j)):=by
 intro pins s σ H x y v u Q I rx ry h
 obtain ⟨i,j,rfl,rfl,q⟩:=h
 obtain ⟨t,rfl⟩:=rx
 obtain ⟨t',rfl⟩:=ry
 exact rule i j t t' s _ _ ⟨.int (g i j),H,I.tok _,⟨_,rfl⟩,q⟩
theorem opB0 {f:Value->Value->Sem Value} {g:Int->Int->Bool}
  (rule:∀ (i j:Int) (t u:Tok) (s:Shared) (Q:Value->Shared->Prop) (E:Value->Shared->Prop),Q (.bool (g i j)) s->wpAny (model X.prog X.w) X.A (f (.int i t) (.int j u)) Q E s) :
  OpR X f (rI0 fun i j=>.bl (g i j)):=by
 intro pins s σ H x y v u Q I rx ry h
 obtain ⟨i,j,rfl,rfl,q⟩:=h
 obtain ⟨t,rfl⟩:=rx
 obtain ⟨t',rfl⟩:=ry
 exact rule i j t t' s _ _ ⟨.bl (g i j),H,I,rfl,q⟩
def CDiv (i j:Int):Prop:=0<j/\j<1073741824
def CPow (i j:Int):Prop:=0<=j/\j<=1000000/\i.natAbs<2 ^ 64
def CMul (i j:Int):Prop:=(-(2 ^ 64)<i/\i<2 ^ 64)\/(-(2 ^ 64)<j/\j<2 ^ 64)
theorem CMul.ok {i j:Int} (h:CMul i j):IntMulOk i j:=by
 rcases h with ⟨h1,h2⟩ | ⟨h1,h2⟩
 ·exact .of_left (intBits_le_64 h1 h2)
 ·exact .of_right (intBits_le_64 h1 h2)
theorem op_add:OpR X (binaryOp .Add) (rI0 fun i j=>.int (i+j)):=opI0 fun _ _ _ _ _ _ _ q=>add_int q
theorem op_sub:OpR X (binaryOp .Sub) (rI0 fun i j=>.int (i - j)):=opI0 fun _ _ _ _ _ _ _ q=>sub_int q
theorem op_mul:OpR X (binaryOp .Mult) (rI CMul fun i j=>.int (i * j)):=opI fun _ _ _ _ _ _ _ hc q=>mul_int q hc.ok
theorem op_fdiv:OpR X (binaryOp .FloorDiv) (rI CDiv fun i j=>.int (i / j)):=opI fun i j _ _ _ _ _ hc q=>by
 have h1:(0:Int)<j:=hc.1
 have h2:j<1073741824:=hc.2
 exact floordiv_int (by lia) (by rw [Int.fdiv_eq_ediv_of_nonneg i (by exact xbf ‹_›)]; exact q) (.inl (PyProof.noPylong_small (by lia)))
theorem op_mod:OpR X (binaryOp .Mod) (rI (fun _ j=>0<j) fun i j=>.int (i % j)):=opI fun i j _ _ _ _ _ hc q=>by
 have h1:(0:Int)<j:=hc
 exact mod_int' (by lia) (by rw [Int.fmod_eq_emod_of_nonneg i (by exact xbf ‹_›)]; exact q)
theorem op_pow:OpR X (binaryOp .Pow) (rI CPow fun i j=>.int (i ^ j.toNat)):=opI fun _ _ _ _ _ _ _ hc q=>pow_int_small hc.1 hc.2.1 hc.2.2 q
theorem unI {f:Value->Sem Value} {g:Int->Int}
  (rule:∀ (i:Int) (t:Tok) (s:Shared) (Q:Value->Shared->Prop) (E:Value->Shared->Prop),Q (.int (g i) s.toks) { s with toks:=s.toks+1 }->wpAny (model X.prog X.w) X.A (f (.int i t)) Q E s) :
  UnR X f (rU fun i=>.int (g i)):=by
 intro pins s σ H x v Q I rx h
 obtain ⟨i,rfl,q⟩:=h
 obtain ⟨t,rfl⟩:=rx
 exact rule i t s _ _ ⟨.int (g i),H,I.tok _,⟨_,rfl⟩,q⟩
theorem un_neg:UnR X (unaryOp .USub) (rU fun i=>.int (-i)):=unI fun _ _ _ _ _ q=>neg_int q
end
def scal:V->V->Bool
 | .non,.non=>true | .non,.int _=>true | .int _,.non=>true | .non,.bl _=>true | .bl _,.non=>true | .non,.str _=>true | .str _,.non=>true
 | .int _,.int _=>true | .bl _,.bl _=>true | .str _,.str _=>true | .byt _,.byt _=>true
 | .int _,.str _=>true | .str _,.int _=>true | .bl _,.str _=>true | .str _,.bl _=>true
 | _,_=>false
def rEq:R2:=fun x y H Q=>scal x y=true/\Q (.bl (decide (x=y))) H
def rNe:R2:=fun x y H Q=>scal x y=true/\Q (.bl (!decide (x=y))) H
theorem dec_int {i j:Int}:decide (V.int i=V.int j)=(i == j):=by
 rw [xa7]
 simp
theorem dec_bl {i j:Bool}:decide (V.bl i=V.bl j)=(i == j):=by
 rw [xa7]
 simp
theorem dec_str {i j:Str}:decide (V.str i=V.str j)=(i == j):=by
 rw [xa7]
 simp
theorem dec_byt {i j:Array UInt8}:decide (V.byt i=V.byt j)=(i.toList == j.toList):=by
 rw [xa7]
 cases i
 cases j
 simp
section
variable {X:Cx} {a b c:Expr} {ta tb tc:TE} {pos:Pos}
theorem fin_bl {pins:List (Addr × Obj)} {σ:St} {H:Hp} {s:Shared} {Q:VK} {k k':Bool} (I:Inv X pins σ H s) (q:Q (.bl k) H) (e:k=k'):EP X pins σ Q (.bool k') s:=by
 subst e
 exact ⟨.bl k,H,I,rfl,q⟩
theorem op_eq:OpR X (compareOp .Eq) rEq:=by
 intro pins s σ H x y v u Q I rx ry h
 obtain ⟨hs,q⟩:=h
 cases x with
 | non =>
  cases rx
  cases y with
  | non=>cases ry; exact PySem.EqNone.eq_none_none (fin_bl I q (by simp))
  | bl j=>cases ry; exact PySem.EqNone.eq_none_bool (fin_bl I q (by simp))
  | int j=>obtain ⟨t',rfl⟩:=ry; exact PySem.EqNone.eq_none_int (fin_bl I q (by simp))
  | str j=>obtain ⟨t',rfl⟩:=ry; exact PySem.EqNone.eq_none_str (fin_bl I q (by simp))
  | _=>exact absurd (show false=true from hs) xat
 | bl i =>
  cases rx
  cases y with
  | non=>cases ry; exact PySem.EqNone.eq_bool_none (fin_bl I q (by simp))
  | bl j=>cases ry; exact eq_bool (fin_bl I q dec_bl)
  | str j=>obtain ⟨t',rfl⟩:=ry; exact PySem.EqMixed.eq_bool_str (fin_bl I q (by simp))
  | _=>exact absurd (show false=true from hs) xat
 | int i =>
  obtain ⟨t,rfl⟩:=rx
  cases y with
  | non=>cases ry; exact PySem.EqNone.eq_int_none (fin_bl I q (by simp))
  | int j=>obtain ⟨t',rfl⟩:=ry; exact eq_int (fin_bl I q dec_int)
  | str j=>obtain ⟨t',rfl⟩:=ry; exact PySem.EqMixed.eq_int_str (fin_bl I q (by simp))
  | _=>exact absurd (show false=true from hs) xat
 | str i =>
  obtain ⟨t,rfl⟩:=rx
  cases y with
  | non=>cases ry; exact PySem.EqNone.eq_str_none (fin_bl I q (by simp))
  | bl j=>cases ry; exact PySem.EqMixed.eq_str_bool (fin_bl I q (by simp))
  | int j=>obtain ⟨t',rfl⟩:=ry; exact PySem.EqMixed.eq_str_int (fin_bl I q (by simp))
  | str j=>obtain ⟨t',rfl⟩:=ry; exact eq_str (fin_bl I q dec_str)
  | _=>exact absurd (show false=true from hs) xat
 | byt i =>
  obtain ⟨t,rfl⟩:=rx
  cases y with
  | byt j=>obtain ⟨t',rfl⟩:=ry; exact PySem.W.eq_bytes (fin_bl I q dec_byt)
  | _=>exact absurd (show false=true from hs) xat
 | _=>cases y <;> exact absurd (show false=true from hs) xat
theorem op_ne:OpR X (compareOp .NotEq) rNe:=by
 intro pins s σ H x y v u Q I rx ry h
 obtain ⟨hs,q⟩:=h
 cases x with
 | non =>
  cases rx
  cases y with
  | non=>cases ry; exact PySem.EqNone.ne_none_none (fin_bl I q (by simp))
  | bl j=>cases ry; exact PySem.EqNone.ne_none_bool (fin_bl I q (by simp))
  | int j=>obtain ⟨t',rfl⟩:=ry; exact PySem.EqNone.ne_none_int (fin_bl I q (by simp))
  | str j=>obtain ⟨t',rfl⟩:=ry; exact PySem.EqNone.ne_none_str (fin_bl I q (by simp))
  | _=>exact absurd (show false=true from hs) xat
 | bl i =>
  cases rx
  cases y with
  | non=>cases ry; exact PySem.EqNone.ne_bool_none (fin_bl I q (by simp))
  | bl j=>cases ry; exact ne_bool (fin_bl I q (congrArg not dec_bl))
  | str j=>obtain ⟨t',rfl⟩:=ry; exact PySem.EqMixed.ne_bool_str (fin_bl I q (by simp))
  | _=>exact absurd (show false=true from hs) xat
 | int i =>
  obtain ⟨t,rfl⟩:=rx
  cases y with
  | non=>cases ry; exact PySem.EqNone.ne_int_none (fin_bl I q (by simp))
  | int j=>obtain ⟨t',rfl⟩:=ry; exact ne_int (fin_bl I q (congrArg not dec_int))
  | str j=>obtain ⟨t',rfl⟩:=ry; exact PySem.EqMixed.ne_int_str (fin_bl I q (by simp))
  | _=>exact absurd (show false=true from hs) xat
 | str i =>
  obtain ⟨t,rfl⟩:=rx
  cases y with
  | non=>cases ry; exact PySem.EqNone.ne_str_none (fin_bl I q (by simp))
  | bl j=>cases ry; exact PySem.EqMixed.ne_str_bool (fin_bl I q (by simp))
  | int j=>obtain ⟨t',rfl⟩:=ry; exact PySem.EqMixed.ne_str_int (fin_bl I q (by simp))
  | str j=>obtain ⟨t',rfl⟩:=ry; exact ne_str (fin_bl I q (congrArg not dec_str))
  | _=>exact absurd (show false=true from hs) xat
 | byt i =>
  obtain ⟨t,rfl⟩:=rx
  cases y with
  | byt j=>obtain ⟨t',rfl⟩:=ry; exact PySem.W.ne_bytes (fin_bl I q (congrArg not dec_byt))
  | _=>exact absurd (show false=true from hs) xat
 | _=>cases y <;> exact absurd (show false=true from hs) xat
theorem op_lt:OpR X (compareOp .Lt) (rI0 fun i j=>.bl (decide (i<j))):=opB0 fun _ _ _ _ _ _ _ q=>lt_int q
theorem op_le:OpR X (compareOp .LtE) (rI0 fun i j=>.bl (decide (i<=j))):=opB0 fun _ _ _ _ _ _ _ q=>le_int q
theorem op_gt:OpR X (compareOp .Gt) (rI0 fun i j=>.bl (decide (j<i))):=opB0 fun _ _ _ _ _ _ _ q=>gt_int q
theorem op_lt_str:OpR X (compareOp .Lt) (fun x y H Q=>∃ i j,x=.str i/\y=.str j/\Q (.bl (decide (i.cps.toList<j.cps.toList))) H):=by
 intro pins s σ H x y v u Q I rx ry h
 obtain ⟨i,j,rfl,rfl,q⟩:=h
 obtain ⟨t,rfl⟩:=rx
 obtain ⟨t',rfl⟩:=ry
 exact lt_str (fin_bl I q rfl)
theorem op_in_str:OpR X (compareOp .In) (fun x y H Q=>∃ i j,x=.str i/\y=.str j/\Q (.bl (!(Builtin.Str.occurrences j i 0 j.length 1).isEmpty)) H):=by
 intro pins s σ H x y v u Q I rx ry h
 obtain ⟨i,j,rfl,rfl,q⟩:=h
 obtain ⟨t,rfl⟩:=rx
 obtain ⟨t',rfl⟩:=ry
 exact in_str (fin_bl I q rfl)
theorem op_notin_str:OpR X (compareOp .NotIn) (fun x y H Q=>∃ i j,x=.str i/\y=.str j/\Q (.bl (!(!(Builtin.Str.occurrences j i 0 j.length 1).isEmpty))) H):=by
 intro pins s σ H x y v u Q I rx ry h
 obtain ⟨i,j,rfl,rfl,q⟩:=h
 obtain ⟨t,rfl⟩:=rx
 obtain ⟨t',rfl⟩:=ry
 exact notIn_str (fin_bl I q rfl)
theorem OpR.or {f:Value->Value->Sem Value} {r r':R2} (h:OpR X f r) (h':OpR X f r'):OpR X f (fun x y H Q=>r x y H Q\/r' x y H Q):=by
 intro pins s σ H x y v u Q I rx ry q
 rcases q with q | q
 ·exact h pins s σ H x y v u Q I rx ry q
 ·exact h' pins s σ H x y v u Q I rx ry q
theorem nomark (b:Expr) {op:CmpOp} (h:op≠.In:=by decide) (h2:op≠.NotIn:=by decide):behindInMarks op b=false:=by
 have e1:(op == CmpOp.In)=false:=by cases op <;> first | rfl | exact absurd rfl h
 have e2:(op == CmpOp.NotIn)=false:=by cases op <;> first | rfl | exact absurd rfl h2
 cases b <;> simp [behindInMarks,e1,e2]
theorem pe_cmpR {op:CmpOp} {r:R2} (ho:OpR X (compareOp op) r) (ha:PE X a ta) (hb:PE X b tb) (hm:behindInMarks op b=false):PE X (.Compare a [op] [b] pos) (tOp r ta tb):=by
 intro pins s σ H Q I h
 exact wpAny_Compare1 (binT ha hb I h fun v u s2 x y H2 I2 rx ry q=>ho pins s2 σ H2 x y v u Q I2 rx ry q) hm
def tTest (t:TE):TT:=fun σ H Q=>t σ H fun x H'=>∃ k,x=.bl k/\Q k H'
theorem pt_cmpR {op:CmpOp} {r:R2} (ho:OpR X (compareOp op) r) (ha:PE X a ta) (hb:PE X b tb) (hm:behindInMarks op b=false):PT X (.Compare a [op] [b] pos) (tTest (tOp r ta tb)):=by
 intro pins s σ H Q I h
 refine wpAny_isTrue_Compare1 (thn (ha pins s σ H _ I h) fun v s1 hx5=>L2.ex2 hx5 fun x H1 I1 r1 q1=>thn (hb pins s1 σ H1 _ I1 q1) fun u s2 hx5=>L2.ex2 hx5 fun y H2 I2 r2 q2 =>
  thn (ho pins s2 σ H2 x y v u _ I2 r1 r2 q2) fun c s3 ⟨z,H3,I3,r3,k,e,q3⟩=>?_) hm
 subst e
 cases r3
 exact wpAny_truthy_bool ⟨H3,I3,q3⟩
def tChain (r r':R2) (ta tb tc:TE):TE:=fun σ H Q=>ta σ H fun x H1=>tb σ H1 fun y H2=>r x y H2 fun z H3=>∃ k,z=.bl k /\
 (if k=true then tc σ H3 fun w' H4=>r' y w' H4 Q else Q (.bl false) H3)
theorem pt_chain {op op':CmpOp} {r r':R2} (ho:OpR X (compareOp op) r) (ho':OpR X (compareOp op') r') (ha:PE X a ta) (hb:PE X b tb) (hc:PE X c tc)
  (hm:lastMarks [op,op'] [b,c]=false:=by with_unfolding_all rfl):PT X (.Compare a [op,op'] [b,c] pos) (tTest (tChain r r' ta tb tc)):=by
 intro pins s σ H Q I h
 refine isTrue_chain (thn (ha pins s σ H _ I h) fun v s1 hx5=>L2.ex2 hx5 fun x H1 I1 r1 q1=>test_link (thn (hb pins s1 σ H1 _ I1 q1) fun u s2 hx5=>L2.ex2 hx5 fun y H2 I2 r2 q2 =>
  thn (ho pins s2 σ H2 x y v u _ I2 r1 r2 q2) fun d s3 ⟨z,H3,I3,r3,k,e,q3⟩=>?_)) hm
 subst e
 cases r3
 refine wpAny_truthy_bool ?_
 cases k with
 | false =>
  obtain ⟨k',e',q'⟩:=q3
  cases e'
  exact ite_ff ⟨H3,I3,q'⟩
 | true =>
  refine ite_tt (test_last (thn (hc pins s3 σ H3 _ I3 q3) fun w' s4 ⟨z',H4,I4,r4,q4⟩=>thn (ho' pins s4 σ H4 y z' u w' _ I4 r2 r4 q4) fun d' s5 hx9=>?_))
  obtain ⟨z2,H5,I5,r5,k2,e2,q5⟩:=hx9
  subst e2
  cases r5
  exact wpAny_truthy_bool ⟨H5,I5,q5⟩
theorem line63:(sizeLine:Nat)<2 ^ 63:=by rw [sizeLine_eq]; decide
theorem op_add_str:OpR X (binaryOp .Add) (fun x y H Q=>∃ i j,x=.str i/\y=.str j/\i.length+j.length<=sizeLine/\Q (.str (i++j)) H):=by
 intro pins s σ H x y v u Q I rx ry h
 obtain ⟨i,j,rfl,rfl,hz,q⟩:=h
 obtain ⟨t,rfl⟩:=rx
 obtain ⟨t',rfl⟩:=ry
 exact add_str (fun t' tk=>⟨.str (i++j),H,I.tok _,⟨_,rfl⟩,q⟩) hz
theorem vals1 {x:V} {us:List Value} (r:Vals [x] us):∃ u,us=[u]/\RelV x u:=by
 cases r with
 | cons r1 r2=>cases r2; exact ⟨_,rfl,r1⟩
theorem vals2 {x y:V} {us:List Value} (r:Vals [x,y] us):∃ u w',us=[u,w']/\RelV x u/\RelV y w':=by
 cases r with
 | cons r1 r2 =>
  cases r2 with
  | cons r3 r4=>cases r4; exact ⟨_,_,rfl,r1,r3⟩
theorem call_min2 (hc:X.calm=true):CallR X (.builtin "min") (fun xs H Q=>∃ i j,xs=[.int i,.int j]/\Q (.int (if j<i then j else i)) H):=by
 intro pins s σ H xs us Q I r h
 obtain ⟨i,j,rfl,q⟩:=h
 obtain ⟨u,w',rfl,⟨t,rfl⟩,⟨t',rfl⟩⟩:=vals2 r
 refine min_two_ints (I.ok.hd hc) fun h' tk k=>⟨_,H,I.kept k,?_,q⟩
 by_cases hj:j<i
 ·rw [if_pos hj,if_pos hj]; exact ⟨_,rfl⟩
 ·rw [if_neg hj,if_neg hj]; exact ⟨_,rfl⟩
theorem call_int1:CallR X (.type "int") (fun xs H Q=>(∃ i,xs=[.int i]/\Q (.int i) H)\/∃ k,xs=[.bl k]/\Q (.int (if k then 1 else 0)) H):=by
 intro pins s σ H xs us Q I r h
 rcases h with ⟨i,rfl,q⟩ | ⟨k,rfl,q⟩
 ·obtain ⟨u,rfl,t,rfl⟩:=vals1 r
  exact call_int_int ⟨.int i,H,I,⟨_,rfl⟩,q⟩
 ·obtain ⟨u,rfl,r1⟩:=vals1 r
  cases r1
  exact call_int_bool ⟨.int (if k then 1 else 0),H,I.tok _,⟨_,rfl⟩,q⟩
def LenV (K:PySem.W.Frag) (x:V) (H:Hp) (n:Nat):Prop :=
 match x with
 | .str y=>y.length<=sizeLine/\n=y.length
 | .byt y=>y.size<=sizeLine/\n=y.size
 | .ref p=>(∃ xs,SqL K H p xs/\n=xs.length)\/∃ xs,SqT K H p xs/\n=xs.length
 | _=>False
theorem call_len:CallR X (.builtin "len") (fun xs H Q=>∃ x n,xs=[x]/\LenV X.K x H n/\Q (.int n) H):=by
 intro pins s σ H xs us Q I r h
 obtain ⟨x,n,rfl,e,q⟩:=h
 obtain ⟨u,rfl,rx⟩:=vals1 r
 have hl:=line63
 have hs:sizeLine=16777216:=sizeLine_eq
 cases x with
 | str y =>
  obtain ⟨t,rfl⟩:=rx
  obtain ⟨hy,e'⟩:y.length<=sizeLine/\n=y.length:=e
  subst e'
  exact len_str (by lia) ⟨.int _,H,I.tok _,⟨_,rfl⟩,q⟩
 | byt y =>
  obtain ⟨t,rfl⟩:=rx
  obtain ⟨hy,e'⟩:y.size<=sizeLine/\n=y.size:=e
  subst e'
  exact PySem.W.len_bytes (by walk_at "s4") ⟨.int _,H,I.tok _,⟨_,rfl⟩,q⟩
 | ref p =>
  cases rx
  have e':(∃ xs,SqL X.K H p xs/\n=xs.length)\/∃ xs,SqT X.K H p xs/\n=xs.length:=e
  rcases e' with ⟨xs,hx,e'⟩ | ⟨xs,hx,e'⟩
  ·subst e'
   obtain ⟨its,r',pl,hz⟩:=I.list hx
   have hlen:=r'.length
   exact Calls.call_len_list pl.isList (by simp only [xau]; lia) ⟨.int xs.length,H,I.tok _,⟨_,by simp only [xau]; rw [hlen]⟩,q⟩
  ·subst e'
   obtain ⟨its,r',pl,hz⟩:=I.tuple hx
   have hlen:=r'.length
   exact len_tuple pl (by simp only [xau]; lia) ⟨.int xs.length,H,I.tok _,⟨_,by simp only [xau]; rw [hlen]⟩,q⟩
 | _=>exact (show False from e).elim
end
structure ObjM (h:Heap) (x dx C:Addr) (mA:Str->Option Value):Prop where
 obj:h.get? x=some (PySem.W.instObj C dx)
 ns:h.Ns1 dx mA
 ne:dx≠x
theorem lookIn_ns {h:Heap} {dx:Addr} {mA:Str->Option Value} (n:h.Ns1 dx mA):∃ od,h.get? dx=some od/\∀ name,PySem.W.lookIn name od=some (mA name):=by
 obtain ⟨o,es,ep,ho,hd,hk,_,hm⟩:=n
 refine ⟨o,ho,fun name=>?_⟩
 have e:=hm name
 unfold nsFind findBy at e
 rw [<- Array.find?_toList] at e
 unfold PySem.W.lookIn
 rw [hd]
 dsimp only
 split
 ·rename_i y q
  rw [q] at e
  exact congrArg some e
 ·rename_i q
  rw [q] at e
  have a:es.toList.any (·.refKey)=false:=by
   rw [List.any_eq_false]
   intro y hy
   obtain ⟨z,t,hkey⟩:=hk y (Array.mem_toList_iff.mp hy)
   simp [DictEntry.refKey,hkey]
  have a':¬ es.toList.any (·.refKey)=true:=by rw [a]; exact xat
  rw [if_neg a']
  exact congrArg some e
theorem ObjM.look {h:Heap} {x dx C:Addr} {mA:Str->Option Value} (I:ObjM h x dx C mA):∃ od,PySem.W.InstAt h x (PySem.W.instObj C dx) C (some od)/\∀ name,PySem.W.lookIn name od=some (mA name) :=
 let ⟨od,ho,hl⟩:=lookIn_ns I.ns
 ⟨od,⟨I.obj,rfl,rfl,ho⟩,hl⟩
theorem RelO.some_of {v:V} {o:Option Value} (r:RelO (some v) o):∃ u,o=some u/\RelV v u:=by
 cases o with
 | none=>exact (show False from r).elim
 | some u=>exact ⟨u,rfl,r⟩
section
variable {P:Program} {w:World} {H:Hp} {h:Heap} {a C dx:Addr} {fs:List (Str × V)}
theorem ins_get (hok:HOk P w H h) (e:H a=some (.ins C dx fs)):∃ mA,ObjM h a dx C mA/\(∀ f,RelO (fs.lookup f) (mA f))/\PySem.Within mA (fs.map (·.1))/\fs.length<=1000/\H dx=some (.own a):=by
 obtain ⟨d,z,ne,ob,mA,n,r,q⟩:=(show ObjOk P w H h a (.ins C dx fs) from hok a _ e)
 exact ⟨mA,⟨ob,n,ne⟩,r,q,z,d⟩
end
structure Cls (K:PySem.W.Frag) (C:Addr):Prop where
 pg:PySem.W.plainGet K C Str.empty=true
 hd:PySem.W.hasDictIn K C=true
 po:PySem.W.plainOver K C=true
 sa:PySem.W.findIn K (.ref C) "__setattr__" = some (some (.builtin "object.__setattr__"))
theorem Cls.get {K:PySem.W.Frag} {C:Addr} (c:Cls K C) (f:Str):PySem.W.plainGet K C f=true:=c.pg
structure Con (K:PySem.W.Frag) (C:Addr) (f:Str) (v:V) (u:Value):Prop where
 at_:PySem.W.findIn K (.ref C) f=some (some u)
 rel:RelV v u
 get:PySem.W.specialIn K u "__get__" = some none
 cp:PySem.W.copiedNames.contains f=false
structure Meth (K:PySem.W.Frag) (C:Addr) (m:Str) (f:Addr):Prop where
 at_:PySem.W.findIn K (.ref C) m=some (some (.ref f))
 fn:PySem.W.isFn K (.ref f)=true
 kp:PySem.W.keepIn K (.ref f)=true
section
variable {X:Cx} {pins:List (Addr × Obj)} {σ:St} {H:Hp} {s:Shared} {A:Around} {E:Value->Shared->Prop} {Q:Value->Shared->Prop} {c:Value} {b:Bool}
inductive TyOf (K:PySem.W.Frag) (H:Hp):V->Value->Prop where
 | non:TyOf K H .non (.type "NoneType")
 | bl (x:Bool):TyOf K H (.bl x) (.type "bool")
 | int (i:Int):TyOf K H (.int i) (.type "int")
 | str (x:Str):TyOf K H (.str x) (.type "str")
 | flt (x:UInt64):TyOf K H (.flt x) (.type "float")
 | lst {a:Addr} {xs:List V} (e:H a=some (.lst xs)):TyOf K H (.ref a) (.type "list")
 | frz {a:Addr} {o:Obj} {xs:List V} (e:H a=some (.frz o (.lst xs))):TyOf K H (.ref a) (.type "list")
 | tup {a:Addr} {xs:List V} (e:H a=some (.tup xs)):TyOf K H (.ref a) (.type "tuple")
 | dK {a:Addr} {kvs:List (Key × V)} (e:H a=some (.dK kvs)):TyOf K H (.ref a) (.type "dict")
 | dT {a:Addr} {kvs:List (List Key × V)} (e:H a=some (.dT kvs)):TyOf K H (.ref a) (.type "dict")
 | ins {a C dx:Addr} {fs:List (Str × V)} (e:H a=some (.ins C dx fs)) (cl:Cls K C) (ha:PySem.W.findIn K (.ref C) "__class__" = some (some (.builtin "object.__class__")))
   (hn:PySem.W.specialIn K (.builtin "object.__class__") "__get__" = some (some (.builtin "getset_descriptor.__get__"))) (htk:PySem.W.takesIn K (.builtin "object.__class__")=some true)
   (hm:PySem.W.mroIn K C (.type "object")=some true):TyOf K H (.ref a) (.ref C)
theorem isinst_ok {x:V} {u t:Value} (I:Inv X pins σ H s) (rx:RelV x u) (ty:TyOf X.K H x t) (e:PySem.W.kitOne X.K t c=some b) (h:∀ tk,Q (.bool b) { s with toks:=tk }) :
  wpAny (model X.prog X.w) A (call (.builtin "isinstance") [u,c]) Q E s:=by
 cases ty with
 | non=>cases (show u=Value.none from rx); exact PySem.W.kia_one PySem.W.kitx_none I.kIn True.intro e (fun z=>nomatch z) h
 | bl y=>cases (show u=Value.bool y from rx); exact PySem.W.kia_one PySem.W.kitx_bool I.kIn True.intro e (fun z=>nomatch z) h
 | int i=>obtain ⟨t,q⟩:=(show ∃ t,u=Value.int i t from rx); cases q; exact PySem.W.kia_one PySem.W.kitx_int I.kIn True.intro e (fun z=>nomatch z) h
 | str y=>obtain ⟨t,q⟩:=(show ∃ t,u=Value.str y t from rx); cases q; exact PySem.W.kia_one PySem.W.kitx_str I.kIn True.intro e (fun z=>nomatch z) h
 | flt y=>obtain ⟨t,q⟩:=(show ∃ t,u=Value.float y t from rx); cases q; exact PySem.W.kia_one PySem.W.kitx_float I.kIn True.intro e (fun z=>nomatch z) h
 | @lst a xs ea =>
  cases (show u=Value.ref a from rx)
  obtain ⟨_,_,n,_,h1⟩:=(show ObjOk X.prog X.w H s.heap a (.lst xs) from I.hok a _ ea)
  exact PySem.W.kia_one PySem.W.kitx_list I.kIn ⟨_,h1,rfl⟩ e (fun z=>nomatch z) h
 | @frz a ob xs ea =>
  cases (show u=Value.ref a from rx)
  obtain ⟨_,_,_,n,_,h1⟩:=(show ObjOk X.prog X.w H s.heap a (.frz ob (.lst xs)) from I.hok a _ ea)
  exact PySem.W.kia_one PySem.W.kitx_list I.kIn ⟨_,h1,rfl⟩ e (fun z=>nomatch z) h
 | @tup a xs ea =>
  cases (show u=Value.ref a from rx)
  obtain ⟨_,_,_,p⟩:=(show ObjOk X.prog X.w H s.heap a (.tup xs) from I.hok a _ ea)
  obtain ⟨o,h1,h2,_⟩:=p
  exact PySem.W.kia_one PySem.W.kitx_tuple I.kIn ⟨o,h1,h2⟩ e (fun z=>nomatch z) h
 | @dK a kvs ea =>
  cases (show u=Value.ref a from rx)
  obtain ⟨_,_,vs,_,p⟩:=(show ObjOk X.prog X.w H s.heap a (.dK kvs) from I.hok a _ ea)
  obtain ⟨o,es,ep,h1,h2,_⟩:=p
  exact PySem.W.kia_one PySem.W.kitx_dict I.kIn ⟨o,h1,h2.1⟩ e (fun z=>nomatch z) h
 | @dT a kvs ea =>
  cases (show u=Value.ref a from rx)
  obtain ⟨_,_,xs,_,o,es,ep,h1,h2,_⟩:=(show ObjOk X.prog X.w H s.heap a (.dT kvs) from I.hok a _ ea)
  exact PySem.W.kia_one PySem.W.kitx_dict I.kIn ⟨o,h1,h2.1⟩ e (fun z=>nomatch z) h
 | @ins a C dx fs ea cl ha hn htk hm =>
  cases (show u=Value.ref a from rx)
  obtain ⟨mA,O,_⟩:=ins_get I.hok ea
  obtain ⟨od,J,_⟩:=O.look
  exact PySem.W.kia_one (PySem.W.kitx_own (cl.get _) cl.hd ha hn htk hm) I.kIn J e (fun z=>nomatch z) h
end
structure Room (k:Nat) (A:Around):Prop where
 hd:A.handled=none
 dp:A.depth+3 * k+5<recursionLimit
 un:A.units+16 * k+200<cLine
theorem Room.mono {j k:Nat} {A:Around} (r:Room k A) (h:j<=k):Room j A:=⟨r.hd,by have:=r.dp; lia,by have:=r.un; lia⟩
theorem Room.deeper {k:Nat} {A:Around} (r:Room (k+1) A) (env:Env):Room k (A.deeper env) :=
 ⟨r.hd,by have:=r.dp; show A.depth+1+3 * k+5<_; lia,by have:=r.un; show A.units+3+16 * k+200<_; lia⟩
theorem Room.in1 {k:Nat} {A:Around} (r:Room (k+1) A):Room k A.in1 :=
 ⟨r.hd,by have:=r.dp; show A.depth+3 * k+5<_; lia,by have:=r.un; show A.units+1+16 * k+200<_; lia⟩
theorem Room.depth {k:Nat} {A:Around} (r:Room k A):A.depth<recursionLimit:=by have:=r.dp; lia
theorem Room.units {k:Nat} {A:Around} (r:Room k A):A.units+64<cLine:=by have:=r.un; lia
def tNil:TA:=fun _ H Q=>Q [] H
def tCons (ta:TE) (tr:TA):TA:=fun σ H Q=>ta σ H fun x H1=>tr σ H1 fun xs H2=>Q (x :: xs) H2
section
variable {X:Cx} {e:Expr} {es:List Expr} {te:TE} {t:TA} {pos:Pos}
theorem pa_nil:PA X [] tNil:=fun _ _ _ _ H Q I h=>Calls.spliced_nil ⟨[],H,I,.nil,h⟩
theorem pa_cons (ha:PE X e te) (hr:PA X es t) (hs:starEach (e :: es) X.env=(false,eval e X.env) :: starEach es X.env:=by rfl):PA X (e :: es) (tCons te t):=by
 intro pos pins s σ H Q I h
 rw [hs]
 show wpAny _ _ (spliced ((false,eval e X.env) :: backTo pos (starEach es X.env))) _ _ s
 refine Calls.spliced_cons (thn (ha pins s σ H _ I h) fun u s1 hx5=>L2.ex2 hx5 fun x H1 I1 r1 q1=>?_)
 exact thn (hr pos pins s1 σ H1 _ I1 q1) fun us s2 hx5=>L2.ex2 hx5 fun xs H2 I2 r2 q2=>⟨x :: xs,H2,I2,.cons r1 r2,q2⟩
def tTup (t:TA):TE:=fun σ H Q=>t σ H fun xs H1=>xs.length<=sizeLine/\∀ p,H1 p=none->Q (.ref p) (upd H1 p (.tup xs))
def tLst (t:TA):TE:=fun σ H Q=>t σ H fun xs H1=>xs.length<=sizeLine/\∀ p,H1 p=none->Q (.ref p) (upd H1 p (.lst xs))
theorem pe_tup {x1} (h:PA X es t):PE X (.Tuple es x1 pos) (tTup t):=by
 intro pins s σ H Q I hq
 refine wpAny_Tuple_spliced (thn (h pos pins s σ H _ I hq) fun us s1 ⟨xs,H1,I1,r,z,q⟩=>⟨by rw [<- r.length]; exact z,?_⟩)
 have hf:H1 s1.heap.objs.size=none:=I1.hok.fresh (xag _)
 refine ⟨.ref s1.heap.objs.size,upd H1 s1.heap.objs.size (.tup xs),I1.laid (t':=s1.toks) (fun b u e=>xal _ e) (xag _) ?_,rfl,q _ hf⟩
 exact ⟨z,us,r,⟨_,xaC _ rfl,rfl,_,rfl⟩⟩
theorem pe_lst (h:PA X es t):PE X (.List es pos) (tLst t):=by
 intro pins s σ H Q I hq
 refine wpAny_List_spliced (thn (h pos pins s σ H _ I hq) fun us s1 ⟨xs,H1,I1,r,z,q⟩=>⟨by rw [<- r.length]; exact z,?_⟩)
 have hf:H1 s1.heap.objs.size=none:=I1.hok.fresh (xag _)
 refine ⟨.ref s1.heap.objs.size,upd H1 s1.heap.objs.size (.lst xs),I1.laid (t':=s1.toks) (fun b u e=>xal _ e) (xag _) ?_,rfl,q _ hf⟩
 exact ⟨z,us,0,r,xaC _ rfl⟩
end
abbrev Sp:=List V->Hp->VK->XK->Prop
abbrev CXT:=List Env->Hp->Shared->XK->Value->Shared->Prop
structure Env0 (P:Program) (w:World) (K:PySem.W.Frag) (mg:Str->Option Value) (base:Heap) (A:Around) (outer:List Env) (s:Shared) (H:Hp):Prop where
 frames:A.frames=some outer
 mod:Mod K mg base
 bs:∀ b o,base.get? b=some o->s.heap.get? b=some o/\H b=none
 bsz:base.objs.size<=s.heap.objs.size
 funs:s.heap.FunFrames base outer
 frf:∀ b∈frs outer,H b=none
 hok:HOk P w H s.heap
 bare:AllBare s.gens
def CE (outer:List Env) (P:Program) (w:World) (H:Hp) (s:Shared) (Q:VK) (u:Value) (s':Shared):Prop :=
 ∃ v H',s'.os=s.os/\AllBare s'.gens/\Un (frs outer) [] H H' s.heap s'.heap/\HOk P w H' s'.heap/\RelV v u/\Q v H'
def CR (CX:CXT) (outer:List Env) (P:Program) (w:World) (H:Hp) (s:Shared) (Q:VK) (E:XK) (r:Result) (s':Shared):Prop :=
 match r with
 | .ok (.ret u)=>CE outer P w H s Q u s'
 | .ok _=>False
 | .error e=>CX outer H s E e s'
structure FnOk (P:Program) (w:World) (K:PySem.W.Frag) (mg:Str->Option Value) (base:Heap) (CX:CXT) (k:Nat) (f:Addr) (fd:FuncData) (ps:List Str) (sp:Sp):Prop where
 len:∀ vs H Q E,sp vs H Q E->vs.length=ps.length
 run:∀ (A:Around) (outer:List Env) (s:Shared) (H:Hp) (args:Args) (us:List Value) (vs:List V) (Q:VK) (E:XK),Room k A->Env0 P w K mg base A outer s H->BindsTo s fd args (ps.zip us)->Vals vs us->sp vs H Q E ->
  codeAny (model P w) A (.call (.ref f) args) (CR CX outer P w H s Q E) s
theorem FnOk.mono {P:Program} {w:World} {K:PySem.W.Frag} {mg:Str->Option Value} {base:Heap} {CX:CXT} {j k:Nat} {f:Addr} {fd:FuncData} {ps:List Str} {sp:Sp} (F:FnOk P w K mg base CX j f fd ps sp) (h:j<=k) :
  FnOk P w K mg base CX k f fd ps sp:=⟨F.len,fun A outer s H args us vs Q E hr=>F.run A outer s H args us vs Q E (hr.mono h)⟩
theorem FnOk.imp {P:Program} {w:World} {K:PySem.W.Frag} {mg:Str->Option Value} {base:Heap} {CX:CXT} {k:Nat} {f:Addr} {fd:FuncData} {ps:List Str} {sp sp':Sp} (F:FnOk P w K mg base CX k f fd ps sp)
  (h:∀ vs H Q E,sp' vs H Q E->sp vs H Q E):FnOk P w K mg base CX k f fd ps sp' :=
 ⟨fun vs H Q E q=>F.len vs H Q E (h _ _ _ _ q),fun A outer s H args us vs Q E hr he hb hv hs=>F.run A outer s H args us vs Q E hr he hb hv (h _ _ _ _ hs)⟩
theorem Env0.in1 {P:Program} {w:World} {K:PySem.W.Frag} {mg:Str->Option Value} {base:Heap} {A:Around} {outer:List Env} {s:Shared} {H:Hp} (e:Env0 P w K mg base A outer s H) :
  Env0 P w K mg base A.in1 outer s H:=⟨e.frames,e.mod,e.bs,e.bsz,e.funs,e.frf,e.hok,e.bare⟩
section
variable {X:Cx} {pins:List (Addr × Obj)} {σ:St} {H:Hp} {s s':Shared}
theorem Inv.env0 (I:Inv X pins σ H s):Env0 X.prog X.w X.K X.mg X.base X.A X.stack s H :=
 ⟨I.ok.frames,I.ok.mod,I.bs,xaB I.ok.bsz I.sz,I.stack,I.stkFree,I.hok,I.bare⟩
theorem Inv.after {Q:VK} {u:Value} (I:Inv X pins σ H s) (h:CE X.stack X.prog X.w H s Q u s'):EP X pins σ Q u s':=by
 obtain ⟨v,H',os,bare,un,hok,r,q⟩:=h
 obtain ⟨hh,g,d,t,os'⟩:=s'
 obtain rfl:os'=s.os:=os
 exact ⟨v,H',I.call (h':=hh) (g':=g) (d':=d) (t':=t) (ch:=[]) un hok bare (fun b z=>absurd z (by simp)),r,q⟩
end
def tCall (sp:Sp) (dvs:List V) (E:XK) (t:TA):TE:=fun σ H Q=>t σ H fun vs H1=>sp (vs++dvs) H1 Q E
def Binds (K:PySem.W.Frag) (fd:FuncData) (ps:List Str) (ds:List Value):Prop :=
 ∀ (s:Shared) (us:List Value),K.In s.heap->(us++ds).length=ps.length->BindsTo s fd ⟨us,[]⟩ (ps.zip (us++ds))
theorem Binds.all {K:PySem.W.Frag} {fd:FuncData} {ps:List Str} (h:∀ us:List Value,us.length=ps.length->bindArgs fd ⟨us,[]⟩=pure (ps.zip us)):Binds K fd ps []:=fun s us _ hl=>by
 rw [xaI] at hl ⊢
 exact .of_eq (h us hl)
def Passes (CX:CXT) (X:Cx) (E:XK):Prop:=∀ (pins:List (Addr × Obj)) (σ:St) (H:Hp) (s:Shared) (e:Value) (s':Shared),Inv X pins σ H s->CX X.stack H s E e s'->X.xe e s'
section
variable {X:Cx} {CX:CXT} {k:Nat} {f C:Addr} {fd:FuncData} {ps:List Str} {sp:Sp} {dvs:List V} {ds:List Value} {E:XK} {x:Str} {p pos:Pos} {e:Expr} {es:List Expr} {t:TA}
theorem run_fn {pins:List (Addr × Obj)} {σ:St} {H:Hp} {s:Shared} {Q:VK} {us:List Value} {vs:List V} (F:FnOk X.prog X.w X.K X.mg X.base CX k f fd ps sp) (hr:Room k X.A) (hb:Binds X.K fd ps ds) (hd:Vals dvs ds) (hx:Passes CX X E)
  (I:Inv X pins σ H s) (r:Vals vs us) (h:sp (vs++dvs) H Q E):wpAny (model X.prog X.w) X.A (call (.ref f) us) (EP X pins σ Q) X.xe s:=by
 have r2:Vals (vs++dvs) (us++ds):=r.append hd
 have hl:(us++ds).length=ps.length:=by rw [<- r2.length]; exact F.len _ _ _ _ h
 refine wpAny_call (codeAny_mono (F.run X.A X.stack s H ⟨us,[]⟩ (us++ds) (vs++dvs) Q E hr I.env0 (hb s us I.kIn hl) r2 h) fun r s' hq=>?_)
 cases r with
 | error e=>exact hx pins σ H s e s' I hq
 | ok fl =>
  cases fl with
  | ret u=>exact I.after hq
  | next=>exact False.elim hq
  | brk=>exact False.elim hq
  | cont=>exact False.elim hq
theorem pe_call (F:FnOk X.prog X.w X.K X.mg X.base CX k f fd ps sp) (hr:Room k X.A) (hg:Gl X x) (hm:X.mg x=some (.ref f)) (hk:PySem.W.keepIn X.K (.ref f)=true) (hb:Binds X.K fd ps ds) (hd:Vals dvs ds) (hx:Passes CX X E)
  (ha:PA X (e :: es) t) (hdb:(x == ("__debug__" : Str))=false:=by decide) (he:starEach (e :: es) X.env=(false,eval e X.env) :: starEach es X.env:=by rfl) (hpl:(backTo pos (starEach es X.env)).any (·.1)=false:=by rfl) :
  PE X (.Call (.Name x p) (e :: es) [] pos) (tCall sp dvs E t):=by
 intro pins s σ H Q I h
 refine wpAny_Call_Name_kw (ld_glob I hg hm ?_ hdb)
 refine PySem.W.callWith_K (h₀:=X.base) I.ok.mod.kin hk (thn (ha pos pins s σ H _ I h) fun us s1 hx5=>L2.ex2 hx5 fun vs H1 I1 r q=>⟨I1.kIn,?_⟩) he hpl
 exact run_fn F hr hb hd hx I1 r q
structure Mk (K:PySem.W.Frag) (C f:Addr):Prop where
 makes:PySem.W.makesIn K C=true
 init:PySem.W.findIn K (.ref C) "__init__" = some (some (.ref f))
 fn:PySem.W.isFn K (.ref f)=true
 kp:PySem.W.keepIn K (.ref C)=true
end
section
variable {fd:FuncData} {ps ks:List Str}
structure KBinds (K:PySem.W.Frag) (fd:FuncData) (ps ks:List Str) (g:List Value->List Value->List Value) (gV:List V->List V->List V):Prop where
 to:∀ (s:Shared) (us ws:List Value),K.In s.heap->(g us ws).length=ps.length->BindsTo s fd ⟨us,ks.zip ws⟩ (ps.zip (g us ws))
 rel:∀ {vs:List V} {us:List Value} {zs:List V} {ws:List Value},Vals vs us->Vals zs ws->Vals (gV vs zs) (g us ws)
end
structure FnScope (N P:List Str) (sc:Scope):Prop where
 kind:sc.kind=.function
 co:sc.isCoroutine=false
 gen:sc.isGenerator=false
 nd:N.Nodup
 pre:N.take P.length=P
 par:∀ x∈P,sc.names.lookup x=some .local\/sc.names.lookup x=some .cell
 nofree:∀ y∈sc.names,y.2≠.free
theorem bindL_out {kindOf:Str->Option NameKind} {x:Str}:∀ {binds:List (Str × Value)} {m:Str->Option Value},(∀ v,(x,v)∉binds)->bindL kindOf binds m x=m x
 | [],_,_=>rfl
 | (n,v) :: r,m,h=>by
  unfold bindL
  rw [bindL_out fun w hw=>h w (xac _ hw)]
  split
  ·have:x≠n:=by rintro rfl; exact h v xad
   simp [this]
  ·rfl
theorem bindC_out {kindOf:Str->Option NameKind} {x:Str}:∀ {binds:List (Str × Value)} {m:Str->Option Value},(∀ v,(x,v)∉binds)->bindC kindOf binds m x=m x
 | [],_,_=>rfl
 | (n,v) :: r,m,h=>by
  unfold bindC
  rw [bindC_out fun w hw=>h w (xac _ hw)]
  split
  ·rfl
  ·have:x≠n:=by rintro rfl; exact h v xad
   simp [this]
theorem bindL_get {kindOf:Str->Option NameKind} {x:Str} {v:Value}:∀ {P:List Str} {vs:List Value} {i:Nat} {m:Str->Option Value},P.Nodup->P[i]? = some x->vs[i]? = some v->kindOf x=some .local ->
  bindL kindOf (P.zip vs) m x=some v
 | [],_,_,_,_,h,_,_=>by simp at h
 | _ :: _,[],_,_,_,_,h,_=>by simp at h
 | p :: P,w :: vs,0,m,nd,h1,h2,hk=>by
  simp at h1 h2; subst h1; subst h2
  show bindL kindOf ((p,w) :: P.zip vs) m p=_
  unfold bindL
  rw [bindL_out fun v hv=>(xay.mp nd).1 (List.of_mem_zip hv).1,if_pos hk]
  simp
 | p :: P,w :: vs,i+1,m,nd,h1,h2,hk=>by
  show bindL kindOf ((p,w) :: P.zip vs) m x=_
  unfold bindL
  exact bindL_get (i:=i) (xay.mp nd).2 (by simpa using h1) (by simpa using h2) hk
theorem bindC_get {kindOf:Str->Option NameKind} {x:Str} {v:Value}:∀ {P:List Str} {vs:List Value} {i:Nat} {m:Str->Option Value},P.Nodup->P[i]? = some x->vs[i]? = some v->kindOf x≠some .local ->
  bindC kindOf (P.zip vs) m x=some v
 | [],_,_,_,_,h,_,_=>by simp at h
 | _ :: _,[],_,_,_,_,h,_=>by simp at h
 | p :: P,w :: vs,0,m,nd,h1,h2,hk=>by
  simp at h1 h2; subst h1; subst h2
  show bindC kindOf ((p,w) :: P.zip vs) m p=_
  unfold bindC
  rw [bindC_out fun v hv=>(xay.mp nd).1 (List.of_mem_zip hv).1,if_neg hk]
  simp
 | p :: P,w :: vs,i+1,m,nd,h1,h2,hk=>by
  show bindC kindOf ((p,w) :: P.zip vs) m x=_
  unfold bindC
  exact bindC_get (i:=i) (xay.mp nd).2 (by simpa using h1) (by simpa using h2) hk
def start (N:List Str) (vs:List V):St:=vs.map some++List.replicate (N.length - vs.length) none
def cxOf (CX:CXT) (P:Program) (w:World) (K:PySem.W.Frag) (mg:Str->Option Value) (base:Heap) (N:List Str) (qual:Str) (scope:Scope) (f:Addr) (cd:Value) (A:Around) (outer:List Env) (s:Shared) (H:Hp) (E:XK):Cx where
 prog:=P
 w:=w
 K:=K
 mg:=mg
 base:=base
 A:=A.deeper (envOfC qual scope s.heap.objs.size f cd)
 N:=N
 s₀:=s
 H₀:=H
 env:=envOfC qual scope s.heap.objs.size f cd
 outer:=outer
 stack:=envOfC qual scope s.heap.objs.size f cd :: outer
 ex:=[]
 calm:=true
 fn:=fun _=>true
 pn:=[]
 xe:=fun e s'=>wpAny (model P w) (A.deeper (envOfC qual scope s.heap.objs.size f cd)) (leaving (envOfC qual scope s.heap.objs.size f cd) e) (fun _ s''=>CX outer H s E e s'') (fun e' s''=>CX outer H s E e' s'') s'
theorem cell_has {sc:Scope} {n:Nat} {x:Str} (h:sc.names.lookup x=some .cell):∃ c,(cellsFrom n sc.names []).lookup x=some c:=by
 have q:=PySem.W.cellsFrom_some sc.names n [] (.inl h)
 exact Option.isSome_iff_exists.mp q
theorem inv_start {CX:CXT} {P:Program} {w:World} {K:PySem.W.Frag} {mg:Str->Option Value} {base:Heap} {N ps:List Str} {qual:Str} {scope:Scope} {f:Addr} {cd:Value} {A:Around} {outer:List Env} {s s1:Shared} {H:Hp} {E:XK} {us:List Value} {vs:List V}
  (S:FnScope N ps scope) (hd:A.handled=none) (e0:Env0 P w K mg base A outer s H) (hl:vs.length=ps.length) (r:Vals vs us)
  (x:InCallC s s.heap.objs.size (bindL (envOfC qual scope s.heap.objs.size f cd).kindOf (ps.zip us) fun _=>none) (cellsFrom (s.heap.objs.size+1) scope.names []) (bindC (envOfC qual scope s.heap.objs.size f cd).kindOf (ps.zip us) fun _=>none) s1) :
  Inv (cxOf CX P w K mg base N qual scope f cd A outer s H E) [] (start N vs) H s1:=by
 have hpl:ps.length<=N.length:=by have:=congrArg List.length S.pre; rw [xax] at this; lia
 obtain ⟨h1,tk,rfl,hk⟩:=x.done
 have noA:∀ b:Addr,b∉(cxOf CX P w K mg base N qual scope f cd A outer s H E).ex:=fun b z=>absurd (show b∈([]:List Addr) from z) (by simp)
 refine ⟨⟨e0.mod,S.kind,rfl,rfl,xag _,fun y z c h1 h2=>?_,fun y hy=>?_,fun y c _ h=>?_,fun _=>hd,Around.frames_deeper e0.frames,.inr ⟨rfl,rfl⟩,fun b z=>absurd z (noA b),e0.bs,e0.bsz,fun b _ _=>noA b,fun b z=>absurd z (noA b),e0.funs,e0.frf⟩,
  rfl,e0.bare,Un.kept hk,⟨_,x.toInCall.ns,fun i y v h1 h2 h3=>?_⟩,fun y c h=>⟨_,x.cell y c h⟩,e0.hok.fresh (xag _),fun y c h=>?_,fun p hp=>absurd (show p∈([]:List (Addr × Obj)) from hp) (by simp),e0.hok.kept hk,?_⟩
 ·exact name_of_addr x.apart (PySem.mem_of_lookup h1) (PySem.mem_of_lookup h2)
 ·have hy:scope.names.lookup y=some .cell\/scope.names.lookup y=some .free:=hy
  rcases hy with hy | hy
  ·exact cell_has hy
  ·exact absurd rfl (S.nofree _ (PySem.mem_of_lookup hy))
 ·exact xaK (x.above y c (PySem.mem_of_lookup h))
 ·have hi:i<vs.length:=by
   unfold start at h2
   by_cases hi:i<vs.length
   ·exact hi
   ·rw [xaR (by simpa using hi)] at h2
    rw [xbV] at h2
    split at h2 <;> cases h2
  have ha:vs[i]? = some v:=by
   unfold start at h2
   rw [xbg (by simpa using hi),xaE] at h2
   cases e:vs[i]? with
   | none=>rw [e] at h2; cases h2
   | some a=>rw [e] at h2; cases h2; rfl
  obtain ⟨u,hu,rv⟩:=r.get ha
  have hp:ps[i]? = some y:=by
   rw [<- S.pre,List.getElem?_take_of_lt (by lia)]; exact h1
  have ndP:ps.Nodup:=by rw [<- S.pre]; exact S.nd.sublist (List.take_sublist _ _)
  refine ⟨u,rv,?_⟩
  rcases S.par y (xaH hp) with k | k
  ·exact .inl ⟨k,bindL_get ndP hp hu k⟩
  ·obtain ⟨c,e⟩:=cell_has (n:=s.heap.objs.size+1) k
   refine .inr ⟨.inl k,c,e,?_⟩
   have q:=x.cell y c e
   rw [bindC_get ndP hp hu (by show scope.names.lookup y≠_; rw [k]; decide)] at q
   exact q
 ·exact e0.hok.fresh (xaK (x.above y c (PySem.mem_of_lookup h)))
 ·unfold start
  show _=N.length
  rw [xaA,xab,xb3]
  lia
theorem fn_of {CX:CXT} {P:Program} {w:World} {K:PySem.W.Frag} {mg:Str->Option Value} {base:Heap} {k:Nat} {f:Addr} {name qual:Str} {params:Arguments} {body:List Stmt} {scope:Scope} {dV kV doc pm cdv ct oc:Value} {an od:Option Addr}
  {osl:Array (Option Value)} {N ps:List Str} {sp:Sp} (lk:K.lookup f=some ⟨oc,od,.func (PySem.W.fnOf name qual params body scope dV kV doc pm an cdv ct),osl⟩) (hcd:PySem.W.codeIn K cdv qual=true) (S:FnScope N ps scope)
  (len:∀ vs H Q E,sp vs H Q E->vs.length=ps.length)
  (hbody:∀ (A:Around) (outer:List Env) (s:Shared) (H:Hp) (vs:List V) (Q:VK) (E:XK),Room k (A.deeper (envOfC qual scope s.heap.objs.size f cdv))->sp vs H Q E ->
   ∃ t,PSs (cxOf CX P w K mg base N qual scope f cdv A outer s H E) body t/\t { nx:=fun _ H'=>Q .non H',rt:=Q } (start N vs) H) :
  FnOk P w K mg base CX (k+1) f (PySem.W.fnOf name qual params body scope dV kV doc pm an cdv ct) ps sp:=by
 refine ⟨len,fun A outer s H args us vs Q E hr e0 hb r hsp=>?_⟩
 have hl:=len _ _ _ _ hsp
 have KX:K.In s.heap:=e0.mod.kin.keeps fun b o e=>(e0.bs b o e).1
 have lim:s.heap.NoLimit:=e0.mod.nolimit.keeps fun b o e=>(e0.bs b o e).1
 have hkind:∀ y∈ps.zip us,scope.names.lookup y.1=some .local\/(scope.names.lookup y.1=some .cell/\((cellsFrom (s.heap.objs.size+1) scope.names []).lookup y.1).isSome=true):=fun ⟨n,v⟩ hy=>by
  rcases S.par n (List.of_mem_zip hy).1 with q | q
  ·exact .inl q
  ·exact .inr ⟨q,PySem.W.cellsFrom_some _ _ _ (.inl q)⟩
 refine codeAny_call_function hr.depth (KX _ _ lk) rfl S.co S.gen rfl (PySem.W.codeRec_of KX hcd) (hb _ _ _ _ ?_)
 refine wpAny_newFunctionEnv_cells S.kind hkind fun env he s1 x=>?_
 subst he
 refine ⟨lim.keeps x.toInCall.keep,codeAny_func ?_⟩
 obtain ⟨t,ht,hq⟩:=hbody A outer s H vs Q E (hr.deeper _) hsp
 have I:Inv (cxOf CX P w K mg base N qual scope f cdv A outer s H E) [] (start N vs) H s1:=inv_start S hr.hd e0 hl r x
 refine xaZ (ht [] s1 (start N vs) H _ I hq) (fun fl s' hs=>?_) fun e s' hs=>hs
 have fin:∀ {σ':St} {H':Hp} {v:V} {u:Value},Inv (cxOf CX P w K mg base N qual scope f cdv A outer s H E) [] σ' H' s'->RelV v u->Q v H'->CE outer P w H s Q u s' :=
  fun {σ' H' v u} J rv q=>⟨v,H',J.os,J.bare,J.base,J.hok,rv,q⟩
 cases fl with
 | ret u =>
  obtain ⟨v,σ',H',J,rv,q⟩:=hs
  exact fin J rv q
 | next =>
  obtain ⟨σ',H',J,q⟩:=hs
  exact fin (v:=V.non) (u:=Value.none) J rfl q
 | brk =>
  obtain ⟨_,_,_,q⟩:=hs
  exact False.elim q
 | cont =>
  obtain ⟨_,_,_,q⟩:=hs
  exact False.elim q
section
variable {X:Cx} {x:Str} {p pos:Pos} {e:Expr} {es:List Expr} {t:TA} {id T:String} {r:List V->Hp->VK->Prop}
def tCB (r:List V->Hp->VK->Prop) (t:TA):TE:=fun σ H Q=>t σ H fun vs H1=>r vs H1 Q
theorem pe_callB (hc:CallR X (.builtin id) r) (hg:Gl X x) (hm:X.mg x=none) (hv:bootBuiltins x=some (.builtin id)) (ha:PA X (e :: es) t) (hn:x ≠ "__name__" := by decide) (hdb:(x == ("__debug__" : Str))=false:=by decide)
  (he:starEach (e :: es) X.env=(false,eval e X.env) :: starEach es X.env:=by rfl) (hpl:(backTo pos (starEach es X.env)).any (·.1)=false:=by rfl):PE X (.Call (.Name x p) (e :: es) [] pos) (tCB r t):=by
 intro pins s σ H Q I h
 refine wpAny_Call_Name_kw (ld_blt I hg hm hv ?_ hn hdb)
 exact PyProof.Rows.callWith_builtin1 (thn (ha pos pins s σ H _ I h) fun us s1 hx5=>L2.ex2 hx5 fun vs H1 I1 r1 q1=>hc pins s1 σ H1 vs us Q I1 r1 q1) he hpl
theorem pe_callTy (hc:CallR X (.type T) r) (hg:Gl X x) (hm:X.mg x=none) (hv:bootBuiltins x=some (.type T)) (ha:PA X (e :: es) t) (hn:x ≠ "__name__" := by decide) (hdb:(x == ("__debug__" : Str))=false:=by decide)
  (he:starEach (e :: es) X.env=(false,eval e X.env) :: starEach es X.env:=by rfl) (hpl:(backTo pos (starEach es X.env)).any (·.1)=false:=by rfl):PE X (.Call (.Name x p) (e :: es) [] pos) (tCB r t):=by
 intro pins s σ H Q I h
 refine wpAny_Call_Name_kw (ld_blt I hg hm hv ?_ hn hdb)
 exact PyProof.Rows.callWith_type1 (thn (ha pos pins s σ H _ I h) fun us s1 hx5=>L2.ex2 hx5 fun vs H1 I1 r1 q1=>hc pins s1 σ H1 vs us Q I1 r1 q1) he hpl
end
end L2
namespace HT
open PySem PyProof.Rows
section
open PySem.SeqAt
open PySem.AutoSeq1 (wpAny_loadPart')
open PySem.MeetsSeq PySem.MeetsSeq2 PySem.MeetsSeq3
end
section
variable {prog:Program} {w:World} {A:Around} {E:Value->Shared->Prop} {s:Shared}
theorem cat_tup {t b:Addr} {vs ws:List Value} {Q:Value->Shared->Prop} (ht:IsTup s.heap t vs.toArray) (hb:IsTup s.heap b ws.toArray) (hv:vs≠[])
  (h1:ws=[]->Q (.ref t) s) (h2:ws≠[]->Q (.ref s.heap.objs.size) { s with heap:=s.heap.push { cls:=.type "tuple",data:=.seq (vs++ws).toArray } })
  (hsz:vs.length+ws.length<=sizeLine):wpAny (model prog w) A (binaryOp .Add (.ref t) (.ref b)) Q E s:=by
 obtain ⟨⟨cls,dd,data,sl⟩,ho,hc,n,hd⟩:=id ht
 obtain ⟨⟨cls2,dd2,data2,sl2⟩,ho2,hc2,n2,hd2⟩:=id hb
 simp only at hc hd hc2 hd2
 subst hc hd hc2 hd2
 have e:vs.toArray++ws.toArray=(vs++ws).toArray:=by simp
 by_cases hw:ws=[]
 ·exact concat_meets ⟨_,ho,rfl⟩ ⟨_,ho2,rfl⟩ noFill_tuple_add seq_tuple_add PySem.F.slot_tuple_add PySem.F.entry_tuple_add (PySem.F.args_tuple_add_2 _ _)
   (tuple_addW1 t b vs.toArray ws.toArray n n2 dd dd2 sl sl2 (by simpa using hv) (by simp [hw])) ⟨ho,ho2,h1 hw⟩
 ·refine concat_meets ⟨_,ho,rfl⟩ ⟨_,ho2,rfl⟩ noFill_tuple_add seq_tuple_add PySem.F.slot_tuple_add PySem.F.entry_tuple_add (PySem.F.args_tuple_add_2 _ _)
   (tuple_addW2 t b vs.toArray ws.toArray n n2 dd dd2 sl sl2 (by simpa using hv) (by simpa using hw) (by rw [xau,xau]; exact hsz)) ⟨ho,ho2,?_⟩
  rw [e]
  exact h2 hw
def sIx (n d:Nat):Option Int->Nat
 | none=>d
 | some v=>if v<0 then (v+(n:Int)).toNat else min v.toNat n
theorem sIx_le (n d:Nat) (hd:d<=n) (o:Option Int):sIx n d o<=n:=by
 cases o with
 | none=>exact hd
 | some v =>
  show (if v<0 then (v+(n:Int)).toNat else min v.toNat n)<=n
  by_cases hv:v<0
  ·rw [if_pos hv]; lia
  ·rw [if_neg hv]; exact Nat.min_le_right _ _
theorem clip_eq (v:Int) (n d:Nat):(if v<0 then max (v+(n:Int)) 0 else min v (n:Int))=((sIx n d (some v):Nat):Int):=by
 show (if v<0 then max (v+(n:Int)) 0 else min v (n:Int))=(((if v<0 then (v+(n:Int)).toNat else min v.toNat n):Nat):Int)
 by_cases hv:v<0
 ·simp only [if_pos hv]; lia
 ·simp only [if_neg hv]; lia
theorem adjust_gen (lo hi:Option Int) (n:Nat):Builtin.Slice.sliceAdjust lo hi 1 (n:Int)=(((sIx n 0 lo:Nat):Int),((sIx n n hi:Nat):Int)):=by
 have h1:¬ ((1:Int)<0):=by decide
 unfold Builtin.Slice.sliceAdjust
 simp only [h1,if_false]
 refine Prod.ext ?_ ?_
 ·cases lo with
  | none=>rfl
  | some v=>exact clip_eq v n 0
 ·cases hi with
  | none=>rfl
  | some v=>exact clip_eq v n n
theorem places_gen (i j:Nat):Builtin.Slice.slicePlaces (i:Int) (j:Int) 1=j - i:=by
 unfold Builtin.Slice.slicePlaces
 have h1:(1:Int)>0:=by exact xbh _
 simp only [h1,if_true,Int.ediv_one]
 split <;> lia
theorem slicePart_ {v:Value} {o:Option Int} {Q:Option Int->Shared->Prop} (p:IsPart v o) (h:Q o s):wpAny (model prog w) A (Builtin.Slice.slicePartIndex v) Q E s:=by
 cases p with
 | none=>exact slicePart_none h
 | int i t=>exact slicePart_int h
theorem sliceApplied_gen {sl:Addr} {vl vu:Value} {lo hi:Option Int} {n:Nat} {Q:Int × Int × Nat->Shared->Prop} (hs:s.heap.IsSliceOf sl vl vu .none) (pl:IsPart vl lo) (pu:IsPart vu hi)
  (h:Q (((sIx n 0 lo:Nat):Int),1,sIx n n hi - sIx n 0 lo) s):wpAny (model prog w) A (Builtin.Slice.sliceApplied (.ref sl) (pure (n:Int))) Q E s:=by
 obtain ⟨os,hos,hcs,hds⟩:=id hs
 unfold Builtin.Slice.sliceApplied Builtin.Slice.sliceFields
 refine xaa (xaa (wpAny_field hos hds (x:=vl) rfl (xaa (wpAny_field hos hds (x:=vu) rfl (xaa (wpAny_field hos hds (x:=.none) rfl (xaf ?_)))))))
 refine xaa (slicePart_none ?_)
 show wpAny _ _ (if ((1:Int) == 0)=true then _ else _) _ _ s
 rw [if_neg (by decide)]
 refine xaa (slicePart_ pl (xaa (slicePart_ pu (xaa (xaf ?_)))))
 show wpAny _ _ (match Builtin.Slice.sliceAdjust lo hi 1 (n:Int) with | (lo,hi)=>pure (lo,(1:Int),Builtin.Slice.slicePlaces lo hi 1)) _ _ s
 rw [adjust_gen lo hi n]
 show wpAny _ _ (pure (((sIx n 0 lo:Nat):Int),(1:Int),Builtin.Slice.slicePlaces ((sIx n 0 lo:Nat):Int) ((sIx n n hi:Nat):Int) 1)) _ _ s
 rw [places_gen]
 exact xaf h
theorem pick_gen (xs:Array Value) (i k:Nat):((List.range k).filterMap fun (m:Nat)=>xs[((i:Int)+(m:Int) * 1).toNat]?).toArray=((xs.toList.drop i).take k).toArray:=by
 have e:(fun (m:Nat)=>xs[((i:Int)+(m:Int) * 1).toNat]?)=fun m=>xs[i+m]? := by
  funext m
  have:((i:Int)+(m:Int) * 1).toNat=i+m:=by exact (xbO ..).symm
  rw [this]
 rw [e]
 have:=pick_run xs i k
 rw [List.filterMap_map] at this
 have e2:((fun x=>xs[x]?) ∘ fun x=>i+x)=fun m=>xs[i+m]? := rfl
 rw [e2] at this
 rw [this]
theorem getItem_tuple_cut {t sl:Addr} {items:Array Value} {vl vu:Value} {lo hi:Option Int} {Q:Value->Shared->Prop} (ht:IsTup s.heap t items) (hs:s.heap.IsSliceOf sl vl vu .none) (pl:IsPart vl lo) (pu:IsPart vu hi)
  (hw:¬ (sIx items.size 0 lo=0/\sIx items.size items.size hi=items.size))
  (h:Q (.ref s.heap.objs.size) { s with heap:=s.heap.push { cls:=.type "tuple",data:=.seq ((items.toList.drop (sIx items.size 0 lo)).take (sIx items.size items.size hi - sIx items.size 0 lo)).toArray } })
  (hsz:items.size<=sizeLine):wpAny (model prog w) A (getItem (.ref t) (.ref sl)) Q E s:=by
 have htake:sizeOk (.seq ((items.toList.drop (sIx items.size 0 lo)).take (sIx items.size items.size hi - sIx items.size 0 lo)).toArray):=by
  show ((items.toList.drop (sIx items.size 0 lo)).take (sIx items.size items.size hi - sIx items.size 0 lo)).toArray.size<=sizeLine
  rw [xau,xax,xbi,xaW]
  lia
 have hj:sIx items.size items.size hi<=items.size:=sIx_le _ _ (xag _) hi
 obtain ⟨os,hos,hcs,hds⟩:=id hs
 have hTs:s.TypeIs (.ref sl) "slice" := ⟨os,hos,hcs⟩
 unfold getItem
 try with_reducible refine wpAny_holding ?_
 first | refine xaa (xaf ?_) | skip
 refine xaa (wpAny_sequenceKey ht.typeIs (by decide) ?_)
 refine xaa (wpAny_callSpecial?_slot (name:=Str.ofString "__getitem__") ht.typeIs PyProof.Rows.slot_tuple_getitem
  (wpAny_call_entry PyProof.Rows.slot_tuple_getitem ht.typeIs entry_tuple_getitem ?_ (args_tuple_getitem _ _)))
 show wpAny _ _ (Builtin.Tuple.tupleItemsOf (.ref t) >>= _) _ _ s
 refine xaa (tupleItemsOf_ ht ?_)
 refine xaa (wpAny_typeOf hTs ?_)
 rw [if_pos (by decide)]
 refine xaa (sliceApplied_gen hs pl pu ?_)
 have hno:¬ ((((sIx items.size 0 lo:Nat):Int) == 0 && (1:Int) == 1 && (sIx items.size items.size hi - sIx items.size 0 lo) == items.size)=true):=by
  intro q
  rw [xaG,xaG] at q
  have q1:((sIx items.size 0 lo:Nat):Int)=0:=eq_of_beq q.1.1
  have q2:sIx items.size items.size hi - sIx items.size 0 lo=items.size:=eq_of_beq q.2
  exact hw ⟨by lia,by lia⟩
 show wpAny _ _ (if (((sIx items.size 0 lo:Nat):Int) == 0 && (1:Int) == 1 && (sIx items.size items.size hi - sIx items.size 0 lo) == items.size)=true then _ else _) _ _ s
 rw [if_neg hno,pick_gen]
 first
  | exact xaa (m:=Builtin.Tuple.tupleExact _) (wpAny_newObj_type (xaf ⟨_,rfl,xaf h⟩) htake)
  | exact xaa (m:=Builtin.Tuple.tupleExact _) (wpAny_newObj_type (xaa (xaf (xaf ⟨_,rfl,xaf h⟩))) htake)
  | exact xaa (xaa (m:=Builtin.Tuple.tupleExact _) (wpAny_newObj_type (xaf (xaf ⟨_,rfl,xaf h⟩)) htake))
  | exact xaa (xaa (m:=Builtin.Tuple.tupleExact _) (wpAny_newObj_type (xaf ⟨_,rfl,xaf h⟩) htake))
end
end HT
namespace L2
open PySem PySem.Spec PyProof.Rows
abbrev TO:=St->Hp->(Option Int->Hp->Prop)->Prop
def PO (X:Cx) (e:Option Expr) (t:TO):Prop :=
 ∀ (pins:List (Addr × Obj)) (s:Shared) (σ:St) (H:Hp) (Q:Option Int->Hp->Prop),Inv X pins σ H s->t σ H Q ->
  wpAny (model X.prog X.w) X.A (evalPart e X.env) (fun u s'=>∃ o H',Inv X pins σ H' s'/\IsPart u o/\Q o H') X.xe s
def tNoPart:TO:=fun _ H Q=>Q none H
def tPart (t:TE):TO:=fun σ H Q=>t σ H fun x H1=>∃ i,x=.int i/\Q (some i) H1
section
variable {X:Cx} {e:Expr} {te:TE} {lo hi:Option Expr} {tl th:TO} {pos p2:Pos}
theorem po_none:PO X none tNoPart:=by
 intro pins s σ H Q I h
 rw [evalPart_none]
 exact xaf ⟨none,H,I,.none,h⟩
theorem po_some (h:PE X e te):PO X (some e) (tPart te):=by
 intro pins s σ H Q I hw
 rw [evalPart_some]
 refine thn (h pins s σ H _ I hw) fun u s1 hx5=>L2.ex2 hx5 fun x H1 I1 r1 q1=>?_
 obtain ⟨i,rfl,q⟩:=q1
 obtain ⟨t,rfl⟩:=r1
 exact ⟨some i,H1,I1,.int i t,q⟩
def SlR (X:Cx) (r:V->Option Int->Option Int->Hp->VK->Prop):Prop :=
 ∀ (pins:List (Addr × Obj)) (s:Shared) (σ:St) (H:Hp) (x:V) (v vl vu:Value) (lo hi:Option Int) (sl:Addr) (Q:VK),Inv X pins σ H s->RelV x v->s.heap.IsSliceOf sl vl vu .none->IsPart vl lo->IsPart vu hi->r x lo hi H Q ->
  ∃ T id,typeLookup (.type T) "__getitem__" = pure (some (.builtin id))/\s.TypeIs v T/\wpAny (model X.prog X.w) X.A (getItem v (.ref sl)) (EP X pins σ Q) X.xe s
theorem SlR.or {r r':V->Option Int->Option Int->Hp->VK->Prop} (h:SlR X r) (h':SlR X r'):SlR X (fun x lo hi H Q=>r x lo hi H Q\/r' x lo hi H Q):=by
 intro pins s σ H x v vl vu lo hi sl Q I rx hs pl pu q
 rcases q with q | q
 ·exact h pins s σ H x v vl vu lo hi sl Q I rx hs pl pu q
 ·exact h' pins s σ H x v vl vu lo hi sl Q I rx hs pl pu q
def tSl (r:V->Option Int->Option Int->Hp->VK->Prop) (te:TE) (tl th:TO):TE:=fun σ H Q=>te σ H fun x H1=>tl σ H1 fun l H2=>th σ H2 fun u H3=>r x l u H3 Q
theorem pe_slice {r:V->Option Int->Option Int->Hp->VK->Prop} (hr:SlR X r) (he:PE X e te) (hl:PO X lo tl) (hu:PO X hi th):PE X (.Subscript e (.Slice lo hi none p2) pos) (tSl r te tl th):=by
 intro pins s σ H Q I h
 refine Subscript_ (thn (he pins s σ H _ I h) fun v s1 hx5=>L2.ex2 hx5 fun x H1 I1 r1 q1=>?_)
 refine wpAny_Slice (thn (hl pins s1 σ H1 _ I1 q1) fun vl s2 hx5=>L2.ex2 hx5 fun l H2 I2 pl q2=>thn (hu pins s2 σ H2 _ I2 q2) fun vu s3 hx5=>L2.ex2 hx5 fun u H3 I3 pu q3=>?_)
 rw [evalPart_none]
 refine xaf ?_
 have I4:Inv X pins σ H3 { s3 with heap:=s3.heap.push { cls:=.type "slice",data:=.fields #[vl,vu,.none] } }:=I3.kept (t':=s3.toks) fun b ob q=>xal _ q
 obtain ⟨T,id,hT,ht,hg⟩:=hr pins { s3 with heap:=s3.heap.push { cls:=.type "slice",data:=.fields #[vl,vu,.none] } } σ H3 x v vl vu l u s3.heap.objs.size Q I4 r1 (Heap.IsSliceOf.new ..) pl pu q3
 show wpAny (model X.prog X.w) X.A (subscriptTail e (.Slice lo hi none p2) v (.ref s3.heap.objs.size)) (EP X pins σ Q) X.xe { s3 with heap:=s3.heap.push { cls:=.type "slice",data:=.fields #[vl,vu,.none] } }
 exact tail_any (ops:=[.ref s3.heap.objs.size,v]) ht hT hg (by with_unfolding_all rfl)
def cutV (xs:List V) (lo hi:Option Int):List V:=(xs.drop (HT.sIx xs.length 0 lo)).take (HT.sIx xs.length xs.length hi - HT.sIx xs.length 0 lo)
theorem cutV_length (xs:List V) (lo hi:Option Int):(cutV xs lo hi).length<=xs.length:=by
 unfold cutV
 rw [xax,xbi]
 lia
def rSlT (K:PySem.W.Frag):V->Option Int->Option Int->Hp->VK->Prop:=fun x lo hi H Q=>∃ a xs,x=.ref a/\SqT K H a xs /\
 ¬ (HT.sIx xs.length 0 lo=0/\HT.sIx xs.length xs.length hi=xs.length)/\∀ p,H p=none->Q (.ref p) (upd H p (.tup (cutV xs lo hi)))
theorem sl_tup:SlR X (rSlT X.K):=by
 intro pins s σ H x v vl vu lo hi sl Q I rx hs pl pu h
 obtain ⟨a,xs,rfl,hx,hw,q⟩:=h
 cases rx
 obtain ⟨its,r,ht,hz⟩:=I.tuple hx
 have hlen:its.toArray.size=xs.length:=by rw [xau]; exact r.length.symm
 refine ⟨"tuple",_,PyProof.Rows.slot_tuple_getitem.lookup,ht.typeIs,?_⟩
 refine HT.getItem_tuple_cut ht hs pl pu (by rw [hlen]; exact hw) ?_ (by rw [hlen]; exact hz)
 rw [hlen]
 refine ⟨.ref s.heap.objs.size,_,I.laid (t':=s.toks) (o:=.tup (cutV xs lo hi)) (fun b ob q=>xal _ q) (xag _) ?_,rfl,q _ (I.hok.fresh (xag _))⟩
 exact ⟨xaB (cutV_length xs lo hi) hz,_,(r.drop (HT.sIx xs.length 0 lo)).take (HT.sIx xs.length xs.length hi - HT.sIx xs.length 0 lo),IsTup.new _ _⟩
def rCatT (K:PySem.W.Frag):R2:=fun x y H Q=>∃ a b xs ys,x=.ref a/\y=.ref b/\SqT K H a xs/\SqT K H b ys/\xs≠[]/\xs.length+ys.length<=sizeLine /\
 (ys=[]->Q (.ref a) H)/\(ys≠[]->∀ p,H p=none->Q (.ref p) (upd H p (.tup (xs++ys))))
theorem Vals.nil_iff {xs:List V} {us:List Value} (r:Vals xs us):us=[]↔xs=[]:=by
 cases r with
 | nil=>simp
 | cons _ _=>simp
theorem op_catT:OpR X (binaryOp .Add) (rCatT X.K):=by
 intro pins s σ H x y v u Q I rx ry h
 obtain ⟨a,b,xs,ys,rfl,rfl,ha,hb,hx,hz,q1,q2⟩:=h
 cases rx
 cases ry
 obtain ⟨its,r1,p1,_⟩:=I.tuple ha
 obtain ⟨its2,r2,p2,_⟩:=I.tuple hb
 refine HT.cat_tup p1 p2 (fun z=>hx (r1.nil_iff.mp z)) (fun z=>⟨.ref a,H,I,rfl,q1 (r2.nil_iff.mp z)⟩) (fun z=>?_) (by rw [<- r1.length,<- r2.length]; exact hz)
 refine ⟨.ref s.heap.objs.size,_,I.laid (t':=s.toks) (o:=.tup (xs++ys)) (fun b ob q=>xal _ q) (xag _) ?_,rfl,q2 (fun w=>z (r2.nil_iff.mpr w)) _ (I.hok.fresh (xag _))⟩
 exact ⟨by rw [xaA]; exact hz,_,r1.append r2,IsTup.new _ _⟩
end
def ixN (n:Nat) (i:Int):Option Nat:=if 0<=i then (if i<n then some i.toNat else none) else if -(n:Int)<=i then some (i+n).toNat else none
def atI {α:Type} (xs:List α) (i:Int):Option α:=(ixN xs.length i).bind fun j=>xs[j]?
theorem ixN_seq {n:Nat} {i:Int} {j:Nat} (h:ixN n i=some j):seqIndex? i n=some j/\j<n/\-(n:Int)<=i/\i<n:=by
 unfold ixN at h
 by_cases h0:0<=i
 ·rw [if_pos h0] at h
  by_cases h1:i<n
  ·rw [if_pos h1] at h
   have e:i.toNat=j:=Option.some.inj h
   exact ⟨by rw [seqIndex_of h0 h1,e],by lia,by lia,h1⟩
  ·rw [if_neg h1] at h; cases h
 ·rw [if_neg h0] at h
  by_cases h1:-(n:Int)<=i
  ·rw [if_pos h1] at h
   have e:(i+n).toNat=j:=Option.some.inj h
   exact ⟨by rw [seqIndex_neg (by exact Int.not_le.mp ‹_›) h1,e],by lia,h1,by lia⟩
  ·rw [if_neg h1] at h; cases h
theorem atI_get {α:Type} {xs:List α} {i:Int} {v:α} (h:atI xs i=some v):∃ j,seqIndex? i xs.length=some j/\xs[j]? = some v/\j<xs.length/\-(xs.length:Int)<=i/\i<xs.length:=by
 unfold atI at h
 cases e:ixN xs.length i with
 | none=>rw [e] at h; cases h
 | some j =>
  rw [e] at h
  obtain ⟨h1,h2,h3,h4⟩:=ixN_seq e
  exact ⟨j,h1,h,h2,h3,h4⟩
theorem atI_nat {α:Type} {xs:List α} {j:Nat} {v:α} (h:xs[j]? = some v):atI xs (j:Int)=some v:=by
 have hj:j<xs.length:=(xan.mp h).1
 have e:ixN xs.length (j:Int)=some j:=by
  unfold ixN
  rw [if_pos (by walk_at "s1"),if_pos (by lia)]; simp
 unfold atI; rw [e]; exact h
def PlainIx (b:Expr):Prop:=∀ o i,subscripted b false o i=operate [o,i] (getItem o i)
def IxR (X:Cx) (r:R2):Prop :=
 ∀ (value slice:Expr) (pins:List (Addr × Obj)) (s:Shared) (σ:St) (H:Hp) (x y:V) (v u:Value) (Q:VK),Inv X pins σ H s->RelV x v->RelV y u->r x y H Q ->
  subscripted slice false v u=operate [v,u] (getItem v u)->wpAny (model X.prog X.w) X.A (subscriptTail value slice v u) (EP X pins σ Q) X.xe s
def MtR (X:Cx) (id:String) (r:V->List V->Hp->VK->Prop):Prop :=
 ∀ (pins:List (Addr × Obj)) (s:Shared) (σ:St) (H:Hp) (x:V) (xs:List V) (v:Value) (us:List Value) (Q:VK),Inv X pins σ H s->RelV x v->Vals xs us->r x xs H Q ->
  wpAny (model X.prog X.w) X.A (call (.builtin id) (v :: us)) (EP X pins σ Q) X.xe s
section
variable {X:Cx} {a b:Expr} {ta tb:TE} {pos:Pos}
theorem IxR.or {r r':R2} (h:IxR X r) (h':IxR X r'):IxR X (fun x y H Q=>r x y H Q\/r' x y H Q):=by
 intro value slice pins s σ H x y v u Q I rx ry q hs
 rcases q with q | q
 ·exact h value slice pins s σ H x y v u Q I rx ry q hs
 ·exact h' value slice pins s σ H x y v u Q I rx ry q hs
theorem MtR.or {id:String} {r r':V->List V->Hp->VK->Prop} (h:MtR X id r) (h':MtR X id r'):MtR X id (fun x xs H Q=>r x xs H Q\/r' x xs H Q):=by
 intro pins s σ H x xs v us Q I rx rs q
 rcases q with q | q
 ·exact h pins s σ H x xs v us Q I rx rs q
 ·exact h' pins s σ H x xs v us Q I rx rs q
theorem pe_ix {r:R2} (hr:IxR X r) (ha:PE X a ta) (hb:PE X b tb) (hs:PlainIx b):PE X (.Subscript a b pos) (tOp r ta tb):=by
 intro pins s σ H Q I h
 exact Subscript_ (binT ha hb I h fun v u s2 x y H2 I2 rx ry q=>hr a b pins s2 σ H2 x y v u Q I2 rx ry q (hs _ _))
def rIxL (K:PySem.W.Frag):R2:=fun x y H Q=>∃ p xs i v,x=.ref p/\y=.int i/\SqL K H p xs/\atI xs i=some v/\Q v H
def rIxT (K:PySem.W.Frag):R2:=fun x y H Q=>∃ p xs i v,x=.ref p/\y=.int i/\SqT K H p xs/\atI xs i=some v/\Q v H
def rIxS:R2:=fun x y H Q=>∃ z i c,x=.str z/\y=.int i/\z.length<=sizeLine/\atI z.cps.toList i=some c/\Q (.str ⟨#[c]⟩) H
theorem ix_list:IxR X (rIxL X.K):=by
 intro value slice pins s σ H x y v u Q I rx ry h hs
 obtain ⟨p,xs,i,z,rfl,rfl,hq,he,q⟩:=h
 cases rx
 obtain ⟨t,rfl⟩:=ry
 obtain ⟨its,r,pl,hz⟩:=I.list hq
 obtain ⟨j,h1,h2,h3,h4,h5⟩:=atI_get he
 obtain ⟨w,ew,rw'⟩:=r.get h2
 have hl:=r.length
 have hn:=line63
 have fin:EP X pins σ Q w s:=⟨z,H,I,rw',q⟩
 by_cases h0:0<=i
 ·have hj:i.toNat=j:=by
   rw [seqIndex_of h0 h5] at h1
   exact Option.some.inj h1
  exact item_listR pl.isList h0 (by lia) (by rw [hj]; simpa using ew) fin hs
 ·have hj:(i+(its.toArray.size:Int)).toNat=j:=by
   rw [seqIndex_neg (by exact Int.not_le.mp ‹_›) h4] at h1
   rw [xau,<- hl]
   exact Option.some.inj h1
  exact subscriptTail_builtinR (x:=w) pl.isList.typeIs slot_list_getitem.lookup
   (wpAny_getItem_list_neg (Q:=fun r s'=>r=w/\EP X pins σ Q r s') pl.isList (by exact Int.not_le.mp ‹_›) (by rw [xau] <;> lia) (by lia) (by rw [hj]; simpa using ew) ⟨rfl,fin⟩) hs
theorem ix_tup:IxR X (rIxT X.K):=by
 intro value slice pins s σ H x y v u Q I rx ry h hs
 obtain ⟨p,xs,i,z,rfl,rfl,hq,he,q⟩:=h
 cases rx
 obtain ⟨t,rfl⟩:=ry
 obtain ⟨its,r,pl,hz⟩:=I.tuple hq
 obtain ⟨j,h1,h2,h3,h4,h5⟩:=atI_get he
 obtain ⟨w,ew,rw'⟩:=r.get h2
 have hl:=r.length
 have hn:=line63
 have fin:EP X pins σ Q w s:=⟨z,H,I,rw',q⟩
 exact subscriptTail_builtinR (x:=w) pl.typeIs slot_tuple_getitem.lookup
  (getItem_tuple (j:=j) (Q:=fun r s'=>r=w/\EP X pins σ Q r s') pl (by lia) (by lia) (by rw [xau,<- hl]; exact h1) (by simpa using ew) ⟨rfl,fin⟩) hs
theorem ix_str:IxR X rIxS:=by
 intro value slice pins s σ H x y v u Q I rx ry h hs
 obtain ⟨z,i,c,rfl,rfl,hz,he,q⟩:=h
 obtain ⟨t,rfl⟩:=rx
 obtain ⟨t',rfl⟩:=ry
 obtain ⟨j,h1,h2,h3,h4,h5⟩:=atI_get he
 have hl:z.cps.toList.length=z.length:=by simp [Str.length]
 rw [hl] at h1 h4 h5
 have hn:=line63
 exact tail_any (typeIs_str s z t) slot_str_getitem.lookup (getItem_str (c:=c) (by
  have e1:decide (i < -(2 ^ 63:Int))=false:=decide_eq_false (by lia)
  have e2:decide (i >= 2 ^ 63)=false:=decide_eq_false (by lia)
  rw [e1,e2,Bool.or_false]) (by rw [h1]; simpa using h2) ⟨.str ⟨#[c]⟩,H,I.tok _,⟨_,rfl⟩,q⟩) hs
def rIx (K:PySem.W.Frag):R2:=fun x y H Q=>rIxL K x y H Q\/rIxT K x y H Q\/rIxS x y H Q
theorem ix_seq:IxR X (rIx X.K):=ix_list.or (ix_tup.or ix_str)
theorem Inv.lst {pins:List (Addr × Obj)} {σ:St} {H:Hp} {s:Shared} {p:Addr} {xs:List V} (I:Inv X pins σ H s) (h:H p=some (.lst xs)) :
  ∃ (its:List Value) (n:Nat),Vals xs its/\s.heap.get? p=some { cls:=.type "list",data:=.seq its.toArray n }/\xs.length<=sizeLine:=by
 obtain ⟨z,its,n,r,e⟩:=I.hok p _ h
 exact ⟨its,n,r,e,z⟩
theorem slice_bounds (lo hi:Option Int) (n:Nat):(sliceBounds lo hi none n).1=((HT.sIx n 0 lo:Nat):Int)/\(sliceBounds lo hi none n).2.1=((HT.sIx n n hi:Nat):Int)/\(sliceBounds lo hi none n).2.2=1:=by
 refine ⟨?_,?_,rfl⟩
 ·cases lo with
  | none=>simp [sliceBounds,HT.sIx]
  | some i =>
   simp only [sliceBounds,HT.sIx,Option.getD_none,show (1:Int)>0 by decide,if_true]
   by_cases h:i<0
   ·simp only [h,if_true] <;> lia
   ·simp only [h,if_false] <;> lia
 ·cases hi with
  | none=>simp [sliceBounds,HT.sIx]
  | some i =>
   simp only [sliceBounds,HT.sIx,Option.getD_none,show (1:Int)>0 by decide,if_true]
   by_cases h:i<0
   ·simp only [h,if_true] <;> lia
   ·simp only [h,if_false] <;> lia
theorem slicePick_cut (its:List Value) (lo hi:Option Int):slicePick its.toArray lo hi none=((its.drop (HT.sIx its.length 0 lo)).take (HT.sIx its.length its.length hi - HT.sIx its.length 0 lo)).toArray:=by
 obtain ⟨h1,h2,h3⟩:=slice_bounds lo hi its.toArray.size
 unfold slicePick
 rw [h1,h2,h3]
 simp only [sliceRange_one,pick_run,xau] <;> rfl
def rSlL (K:PySem.W.Frag):V->Option Int->Option Int->Hp->VK->Prop:=fun x lo hi H Q=>∃ a xs,x=.ref a/\SqL K H a xs/\∀ p,H p=none->Q (.ref p) (upd H p (.lst (cutV xs lo hi)))
theorem sl_list:SlR X (rSlL X.K):=by
 intro pins s σ H x v vl vu lo hi sl Q I rx hs pl pu h
 obtain ⟨a,xs,rfl,hx,q⟩:=h
 cases rx
 obtain ⟨its,r,ht,hz⟩:=I.list hx
 have hlen:=r.length
 refine ⟨"list",_,slot_list_getitem.lookup,ht.isList.typeIs,?_⟩
 refine wpAny_getItem_list_slice ht.isList hs pl pu .none (by simp) ?_ (by rw [xau] <;> lia)
 rw [slicePick_cut,<- hlen]
 refine ⟨.ref s.heap.objs.size,_,I.laid (t':=s.toks) (o:=.lst (cutV xs lo hi)) (fun b ob q=>xal _ q) (xag _) ?_,rfl,q _ (I.hok.fresh (xag _))⟩
 exact ⟨xaB (cutV_length xs lo hi) hz,_,0,(r.drop (HT.sIx xs.length 0 lo)).take (HT.sIx xs.length xs.length hi - HT.sIx xs.length 0 lo),xaC _ rfl⟩
def flatV:V->Bool
 | .non=>true
 | .bl _=>true
 | .int _=>true
 | .str _=>true
 | _=>false
def eqV:V->V->Bool
 | .non,.non=>true
 | .bl a,.bl b=>a == b
 | .bl a,.int b=>(if a then 1 else 0) == b
 | .int a,.bl b=>a == (if b then 1 else 0)
 | .int a,.int b=>a == b
 | .str a,.str b=>a == b
 | _,_=>false
theorem eqAt_V {A:Around} {s:Shared} {y x:V} {u v:Value} (ry:RelV y u) (rx:RelV x v) (fy:flatV y=true) (fx:flatV x=true):SeqAt.EqAt A s u v (eqV y x):=by
 cases y with
 | non =>
  cases ry
  cases x with
  | non=>cases rx; exact SeqAt.EqAt.same _
  | bl b=>cases rx; exact SeqAt.EqAt.none_bool b
  | int b=>obtain ⟨t,rfl⟩:=rx; exact SeqAt.EqAt.none_int b t
  | str b=>obtain ⟨t,rfl⟩:=rx; exact SeqAt.EqAt.none_str b t
  | _=>exact absurd (show false=true from fx) xat
 | bl a =>
  cases ry
  cases x with
  | non=>cases rx; exact SeqAt.EqAt.bool_none a
  | bl b=>cases rx; exact SeqAt.EqAt.bool_bool a b
  | int b=>obtain ⟨t,rfl⟩:=rx; exact SeqAt.EqAt.bool_int a b t
  | str b=>obtain ⟨t,rfl⟩:=rx; exact SeqAt.EqAt.bool_str a b t
  | _=>exact absurd (show false=true from fx) xat
 | int a =>
  obtain ⟨t',rfl⟩:=ry
  cases x with
  | non=>cases rx; exact SeqAt.EqAt.int_none a t'
  | bl b=>cases rx; exact SeqAt.EqAt.int_bool a t' b
  | int b=>obtain ⟨t,rfl⟩:=rx; exact SeqAt.EqAt.int_int a t' b t
  | str b=>obtain ⟨t,rfl⟩:=rx; exact SeqAt.EqAt.int_str a t' b t
  | _=>exact absurd (show false=true from fx) xat
 | str a =>
  obtain ⟨t',rfl⟩:=ry
  cases x with
  | non=>cases rx; exact SeqAt.EqAt.str_none a t'
  | bl b=>cases rx; exact SeqAt.EqAt.str_bool a t' b
  | int b=>obtain ⟨t,rfl⟩:=rx; exact SeqAt.EqAt.str_int a t' b t
  | str b=>obtain ⟨t,rfl⟩:=rx; exact SeqAt.EqAt.str_str a t' b t
  | _=>exact absurd (show false=true from fx) xat
 | _=>exact absurd (show false=true from fy) xat
def eqU (x:V) (u:Value):Bool:=match u with
 | .none=>eqV .non x
 | .bool b=>eqV (.bl b) x
 | .int i _=>eqV (.int i) x
 | .str z _=>eqV (.str z) x
 | _=>false
theorem eqU_of {x y:V} {u:Value} (r:RelV y u) (f:flatV y=true):eqU x u=eqV y x:=by
 cases y with
 | non=>cases r; rfl
 | bl b=>cases r; rfl
 | int i=>obtain ⟨t,rfl⟩:=r; rfl
 | str z=>obtain ⟨t,rfl⟩:=r; rfl
 | _=>exact absurd (show false=true from f) xat
theorem any_eqU {x:V}:∀ {xs:List V} {us:List Value},Vals xs us->xs.all flatV=true->us.any (eqU x)=xs.any fun y=>eqV y x
 | _,_,.nil,_=>rfl
 | y :: xs,u :: us,.cons r t,f=>by
  rw [xbx,xaG] at f
  rw [xby,xby,eqU_of r f.1,any_eqU t f.2]
theorem mem_eqAt {A:Around} {s:Shared} {x:V} {v:Value} (rx:RelV x v) (fx:flatV x=true):∀ {xs:List V} {us:List Value},Vals xs us->xs.all flatV=true->∀ u∈us,SeqAt.EqAt A s u v (eqU x u)
 | _,_,.nil,_=>fun u hu=>by cases hu
 | y :: xs,u :: us,.cons r t,f=>fun u' hu=>by
  rw [xbx,xaG] at f
  rcases xaj.mp hu with rfl | hu
  ·rw [eqU_of r f.1]; exact eqAt_V r rx f.1 fx
  ·exact mem_eqAt rx fx t f.2 u' hu
def inV (x:V) (xs:List V):Bool:=xs.any fun y=>eqV y x
def rIn (K:PySem.W.Frag) (neg:Bool):R2:=fun x y H Q=>∃ p xs,y=.ref p/\(SqL K H p xs\/SqT K H p xs)/\flatV x=true/\xs.all flatV=true/\Q (.bl (if neg then !inV x xs else inV x xs)) H
theorem op_in_seq:OpR X (compareOp .In) (rIn X.K false):=by
 intro pins s σ H x y v u Q I rx ry h
 obtain ⟨p,xs,rfl,hq,fx,fs,q⟩:=h
 cases ry
 rcases hq with hq | hq
 ·obtain ⟨its,r,pl,hz⟩:=I.list hq
  refine SeqAt.in_listAt (eqU x) pl.isList (fun w hw=>mem_eqAt rx fx r fs w (by simpa using hw)) ⟨.bl _,H,I,rfl,?_⟩
  rw [show its.toArray.any (eqU x)=its.any (eqU x) by simp,any_eqU r fs]
  exact q
 ·obtain ⟨its,r,pl,hz⟩:=I.tuple hq
  refine SeqAt.in_tupleAt (eqU x) pl (fun w hw=>mem_eqAt rx fx r fs w (by simpa using hw)) ⟨.bl _,H,I,rfl,?_⟩
  rw [show its.toArray.any (eqU x)=its.any (eqU x) by simp,any_eqU r fs]
  exact q
theorem op_notIn_seq:OpR X (compareOp .NotIn) (rIn X.K true):=by
 intro pins s σ H x y v u Q I rx ry h
 obtain ⟨p,xs,rfl,hq,fx,fs,q⟩:=h
 cases ry
 rcases hq with hq | hq
 ·obtain ⟨its,r,pl,hz⟩:=I.list hq
  refine SeqAt.notIn_listAt (eqU x) pl.isList (fun w hw=>mem_eqAt rx fx r fs w (by simpa using hw)) ⟨.bl _,H,I,rfl,?_⟩
  rw [show its.toArray.any (eqU x)=its.any (eqU x) by simp,any_eqU r fs]
  exact q
 ·obtain ⟨its,r,pl,hz⟩:=I.tuple hq
  refine SeqAt.notIn_tupleAt (eqU x) pl (fun w hw=>mem_eqAt rx fx r fs w (by simpa using hw)) ⟨.bl _,H,I,rfl,?_⟩
  rw [show its.toArray.any (eqU x)=its.any (eqU x) by simp,any_eqU r fs]
  exact q
theorem CallR.or {f:Value} {r r':List V->Hp->VK->Prop} (h:CallR X f r) (h':CallR X f r'):CallR X f (fun xs H Q=>r xs H Q\/r' xs H Q):=by
 intro pins s σ H xs us Q I rs q
 rcases q with q | q
 ·exact h pins s σ H xs us Q I rs q
 ·exact h' pins s σ H xs us Q I rs q
theorem call_list_of:CallR X (.type "list") (fun xs H Q=>∃ p ys,xs=[.ref p]/\(SqL X.K H p ys\/SqT X.K H p ys)/\∀ l,H l=none->Q (.ref l) (upd H l (.lst ys))):=by
 intro pins s σ H xs us Q I r h
 obtain ⟨p,ys,rfl,hq,q⟩:=h
 obtain ⟨u,rfl,rx⟩:=vals1 r
 cases rx
 have fin:∀ (its:List Value),Vals ys its->ys.length<=sizeLine->∀ (h':Heap) (c':Nat),(∀ b o',s.heap.get? b=some o'->h'.get? b=some o') ->
   h'.get? s.heap.objs.size=some { cls:=.type "list",dict:=none,data:=.seq its.toArray c',slots:=#[] }->EP X pins σ Q (.ref s.heap.objs.size) { s with heap:=h' }:=fun its r' hz h' c' kp e =>
  ⟨.ref s.heap.objs.size,_,I.laid (t':=s.toks) kp (xag _) (show ObjOk X.prog X.w _ h' _ (.lst ys) from ⟨hz,its,c',r',e⟩),rfl,q _ (I.hok.fresh (xag _))⟩
 rcases hq with hq | hq
 ·obtain ⟨its,r',pl,hz⟩:=I.list hq
  have hlen:=r'.length
  obtain ⟨o,ho,hc,n,hd⟩:=pl.isList
  exact call_list_seq p (.inl rfl) ho hc hd (fun h' c' kp e=>fin its r' hz h' c' kp e) (by simp only [xau] <;> lia)
 ·obtain ⟨its,r',pl,hz⟩:=I.tuple hq
  have hlen:=r'.length
  obtain ⟨o,ho,hc,n,hd⟩:=pl
  exact call_list_seq p (.inr rfl) ho hc hd (fun h' c' kp e=>fin its r' hz h' c' kp e) (by simp only [xau] <;> lia)
def tyV (K:PySem.W.Frag) (T:String) (x:V) (H:Hp):Prop:=match x with
 | .str _=>T = "str"
 | .int _=>T = "int"
 | .ref p=>(T = "list"/\∃ xs,SqL K H p xs)\/(T = "tuple"/\∃ o,K.lookup p=some o/\o.cls=.type "tuple"/\o.dict=none) \/
   (T = "dict"/\((∃ kvs,H p=some (.dK kvs))\/∃ kvs,H p=some (.dT kvs)))\/(T = "set"/\∃ S n,H p=some (.set S n))
 | _=>False
theorem tyV_is {pins:List (Addr × Obj)} {σ:St} {H:Hp} {s:Shared} {T:String} {x:V} {v:Value} (I:Inv X pins σ H s) (r:RelV x v) (ty:tyV X.K T x H) :
  s.TypeIs v T/\∀ a,v=.ref a->∃ ob,s.heap.get? a=some ob/\ob.dict=none:=by
 cases x with
 | str z =>
  obtain ⟨t,rfl⟩:=r
  cases (show T = "str" from ty)
  exact ⟨typeIs_str s z t,fun _ e=>nomatch e⟩
 | int i =>
  obtain ⟨t,rfl⟩:=r
  cases (show T = "int" from ty)
  exact ⟨typeIs_int s i t,fun _ e=>nomatch e⟩
 | ref p =>
  cases r
  rcases ty with ⟨rfl,xs,hq⟩ | ⟨rfl,o,hk,hc,hd⟩ | ⟨rfl,hk⟩ | ⟨rfl,S,n,hk⟩
  ·obtain ⟨its,_,pl,_⟩:=I.list hq
   refine ⟨pl.isList.typeIs,fun a e=>?_⟩
   cases e
   obtain ⟨o,n,e,c,hd,_⟩:=pl
   exact ⟨o,e,hd⟩
  ·refine ⟨⟨o,I.kIn p o hk,hc⟩,fun a e=>?_⟩
   cases e
   exact ⟨o,I.kIn _ o hk,hd⟩
  ·have z:∃ o,s.heap.get? p=some o/\o.ExactDict:=by
    rcases hk with ⟨kvs,hk⟩ | ⟨kvs,hk⟩
    ·obtain ⟨_,_,_,_,o,_,_,e,ex,_⟩:=I.hok p _ hk
     exact ⟨o,e,ex⟩
    ·obtain ⟨_,_,_,_,o,_,_,e,ex,_⟩:=I.hok p _ hk
     exact ⟨o,e,ex⟩
   obtain ⟨o,e,ex⟩:=z
   refine ⟨⟨o,e,ex.1⟩,fun a e2=>?_⟩
   cases e2
   exact ⟨o,e,ex.2.1⟩
  ·obtain ⟨o,_,_,_,e,ex,_⟩:=I.hok p _ hk
   refine ⟨⟨o,e,ex.1⟩,fun a e2=>?_⟩
   cases e2
   exact ⟨o,e,ex.2.1⟩
 | _=>exact False.elim ty
def tBM (K:PySem.W.Frag) (T:String) (r:V->List V->Hp->VK->Prop) (to:TE) (t:TA):TE:=fun σ H Q=>to σ H fun x H1=>tyV K T x H1/\t σ H1 fun xs H2=>r x xs H2 Q
variable {o e:Expr} {es:List Expr} {to:TE} {t:TA} {name:Str} {apos cpos:Pos} {T id:String} {r:V->List V->Hp->VK->Prop}
theorem pe_bm (pa:PlainAttrs T) (slot:Slot T name id) (hty:typeOf (.builtin id)=pure (.type "method_descriptor")) (hm:MtR X id r) (ho:PE X o to) (ha:PA X (e :: es) t)
  (hbase:attributeBase o name X.env (eval o X.env)=eval o X.env:=by rfl)
  (hfew:((backTo cpos (starEach (e :: es) X.env)).all (fun x=>!x.1) && (backToKw cpos (keywordEach [] X.env)).all (fun x=>x.1.isSome)
   && decide ((e :: es).length+([]:List Keyword).length+(if ([]:List Keyword).isEmpty then 0 else 1)<30))=true:=by rfl)
  (hline:(apos.endLine == cpos.line)=true:=by rfl) (hs:starEach (e :: es) X.env=(false,eval e X.env) :: starEach es X.env:=by rfl) (hplain:(backTo cpos (starEach es X.env)).any (·.1)=false:=by rfl) :
  PE X (.Call (.Attribute o name apos) (e :: es) [] cpos) (tBM X.K T r to t):=by
 intro pins s σ H Q I h
 refine wpAny_Call_method_late hbase hfew hline rfl (thn (ho pins s σ H _ I h) fun v s1 hx9=>?_)
 obtain ⟨x,H1,I1,r1,ty,q1⟩:=hx9
 obtain ⟨h1,h2⟩:=tyV_is I1 r1 ty
 refine ⟨T,id,pa,slot,hty,h1,h2,?_⟩
 have hA:=ha cpos pins s1 σ H1 _ I1 q1
 rw [hs] at hA ⊢
 refine Calls.callWith_builtin (by show (false || (backTo cpos (starEach es X.env)).any (·.1))=false; rw [hplain] <;> rfl) (Calls.evalArgs_plain ?_)
 exact thn hA fun us s2 hx5=>L2.ex2 hx5 fun vs H2 I2 r2 q2=>hm pins s2 σ H2 x vs v us Q I2 r1 r2 q2
end
def MtM (X:Cx) (id:String) (r:V->List V->Hp->VK->Prop):Prop :=
 ∀ (pins:List (Addr × Obj)) (s:Shared) (σ:St) (H:Hp) (x:V) (xs:List V) (v:Value) (us:List Value) (Q:VK),Inv X pins σ H s->RelV x v->Vals xs us->r x xs H Q ->
  wpAny (model X.prog X.w) X.A (call (.builtin id) (v :: us)) (EP X pins σ Q) X.xe s
theorem Vals.one {x:V} {us:List Value} (h:Vals [x] us):∃ u,us=[u]/\RelV x u:=by
 cases h
 rename_i r h
 cases h
 exact ⟨_,rfl,‹_›⟩
theorem Vals.two {x y:V} {us:List Value} (h:Vals [x,y] us):∃ u v,us=[u,v]/\RelV x u/\RelV y v:=by
 cases h
 rename_i r h
 cases h
 rename_i q h
 cases h
 exact ⟨_,_,rfl,‹_›,‹_›⟩
theorem Vals.zero:∀ {us:List Value},Vals [] us->us=[]
 | _,.nil=>rfl
theorem Vals.dropLast {xs:List V} {us:List Value} (h:Vals xs us):Vals xs.dropLast us.dropLast:=by
 induction h with
 | nil=>exact .nil
 | cons r t ih =>
  cases t with
  | nil=>exact .nil
  | cons q t'=>exact .cons r ih
theorem Vals.eraseIdx:∀ {xs:List V} {us:List Value} (i:Nat),Vals xs us->Vals (xs.eraseIdx i) (us.eraseIdx i)
 | _,_,_,.nil=>.nil
 | _,_,0,.cons _ t=>t
 | _,_,i+1,.cons r t=>.cons r (Vals.eraseIdx i t)
theorem Vals.reverse {xs:List V} {us:List Value} (h:Vals xs us):Vals xs.reverse us.reverse:=by
 induction h with
 | nil=>exact .nil
 | cons r t ih=>rw [xbz,xbz]; exact Vals.append ih (.cons r .nil)
theorem Vals.rep {xs:List V} {us:List Value} (h:Vals xs us):∀ k:Nat,Vals (List.replicate k xs).flatten (List.replicate k us).flatten
 | 0=>.nil
 | k+1=>by
  rw [List.replicate_succ,List.replicate_succ,List.flatten_cons,List.flatten_cons]
  exact Vals.append h (Vals.rep h k)
section
variable {X:Cx} {pins:List (Addr × Obj)} {σ:St} {H:Hp} {s:Shared} {l:Addr} {xs ys:List V}
theorem Inv.lset {its its':List Value} {n:Nat} {f:Array Value->Array Value} {t':Nat} (I:Inv X pins σ H s) (hH:H l=some (.lst xs))
  (e:s.heap.get? l=some { cls:=.type "list",data:=.seq its.toArray n }) (hf:f its.toArray=its'.toArray) (hv:Vals ys its') (hz:ys.length<=sizeLine) :
  Inv X pins σ (upd H l (.lst ys)) { s with heap:=s.heap.update l (Obj.mapSeq f),toks:=t' }:=by
 have q:=PySem.IsL.update e f
 rw [hf] at q
 refine I.write (x:=l) (e:=l) (by rw [hH]; exact trivial) (.inl rfl) (fun b' u hb hu=>(xbe s.heap (Obj.mapSeq f) (Ne.symm hb)).trans hu) ⟨_,q⟩ ?_
 exact ⟨hz,its',_,hv,q⟩
theorem Inv.lnew {its:List Value} {t':Nat} (I:Inv X pins σ H s) (hv:Vals ys its) (hz:ys.length<=sizeLine) :
  Inv X pins σ (upd H s.heap.objs.size (.lst ys)) { s with heap:=s.heap.push { cls:=.type "list",data:=.seq its.toArray },toks:=t' } :=
 I.laid (fun _ _ q=>xal _ q) (xag _) ⟨hz,its,0,hv,xaC _ rfl⟩
theorem Inv.fresh (I:Inv X pins σ H s):H s.heap.objs.size=none:=I.hok.fresh (xag _)
theorem Inv.lstM (I:Inv X pins σ H s) (hH:H l=some (.lst xs)):xs.length<=sizeLine/\∃ (its:List Value) (n:Nat),Vals xs its/\xs.length=its.length/\s.heap.get? l=some { cls:=.type "list",data:=.seq its.toArray n }:=by
 obtain ⟨z,its,n,r,e⟩:=I.hok l _ hH
 exact ⟨z,its,n,r,r.length,e⟩
end
section
variable {X:Cx}
def rAppend:V->List V->Hp->VK->Prop:=fun x vs H Q=>∃ l xs y,x=.ref l/\vs=[y]/\H l=some (.lst xs)/\xs.length<sizeLine/\Q .non (upd H l (.lst (xs++[y])))
theorem mt_append:MtM X "list.append" rAppend:=by
 intro pins s σ H x vs v us Q I rx rv h
 obtain ⟨l,xs,y,rfl,rfl,hH,hz,q⟩:=h
 cases rx
 obtain ⟨u,rfl,ru⟩:=rv.one
 obtain ⟨z,its,n,r,hl,e⟩:=I.lstM hH
 refine call_meets F.slot_list_append ⟨_,e,rfl⟩ F.entry_list_append (F.args_list_append_2 _ _) (PySem.list_append l its.toArray n u (by rw [xau]; lia)) ⟨e,?_⟩
 refine ⟨.non,_,I.lset (its':=its++[u]) hH e (by simp) (r.append (.cons ru .nil)) ?_,rfl,q⟩
 rw [xaA,List.length_singleton]
 assumption
end
section
set_option maxRecDepth 100000 in
end
section
variable {κ:Type} [DecidableEq κ]
def valV (kvs:List (κ × V)) (k:κ):Option V:=(kvs.find? fun kv=>decide (kv.1=k)).map (·.2)
def putK (kvs:List (κ × V)) (k:κ) (v:V):List (κ × V) :=
 if (kvs.any fun kv=>decide (kv.1=k))=true then kvs.map (fun kv=>if kv.1=k then (kv.1,v) else kv) else kvs++[(k,v)]
def dropK (kvs:List (κ × V)) (k:κ):List (κ × V):=kvs.filter fun kv=>decide (kv.1≠k)
theorem valV_pos {p:κ × V} {r:List (κ × V)} {k:κ} (e:p.1=k):valV (p :: r) k=some p.2:=by simp [valV,xbH,e]
theorem valV_neg {p:κ × V} {r:List (κ × V)} {k:κ} (e:¬ p.1=k):valV (p :: r) k=valV r k:=by simp [valV,xbH,e]
theorem valV_any (k:κ):∀ kvs:List (κ × V),(kvs.any fun kv=>decide (kv.1=k))=(valV kvs k).isSome
 | []=>rfl
 | p :: r=>by
  rw [xby]
  by_cases e:p.1=k
  ·simp only [valV_pos e,decide_eq_true e,Bool.true_or,Option.isSome_some]
  ·rw [valV_neg e,decide_eq_false e,Bool.false_or]; exact valV_any k r
theorem valV_map (k j:κ) (y:V):∀ kvs:List (κ × V),valV (kvs.map fun kv=>if kv.1=k then (kv.1,y) else kv) j=(valV kvs j).map fun x=>if j=k then y else x
 | []=>rfl
 | p :: r=>by
  have ih:=valV_map k j y r
  rw [xas]
  by_cases h:p.1=k
  ·rw [if_pos h]
   by_cases e:p.1=j
   ·rw [valV_pos (p:=(p.1,y)) e,valV_pos e,xcg,if_pos (e.symm.trans h)]
   ·rw [valV_neg (p:=(p.1,y)) e,valV_neg e,ih]
  ·rw [if_neg h]
   by_cases e:p.1=j
   ·rw [valV_pos (p:=p) e,valV_pos e,xcg,if_neg (fun z=>h (e.trans z))]
   ·rw [valV_neg (p:=p) e,valV_neg e,ih]
theorem valV_snoc (k j:κ) (y:V):∀ kvs:List (κ × V),valV kvs k=none->valV (kvs++[(k,y)]) j=if j=k then some y else valV kvs j
 | [],_=>by
  by_cases e:k=j
  ·rw [if_pos e.symm]; exact valV_pos (p:=(k,y)) e
  ·rw [if_neg (fun z=>e z.symm)]; exact valV_neg (p:=(k,y)) e
 | p :: r,hn=>by
  rw [xb4]
  have hk:¬ p.1=k:=fun z=>by rw [valV_pos z] at hn; cases hn
  rw [valV_neg hk] at hn
  have ih:=valV_snoc k j y r hn
  by_cases e:p.1=j
  ·rw [valV_pos e,valV_pos e,if_neg (fun z=>hk (e.trans z))]
  ·rw [valV_neg e,valV_neg e,ih]
theorem valV_put (kvs:List (κ × V)) (k j:κ) (y:V):valV (putK kvs k y) j=if j=k then some y else valV kvs j:=by
 unfold putK
 by_cases a:(kvs.any fun kv=>decide (kv.1=k))=true
 ·rw [if_pos a,valV_map]
  rw [valV_any] at a
  by_cases e:j=k
  ·obtain ⟨x,hx⟩:=Option.isSome_iff_exists.mp a
   rw [if_pos e,e,hx,xcg,if_pos rfl]
  ·rw [if_neg e]
   cases valV kvs j with
   | none=>rfl
   | some x=>rw [xcg,if_neg e]
 ·rw [if_neg a]
  refine valV_snoc k j y kvs ?_
  rw [valV_any] at a
  cases q:valV kvs k with
  | none=>rfl
  | some x=>rw [q] at a; exact (a rfl).elim
theorem length_putK (kvs:List (κ × V)) (k:κ) (v:V):(putK kvs k v).length<=kvs.length+1:=by
 unfold putK
 split
 ·rw [xab]; exact xaU _ _
 ·rw [xaA,xaL,List.length_nil]; exact xag _
theorem RelO.isSome_eq {o:Option V} {u:Option Value} (r:RelO o u):o.isSome=u.isSome:=by
 cases o with
 | none=>cases u with
  | none=>rfl
  | some _=>exact (show False from r).elim
 | some _=>cases u with
  | none=>exact (show False from r).elim
  | some _=>rfl
theorem RelO.getD {o:Option V} {u:Option Value} {d:V} {d':Value} (r:RelO o u) (rd:RelV d d'):RelV (o.getD d) (u.getD d'):=by
 cases o with
 | none=>cases u with
  | none=>exact rd
  | some _=>exact (show False from r).elim
 | some _=>cases u with
  | none=>exact (show False from r).elim
  | some _=>exact r
theorem KV.val {kvs:List (κ × V)} {vs:List (κ × Value)} (r:KV kvs vs) (k:κ):RelO (valV kvs k) (valueAt vs k):=by
 unfold KV at r
 induction r with
 | nil=>exact True.intro
 | @cons p q ps qs h t ih =>
  obtain ⟨h1,h2⟩:=h
  by_cases e:p.1=k
  ·have e':q.1=k:=h1.symm.trans e
   have b:valueAt (q :: qs) k=some q.2:=by simp [valueAt,xbH,e']
   rw [valV_pos e,b]; exact h2
  ·have e':¬ q.1=k:=fun z=>e (h1.trans z)
   have b:valueAt (q :: qs) k=valueAt qs k:=by simp [valueAt,xbH,e']
   rw [valV_neg e,b]; exact ih
theorem KV.any {kvs:List (κ × V)} {vs:List (κ × Value)} (r:KV kvs vs) (k:κ):(kvs.any fun kv=>decide (kv.1=k))=vs.any fun kv=>decide (kv.1=k):=by
 unfold KV at r
 induction r with
 | nil=>rfl
 | cons h t ih=>rw [xby,xby,ih,h.1]
theorem KV.repl {kvs:List (κ × V)} {vs:List (κ × Value)} (r:KV kvs vs) (k:κ) {y:V} {u:Value} (ry:RelV y u) :
  KV (kvs.map fun kv=>if kv.1=k then (kv.1,y) else kv) (vs.map fun kv=>if kv.1=k then (kv.1,u) else kv):=by
 unfold KV at r ⊢
 induction r with
 | nil=>exact .nil
 | @cons p q ps qs h t ih =>
  rw [xas,xas]
  refine .cons ?_ ih
  obtain ⟨h1,h2⟩:=h
  by_cases e:p.1=k
  ·rw [if_pos e,if_pos (h1.symm.trans e)]; exact ⟨h1,ry⟩
  ·rw [if_neg e,if_neg (fun z=>e (h1.trans z))]; exact ⟨h1,h2⟩
theorem KV.put {kvs:List (κ × V)} {vs:List (κ × Value)} (r:KV kvs vs) (k:κ) {y:V} {u:Value} (ry:RelV y u):KV (putK kvs k y) (stored vs k u):=by
 unfold putK stored
 rw [r.any k]
 by_cases e:(vs.any fun kv=>decide (kv.1=k))=true
 ·rw [if_pos e,if_pos e]; exact r.repl k ry
 ·rw [if_neg e,if_neg e]; exact Paired.snoc r ⟨rfl,ry⟩
theorem KV.drop {kvs:List (κ × V)} {vs:List (κ × Value)} (r:KV kvs vs) (k:κ):KV (dropK kvs k) (without vs k):=by
 unfold KV at r ⊢
 unfold dropK without
 induction r with
 | nil=>exact .nil
 | @cons p q ps qs h t ih =>
  obtain ⟨h1,h2⟩:=h
  rw [List.filter_cons,List.filter_cons]
  by_cases e:p.1=k
  ·have a:¬ decide (p.1≠k)=true:=by simp [e]
   have b:¬ decide (q.1≠k)=true:=by simp [h1.symm.trans e]
   rw [if_neg a,if_neg b]; exact ih
  ·have e':¬ q.1=k:=fun z=>e (h1.trans z)
   have a:decide (p.1≠k)=true:=by simp [e]
   have b:decide (q.1≠k)=true:=by simp [e']
   rw [if_pos a,if_pos b]; exact .cons ⟨h1,h2⟩ ih
theorem KV.keys {kvs:List (κ × V)} {vs:List (κ × Value)} (r:KV kvs vs):kvs.map (·.1)=vs.map (·.1):=by
 unfold KV at r
 induction r with
 | nil=>rfl
 | cons h t ih=>rw [xas,xas,ih,h.1]
theorem KV.length {kvs:List (κ × V)} {vs:List (κ × Value)} (r:KV kvs vs):kvs.length=vs.length:=Paired.length r
end
theorem kV_is {P:Program} {w:World} {k:Key} {u:Value} (r:RelV (kV k) u):(mixKind P w).is k u=true:=by
 cases k with
 | inl i=>obtain ⟨t,e⟩:=(show ∃ t,u=Value.int i t from r); subst e; exact mixKind_int P w i t
 | inr x=>obtain ⟨t,e⟩:=(show ∃ t,u=Value.str x t from r); subst e; exact mixKind_str P w x t
theorem items_are {P:Program} {w:World}:∀ {ks:List Key} {us:List Value},Vals (ks.map kV) us->ItemsAre (mixKind P w) ks us
 | [],_,r=>by rw [List.map_nil] at r; cases r; exact .nil
 | k :: ks,_,r=>by
  rw [xas] at r
  cases r with
  | cons h t=>exact .cons (kV_is h) (items_are t)
abbrev KT (H:Hp):List (List Key × V)->List (List Key × Addr × Value)->Prop:=Paired fun p q=>p.1=q.1/\H q.2.1=some (.tup (p.1.map kV))/\RelV p.2 q.2.2
theorem KT.val {H:Hp} {kvs:List (List Key × V)} {xs:List (List Key × Addr × Value)} (r:KT H kvs xs) (k:List Key):RelO (valV kvs k) ((atKey xs k).map (·.2)):=by
 induction r with
 | nil=>exact True.intro
 | @cons p q ps qs h t ih =>
  obtain ⟨h1,_,h2⟩:=h
  by_cases e:p.1=k
  ·have e':q.1=k:=h1.symm.trans e
   have b:atKey (q :: qs) k=some q.2:=by simp [atKey,xbH,e']
   rw [valV_pos e,b]; exact h2
  ·have e':¬ q.1=k:=fun z=>e (h1.trans z)
   have b:atKey (q :: qs) k=atKey qs k:=by simp [atKey,xbH,e']
   rw [valV_neg e,b]; exact ih
theorem KT.repl {H:Hp} {kvs:List (List Key × V)} {xs:List (List Key × Addr × Value)} (r:KT H kvs xs) (k:List Key) {y:V} {u:Value} (ry:RelV y u) :
  KT H (kvs.map fun kv=>if kv.1=k then (kv.1,y) else kv) (xs.map (putAt k u)):=by
 induction r with
 | nil=>exact .nil
 | @cons p q ps qs h t ih =>
  rw [xas,xas]
  refine .cons ?_ ih
  obtain ⟨h1,h2,h3⟩:=h
  unfold putAt
  by_cases e:p.1=k
  ·rw [if_pos e,if_pos (h1.symm.trans e)]; exact ⟨h1,h2,ry⟩
  ·rw [if_neg e,if_neg (fun z=>e (h1.trans z))]; exact ⟨h1,h2,h3⟩
theorem KT.put {H:Hp} {kvs:List (List Key × V)} {xs:List (List Key × Addr × Value)} (r:KT H kvs xs) (k:List Key) {b:Addr} {y:V} {u:Value} (hb:H b=some (.tup (k.map kV))) (ry:RelV y u) :
  KT H (putK kvs k y) (storedH xs k b u):=by
 have e:(kvs.any fun kv=>decide (kv.1=k))=(atKey xs k).isSome:=by
  rw [valV_any,(r.val k).isSome_eq,xco]
 unfold putK storedH
 rw [e]
 by_cases q:(atKey xs k).isSome=true
 ·rw [if_pos q,if_pos q]; exact r.repl k ry
 ·rw [if_neg q,if_neg q]; exact Paired.snoc r ⟨rfl,hb,ry⟩
theorem KT.keeps {H H':Hp} {kvs:List (List Key × V)} {xs:List (List Key × Addr × Value)} (r:KT H kvs xs) (ht:∀ b ys,H b=some (.tup ys)->H' b=some (.tup ys)):KT H' kvs xs :=
 Paired.mapP r fun _ _ z=>⟨z.1,ht _ _ z.2.1,z.2.2⟩
section
variable {P:Program} {w:World} {H:Hp} {h:Heap} {a:Addr}
theorem rd_of {u:HO} (ok:HOk P w H h) (e:Rd H a u):ObjOk P w H h a u:=e.ok ok
theorem dk_rd {kvs:List (Key × V)} (ok:HOk P w H h) (e:Rd H a (.dK kvs)):kvs.length<=sizeLine/\(a == sysModules)=false/\∃ vs,KV kvs vs/\h.DictOf (mixKind P w) a vs :=
 show ObjOk P w H h a (.dK kvs) from rd_of ok e
theorem dk_of {kvs:List (Key × V)} (ok:HOk P w H h) (e:H a=some (.dK kvs)):kvs.length<=sizeLine/\(a == sysModules)=false/\∃ vs,KV kvs vs/\h.DictOf (mixKind P w) a vs:=dk_rd ok (.inl e)
theorem key_of {ks:List Key} (ok:HOk P w H h) (e:H a=some (.tup (ks.map kV))):(tupleKind (mixKind P w)).is h ks a:=by
 obtain ⟨_,its,r,o,h1,h2,n,h3⟩:=(show ObjOk P w H h a (.tup (ks.map kV)) from ok a _ e)
 exact ⟨o,its.toArray,n,h1,h2,h3,by simpa using items_are r⟩
theorem dt_rd {kvs:List (List Key × V)} (ok:HOk P w H h) (e:Rd H a (.dT kvs)):kvs.length<=sizeLine/\(a == sysModules)=false /\
  ∃ xs,KT H kvs xs/\h.DictOfH (tupleKind (mixKind P w)) a xs:=by
 obtain ⟨z,y,xs,r,o,es,ep,h1,h2,h3,h4,h5⟩:=(show ObjOk P w H h a (.dT kvs) from rd_of ok e)
 refine ⟨z,y,xs,r,o,es,ep,h1,h2,h3,h4,fun x hx=>?_,h5⟩
 have all:∀ {l:List (List Key × V)} {m:List (List Key × Addr × Value)},KT H l m->∀ x∈m,(tupleKind (mixKind P w)).is h x.1 x.2.1:=by
  intro l m q
  induction q with
  | nil=>intro x hx; exact nomatch hx
  | @cons p q ps qs hq t ih =>
   intro x hx
   rcases xaj.mp hx with e | hx
   ·subst e
    exact key_of ok (by rw [<- hq.1]; exact hq.2.1)
   ·exact ih x hx
 exact all r x hx
theorem dt_of {kvs:List (List Key × V)} (ok:HOk P w H h) (e:H a=some (.dT kvs)):kvs.length<=sizeLine/\(a == sysModules)=false /\
  ∃ xs,KT H kvs xs/\h.DictOfH (tupleKind (mixKind P w)) a xs:=dt_rd ok (.inl e)
end
def DGet (H:Hp) (a:Addr) (y:V) (r:Option V):Prop :=
 (∃ kvs k,Rd H a (.dK kvs)/\y=kV k/\r=valV kvs k)\/∃ kvs k b,Rd H a (.dT kvs)/\y=.ref b/\H b=some (.tup (k.map kV))/\r=valV kvs k
def DPut (H:Hp) (a:Addr) (y v:V) (H':Hp):Prop :=
 (∃ kvs k,H a=some (.dK kvs)/\y=kV k/\kvs.length<sizeLine/\H'=upd H a (.dK (putK kvs k v))) \/
 ∃ kvs k b,H a=some (.dT kvs)/\y=.ref b/\H b=some (.tup (k.map kV))/\kvs.length<sizeLine/\H'=upd H a (.dT (putK kvs k v))
theorem DGet.k {H:Hp} {a:Addr} {kvs:List (Key × V)} {k:Key} (e:H a=some (.dK kvs)):DGet H a (kV k) (valV kvs k):=.inl ⟨kvs,k,.inl e,rfl,rfl⟩
theorem DGet.t {H:Hp} {a b:Addr} {kvs:List (List Key × V)} {k:List Key} (e:H a=some (.dT kvs)) (eb:H b=some (.tup (k.map kV))):DGet H a (.ref b) (valV kvs k):=.inr ⟨kvs,k,b,.inl e,rfl,eb,rfl⟩
theorem DPut.k {H:Hp} {a:Addr} {kvs:List (Key × V)} {k:Key} {v:V} (e:H a=some (.dK kvs)) (hl:kvs.length<sizeLine):DPut H a (kV k) v (upd H a (.dK (putK kvs k v))):=.inl ⟨kvs,k,e,rfl,hl,rfl⟩
theorem DPut.t {H:Hp} {a b:Addr} {kvs:List (List Key × V)} {k:List Key} {v:V} (e:H a=some (.dT kvs)) (eb:H b=some (.tup (k.map kV))) (hl:kvs.length<sizeLine) :
  DPut H a (.ref b) v (upd H a (.dT (putK kvs k v))):=.inr ⟨kvs,k,b,e,rfl,eb,hl,rfl⟩
section
variable {X:Cx} {pins:List (Addr × Obj)} {σ:St} {H:Hp} {s:Shared} {a:Addr} {y v:V} {u r:Value} {o:Option V} {A:Around} {E:Value->Shared->Prop}
theorem Inv.big (I:Inv X pins σ H s):sysModules<s.heap.objs.size:=by
 have h:mainGlobals<s.heap.objs.size:=(I.mod.glob.keeps I.bk).lt
 exact Nat.lt_trans (by decide) h
theorem d_getItem {Q:Value->Shared->Prop} (hu:A.units+1<cLine) (I:Inv X pins σ H s) (g:DGet H a y (some v)) (ry:RelV y u) (h:∀ w' s',Inv X pins σ H s'->RelV v w'->Q w' s') :
  wpAny (model X.prog X.w) A (getItem (.ref a) u) Q E s:=by
 rcases g with ⟨kvs,k,e,ey,l⟩ | ⟨kvs,k,b,e,ey,eb,l⟩
 ·subst ey
  obtain ⟨z,hd,vs,rel,dd⟩:=dk_rd I.hok e
  obtain ⟨w',hw,rw'⟩:=RelO.some_of (v:=v) (o:=valueAt vs k) (by rw [l]; exact rel.val k)
  exact wpAny_getItem_of (kV_is ry) dd.mapOf hw (h w' _ (I.tok _) rw')
 ·subst ey
  cases (show u=Value.ref b from ry)
  obtain ⟨z,hd,xs,rel,dd⟩:=dt_rd I.hok e
  obtain ⟨w',hw,rw'⟩:=RelO.some_of (v:=v) (o:=(atKey xs k).map (·.2)) (by rw [l]; exact rel.val k)
  obtain ⟨p,hp,hp2⟩:=xbp.mp hw
  refine wpAny_getItem_heap (tupleKind_room_in1 hu) (key_of I.hok eb) dd hp ?_
  rw [hp2]
  exact h w' _ (I.tok _) rw'
theorem d_in {Q:Value->Shared->Prop} (hu:A.units+1<cLine) (I:Inv X pins σ H s) (g:DGet H a y o) (ry:RelV y u) (h:∀ s',Inv X pins σ H s'->Q (.bool o.isSome) s') :
  wpAny (model X.prog X.w) A (compareOp .In u (.ref a)) Q E s:=by
 rcases g with ⟨kvs,k,e,ey,l⟩ | ⟨kvs,k,b,e,ey,eb,l⟩
 ·subst ey
  obtain ⟨z,hd,vs,rel,dd⟩:=dk_rd I.hok e
  refine wpAny_in_of (kV_is ry) hd dd.mapOf ?_
  rw [<- (rel.val k).isSome_eq,<- l]
  exact h _ (I.tok _)
 ·subst ey
  cases (show u=Value.ref b from ry)
  obtain ⟨z,hd,xs,rel,dd⟩:=dt_rd I.hok e
  refine wpAny_in_heap (tupleKind_room_in1 hu) (key_of I.hok eb) hd dd ?_
  have q:=(rel.val k).isSome_eq
  rw [xco] at q
  rw [<- q,<- l]
  exact h _ (I.tok _)
theorem d_notIn {Q:Value->Shared->Prop} (hu:A.units+1<cLine) (I:Inv X pins σ H s) (g:DGet H a y o) (ry:RelV y u) (h:∀ s',Inv X pins σ H s'->Q (.bool (!o.isSome)) s') :
  wpAny (model X.prog X.w) A (compareOp .NotIn u (.ref a)) Q E s:=by
 rcases g with ⟨kvs,k,e,ey,l⟩ | ⟨kvs,k,b,e,ey,eb,l⟩
 ·subst ey
  obtain ⟨z,hd,vs,rel,dd⟩:=dk_rd I.hok e
  refine wpAny_notIn_of (kV_is ry) hd dd.mapOf ?_
  rw [<- (rel.val k).isSome_eq,<- l]
  exact h _ (I.tok _)
 ·subst ey
  cases (show u=Value.ref b from ry)
  obtain ⟨z,hd,xs,rel,dd⟩:=dt_rd I.hok e
  refine wpAny_notIn_heap (tupleKind_room_in1 hu) (key_of I.hok eb) hd dd ?_
  have q:=(rel.val k).isSome_eq
  rw [xco] at q
  rw [<- q,<- l]
  exact h _ (I.tok _)
theorem d_write {h':Heap} {t':Nat} {ob:HO} (I:Inv X pins σ H s) (mu:Mut (H a)) (hs:Heap.SameBut a s.heap h') (he:∃ q,h'.get? a=some q) (new:ObjOk X.prog X.w (upd H a ob) h' a ob) :
  Inv X pins σ (upd H a ob) { s with heap:=h',toks:=t' } :=
 I.write (x:=a) (e:=a) mu (.inl rfl) (fun b q hb z=>(hs.2 b hb).trans z) he new
theorem dk_new {P:Program} {w:World} {H':Hp} {h':Heap} {kvs:List (Key × V)} {vs:List (Key × Value)} (z:kvs.length<=sizeLine) (hd:(a == sysModules)=false) (rel:KV kvs vs) (dd:h'.DictOf (mixKind P w) a vs) :
  ObjOk P w H' h' a (.dK kvs):=⟨z,hd,vs,rel,dd⟩
theorem d_setItem {H':Hp} {Q:Unit->Shared->Prop} (hu:A.units+1<cLine) (I:Inv X pins σ H s) (g:DPut H a y v H') (ry:RelV y u) (rv:RelV v r) (h:∀ s',Inv X pins σ H' s'->Q () s') :
  wpAny (model X.prog X.w) A (setItem (.ref a) u r) Q E s:=by
 rcases g with ⟨kvs,k,e,ey,l,eH⟩ | ⟨kvs,k,b,e,ey,eb,l,eH⟩
 ·subst ey eH
  obtain ⟨z,hd,vs,rel,dd⟩:=dk_of I.hok e
  have hz:vs.length<=sizeLine:=by rw [<- rel.length]; exact z
  have hl:(putK kvs k v).length<=sizeLine:=by have:=length_putK kvs k v; walk_at "s1"
  refine wpAny_setItem_pairs (hsz:=hz) (kV_is ry) dd fun h' dd' hs=>h _ ?_
  have he:∃ q,h'.get? a=some q:=let ⟨q,_,_,hq,_⟩:=dd'; ⟨q,hq⟩
  exact d_write I (by rw [e]; exact True.intro) hs he (dk_new hl hd (rel.put k rv) dd')
 ·subst ey eH
  cases (show u=Value.ref b from ry)
  obtain ⟨z,hd,xs,rel,dd⟩:=dt_of I.hok e
  have hz:xs.length<=sizeLine:=by rw [<- Paired.length rel]; exact z
  have hl:(putK kvs k v).length<=sizeLine:=by have:=length_putK kvs k v; walk_at "s1"
  refine wpAny_setItem_heap (hsz:=hz) (tupleKind_room_in1 hu) (key_of I.hok eb) dd fun h' dd' hs=>h _ ?_
  obtain ⟨q,es,ep,hq,h2,h3,h4,_,h5⟩:=dd'
  refine d_write I (by rw [e]; exact True.intro) hs ⟨q,hq⟩ ⟨hl,hd,_,(rel.put k eb rv).keeps fun c ys ec=>?_,q,es,ep,hq,h2,h3,h4,h5⟩
  rw [upd_ne (ne_of ec e (fun z=>nomatch z))]
  exact ec
end
section
variable {X:Cx} {pins:List (Addr × Obj)} {σ:St} {H:Hp} {s:Shared} {a:Addr} {kvs:List (Key × V)} {A:Around} {E:Value->Shared->Prop}
theorem d_len {Q:Value->Shared->Prop} (I:Inv X pins σ H s) (e:Rd H a (.dK kvs)) (h:∀ t s',Inv X pins σ H s'->Q (.int kvs.length t) s'):wpAny (model X.prog X.w) A (call (.builtin "len") [.ref a]) Q E s:=by
 obtain ⟨z,hd,vs,rel,dd⟩:=dk_rd I.hok e
 refine call_len_dict hd dd (by rw [<- rel.length]; rw [sizeLine_eq] at z; lia) ?_
 rw [<- rel.length]
 exact h _ _ (I.tok _)
end
theorem dict_typeIs {X:Cx} {pins:List (Addr × Obj)} {σ:St} {H:Hp} {s:Shared} {a:Addr} {y:V} {o:Option V} (I:Inv X pins σ H s) (g:DGet H a y o):s.TypeIs (.ref a) "dict" := by
 rcases g with ⟨kvs,k,e,_,_⟩ | ⟨kvs,k,b,e,_,_,_⟩
 ·obtain ⟨_,_,vs,_,dd⟩:=dk_rd I.hok e
  exact dd.typeIs
 ·obtain ⟨_,_,xs,_,dd⟩:=dt_rd I.hok e
  exact dd.typeIs
def sDPut (td ty tv:TE):TS:=fun D σ H=>tv σ H fun v H1=>td σ H1 fun x H2=>ty σ H2 fun y H3=>∃ a H4,x=.ref a/\DPut H3 a y v H4/\D.nx σ H4
section
variable {X:Cx} {o i value:Expr} {pos pos':Pos} {td ty tv:TE}
theorem ps_dput (hu:X.A.units+1<cLine) (ho:PE X o td) (hi:PE X i ty) (hv:PE X value tv) (hs:swapsWith value (some (.Subscript o i pos')) pos.line X.env=pure false) :
  PS X (.Assign [.Subscript o i pos'] value pos) (sDPut td ty tv):=by
 intro pins s σ H D I h
 refine wpAny_Assign_Subscript (thn (hv pins s σ H _ I h) fun r s1 hx5=>L2.ex2 hx5 fun v H1 I1 rv q1=>thn (ho pins s1 σ H1 _ I1 q1) fun u s2 hx5=>L2.ex2 hx5 fun x H2 I2 rx q2=>thn (hi pins s2 σ H2 _ I2 q2) fun iv s3 hx9=>?_) hs
 obtain ⟨y,H3,I3,ry,a,H4,ex,g,q3⟩:=hx9
 subst ex
 obtain rfl:u=Value.ref a:=rx
 exact d_setItem hu I3 g ry rv fun s4 I4=>⟨σ,H4,I4,q3⟩
end
theorem dt_empty {P:Program} {w:World} {H:Hp} (h:Heap) (hb:sysModules<h.objs.size):ObjOk P w H (h.push { cls:=.type "dict",data:=.dict #[] }) h.objs.size (.dT []) :=
 ⟨xap _,beq_eq_false_iff_ne.mpr (Ne.symm (xaw hb)),[],.nil,_,#[],0,xaC _ rfl,⟨rfl,rfl,rfl⟩,rfl,rfl,xaO⟩
def tDNewT:TE:=fun _ H Q=>∀ p,H p=none->Q (.ref p) (upd H p (.dT []))
section
variable {X:Cx} {pos:Pos}
theorem pe_dnewT:PE X (.Dict [] [] pos) tDNewT:=fun pins s σ H Q I h =>
 wpAny_Dict_empty ⟨.ref s.heap.objs.size,_,I.laid (a:=s.heap.objs.size) (o:=.dT []) (t':=s.toks) (fun _ _ q=>xal _ q) (xag _) (dt_empty s.heap I.big),rfl,h _ (I.hok.fresh (xag _))⟩
end
def mergeK (kvs more:List (Key × V)):List (Key × V):=more.foldl (fun acc kv=>putK acc kv.1 kv.2) kvs
theorem KV.merge:∀ {more:List (Key × V)} {rs:List (Key × Value)} {kvs:List (Key × V)} {vs:List (Key × Value)},KV more rs->KV kvs vs->KV (mergeK kvs more) (merged vs rs):=by
 intro more rs kvs vs r
 unfold KV at r
 induction r generalizing kvs vs with
 | nil=>intro q; exact q
 | @cons p q ps qs h t ih =>
  intro r0
  have e:KV (putK kvs p.1 p.2) (stored vs q.1 q.2):=by
   have:=r0.put p.1 h.2
   rw [<- h.1]; exact this
  exact ih e
structure M1 (X:Cx) (o:Expr) (m:Str) (apos:Pos) (e:Expr) (cpos:Pos):Prop where
 base:attributeBase o m X.env (eval o X.env)=eval o X.env
 few:((backTo cpos (starEach [e] X.env)).all (fun x=>!x.1) && (backToKw cpos (keywordEach [] X.env)).all (fun x=>x.1.isSome)
  && decide (([e]:List Expr).length+([]:List Keyword).length+(if ([]:List Keyword).isEmpty then 0 else 1)<30))=true
 line:(apos.endLine == cpos.line)=true
 trees:backTo cpos (starEach [e] X.env)=[(false,eval e X.env)]
structure M2 (X:Cx) (o:Expr) (m:Str) (apos:Pos) (e f:Expr) (cpos:Pos):Prop where
 base:attributeBase o m X.env (eval o X.env)=eval o X.env
 few:((backTo cpos (starEach [e,f] X.env)).all (fun x=>!x.1) && (backToKw cpos (keywordEach [] X.env)).all (fun x=>x.1.isSome)
  && decide (([e,f]:List Expr).length+([]:List Keyword).length+(if ([]:List Keyword).isEmpty then 0 else 1)<30))=true
 line:(apos.endLine == cpos.line)=true
 trees:backTo cpos (starEach [e,f] X.env)=[(false,eval e X.env),(false,eval f X.env)]
def IsD (H:Hp) (a:Addr):Prop:=(∃ kvs,Rd H a (.dK kvs))\/∃ kvs,Rd H a (.dT kvs)
theorem isD_at {X:Cx} {pins:List (Addr × Obj)} {σ:St} {H:Hp} {s:Shared} {a:Addr} (I:Inv X pins σ H s) (d:IsD H a) :
  s.TypeIs (.ref a) "dict"/\(∀ b,Value.ref a=.ref b->∃ ob,s.heap.get? b=some ob/\ob.dict=none)/\(a == sysModules)=false:=by
 rcases d with ⟨kvs,e⟩ | ⟨kvs,e⟩
 ·obtain ⟨_,hd,vs,_,dd⟩:=dk_rd I.hok e
  refine ⟨dd.typeIs,fun b q=>?_,hd⟩
  cases q
  obtain ⟨ob,_,_,h1,h2,_⟩:=dd
  exact ⟨ob,h1,h2.2.1⟩
 ·obtain ⟨_,hd,xs,_,dd⟩:=dt_rd I.hok e
  refine ⟨dd.typeIs,fun b q=>?_,hd⟩
  cases q
  obtain ⟨ob,_,_,h1,h2,_⟩:=dd
  exact ⟨ob,h1,h2.2.1⟩
section
variable {X:Cx} {pins:List (Addr × Obj)} {σ:St} {H:Hp} {s:Shared} {a:Addr} {y d:V} {u r:Value} {o:Option V} {A:Around} {E:Value->Shared->Prop}
theorem d_get2 {Q:Value->Shared->Prop} (hu:A.units+1<cLine) (I:Inv X pins σ H s) (g:DGet H a y o) (ry:RelV y u) (rd:RelV d r) (h:∀ w' s',Inv X pins σ H s'->RelV (o.getD d) w'->Q w' s') :
  wpAny (model X.prog X.w) A (call (.builtin "dict.get") [.ref a,u,r]) Q E s:=by
 rcases g with ⟨kvs,k,e,ey,l⟩ | ⟨kvs,k,b,e,ey,eb,l⟩
 ·subst ey
  obtain ⟨z,hd,vs,rel,dd⟩:=dk_rd I.hok e
  refine call_meetsIn PySem.F.slot_dict_get dd.typeIs PySem.F.entry_dict_get (PySem.F.args_dict_get_3 _ _ _) (meets_dict_get_default (mixKind X.prog X.w) a (kV_is ry) hd r) ⟨_,dd.mapOf,h _ _ (I.tok _) ?_⟩
  rw [l]
  exact (rel.val k).getD rd
 ·subst ey
  cases (show u=Value.ref b from ry)
  obtain ⟨z,hd,xs,rel,dd⟩:=dt_rd I.hok e
  refine call_meetsIn PySem.F.slot_dict_get dd.typeIs PySem.F.entry_dict_get (PySem.F.args_dict_get_3 _ _ _) (meetsH_dict_get_default (tupleKind (mixKind X.prog X.w)) a b hd r) ⟨tupleKind_room_in1 hu,k,xs,key_of I.hok eb,dd,h _ _ (I.tok _) ?_⟩
  rw [l]
  exact (rel.val k).getD rd
end
def tDGet2 (td ty tx:TE):TE:=fun σ H Q=>td σ H fun x H1=>∃ a,x=.ref a/\IsD H1 a/\ty σ H1 fun y H2=>tx σ H2 fun z H3=>∃ o,DGet H3 a y o/\Q (o.getD z) H3
section
variable {X:Cx} {o e f:Expr} {apos cpos:Pos} {td ty tx:TE}
theorem pe_dget2 (hu:X.A.units+1<cLine) (ho:PE X o td) (he:PE X e ty) (hf:PE X f tx) (m:M2 X o "get" apos e f cpos):PE X (.Call (.Attribute o "get" apos) [e,f] [] cpos) (tDGet2 td ty tx):=by
 intro pins s σ H Q I h
 refine wpAny_Call_method m.base m.few m.line PySem.F.plainAttrs_dict PySem.F.slot_dict_get PySem.F.type_dict_get (thn (ho pins s σ H _ I h) fun u s1 hx9=>?_)
 obtain ⟨x,H1,I1,rx,a,ex,d,q1⟩:=hx9
 subst ex
 obtain rfl:u=Value.ref a:=rx
 obtain ⟨t1,t2,_⟩:=isD_at I1 d
 refine ⟨t1,t2,?_⟩
 rw [m.trees]
 refine Calls.callWith_builtin rfl (Calls.evalArgs_plain (Calls.spliced_cons (thn (he pins s1 σ H1 _ I1 q1) fun iv s2 hx5=>L2.ex2 hx5 fun y H2 I2 ry q2 =>
  Calls.spliced_cons (thn (hf pins s2 σ H2 _ I2 q2) fun fv s3 ⟨z,H3,I3,rz,ov,g,q3⟩=>Calls.spliced_nil ?_))))
 exact d_get2 hu I3 g ry rz fun w' s4 I4 rw'=>⟨_,H3,I4,rw',q3⟩
end
end L2
namespace Att
open PySem PySem.W PySem.Calls PyProof.Rows
theorem ints_of_wellAll {P:Params} {h:Heap}:∀ (ns:List Int) (vs:List Value),WellAll P h vs (ns.map WData.int)->IntsAre vs ns:=by
 intro ns
 induction ns with
 | nil =>
  intro vs w
  rw [List.map_nil] at w
  cases w
  exact .nil
 | cons n ns ih =>
  intro vs w
  rw [xas] at w
  cases w with
  | cons a b =>
   cases a
   exact .cons _ _ (ih _ b)
theorem script_of {l:OpenLaw} {n:Nat} (hn:l.most=some n) {P:Params} {h:Heap} {args:List WData} {vals:List Value}
  (hpre:l.row.toRowW.claim.pre args=true) (hwl:WellAll P h vals args) :
  ∃ a vs ns,vals=[Value.ref a]/\args=[WData.list (ns.map WData.int)]/\h.get? a=some { cls:=.type "list",data:=.seq vs.toArray }/\IntsAre vs ns/\ns.length<=n:=by
 have hsh:WShape.hasAll [] args [.list .int]=true:=(pre_splitW hpre).1
 have hc:l.pre.holds [] { args:=args }=true:=(pre_splitW hpre).2
 obtain ⟨d,r,rfl,h1,h2⟩:=hasAllW_cons hsh
 obtain rfl:=hasAllW_nil h2
 obtain ⟨xs,rfl,h3⟩:=hasW_list h1
 obtain ⟨ns,rfl⟩:=items_int h3
 have hlen:ns.length<=n:=by
  unfold OpenLaw.pre at hc
  have h4:(WTm.not (.lt (.lit (.int (n:Int))) (.len (.arg 0)))).holds [] { args:=[.list (ns.map .int)] }=true:=by
   have h4:=(holds_andW hc).1
   rw [hn] at h4
   exact h4
  have h5:=condW_of h4 (w_not (w_lt w_lit (w_len_list (w_arg rfl))))
  rw [xab] at h5
  refine xaM fun q=>?_
  have q':(n:Int)<((ns.length:Nat):Int):=by lia
  first
   | (rw [decide_eq_true q'] at h5; exact absurd h5 (by decide))
   | (simp at h5; lia)
 cases hwl with
 | cons w1 w2 =>
  cases w2
  cases w1 with
  | list ho hall=>exact ⟨_,_,ns,rfl,rfl,ho,ints_of_wellAll ns _ hall,hlen⟩
theorem post_true (l:OpenLaw) (args:List WData):l.row.toRowW.claim.post args (.bool true) args=true :=
 postW_of (r:=l.row.toRowW) (X:=(true == true))
  (show WShape.has [] (.bool true) .bool=true by first | rfl | decide | simp [WShape.has,WShape.arms,WShape.armsAll])
  (show (WTm.eq .res (.lit (.bool true))).value [] { args:=args,res:=some (.bool true),after:=args }=some (.bool (true == true)) from w_eq_bool (w_res rfl) w_lit) rfl
theorem attach_call {l:OpenLaw} {n:Nat} {q:Program} {loose:List Str} {XP:(Str->Option Value)->Heap->Prop} {YP:World->Heap->Prop} {d:DefRec}
  (hn:l.most=some n) (hdf:d.params.defaults=[])
  (call:∀ (w:World) (s₀ s₁:Shared) (mg mb:Str->Option Value) (fa:Addr) (o:Obj) (pm cd doc:Value) (a:Addr) (vs:List Value) (ns:List Int),
   Ground q loose [] XP w s₀ mg mb s₁.heap->YP w s₁.heap ->
   s₁.heap.get? fa=some o->o.data=.func (docDef d.name d.params d.body d.scope pm cd doc)->s₁.heap.CodeRec cd d.name->mg d.name=some (.ref fa) ->
   s₁.heap.get? a=some { cls:=.type "list",data:=.seq vs.toArray }->IntsAre vs ns->ns.length<=n->s₁.gens = #[] ->
   codeAny (model l.prog w) callerA (.call (.ref fa) ⟨[.ref a],[]⟩) (fun r s'=>r=.ok (.ret (.bool true))/\OldK s₁.heap s'.heap/\s'.os=s₁.os/\AllBare s'.gens) s₁) :
  WalkO q loose XP YP l.row.toRowW d [] (fun f vs=>PySem.call f vs):=by
 intro w s₀ s₁ mg mb G Y fa o pm cd doc dV kV ho hd hcd hD hmg hg args vals as hpre hlay hrd hwl hlo
 obtain rfl:dV=.none:=Dflts.none hD hdf
 obtain rfl:kV=.none:=Dflts.noKw hD
 obtain ⟨a,vs,ns,rfl,rfl,hobj,hints,hlen⟩:=script_of hn hpre hwl
 refine enter_call (codeAny_mono (call w s₀ s₁ mg mb fa o pm cd doc a vs ns G Y ho (fd_plain hd) hcd hmg hobj hints hlen hg) fun r s' hq=>?_)
 obtain ⟨rfl,h2,h3,h4⟩:=hq
 exact ⟨.inl ⟨.bool true,.bool true,[],rfl,fun _=>rfl,.bool true,post_true l _,fun _=>⟨List.Pairwise.nil,fun _ hm=>(nomatch hm)⟩⟩,h2,h3,h4⟩
end Att
namespace L2
open PySem PySem.Spec PyProof.Rows
theorem vals_ints:∀ {vs:List Value} {ns:List Int},IntsAre vs ns->Vals (ns.map V.int) vs
 | _,_,.nil=>.nil
 | _,_,.cons n t h=>.cons ⟨t,rfl⟩ (vals_ints h)
def Only (H:Hp):Prop:=∀ b,H b=none\/∃ o xs,H b=some (.frz o (.lst xs))
theorem law_call {P:Program} {w:World} {K:PySem.W.Frag} {mg mb:Str->Option Value} {CX:CXT} {k:Nat} {fa a:Addr} {fd:FuncData} {x:Str} {sp:Sp} {s₁:Shared} {vs:List Value} {ns:List Int}
  (KX:K.In s₁.heap) (hns:s₁.heap.Ns mainGlobals mg) (hb:s₁.heap.Ns builtinsNs mb) (hbb:∀ x:Str,x ≠ "__name__"->mb x=bootBuiltins x) (hlim:s₁.heap.NoLimit) (hg:s₁.gens = #[])
  (ha:s₁.heap.get? a=some { cls:=.type "list",data:=.seq vs.toArray }) (hi:IntsAre vs ns) (hl:ns.length<=sizeLine) (hr:Room k callerA)
  (F:∀ base:Heap,K.In base->base.Ns mainGlobals mg->FnOk P w K mg base CX k fa fd [x] sp) (hbind:∀ (s:Shared) (u:Value),BindsTo s fd ⟨[u],[]⟩ [(x,u)])
  (hsp:∀ H:Hp,Only H->SqL K H a (ns.map V.int)->sp [.ref a] H (fun v _=>v=.bl true) fun _ _ _=>False)
  (hCX:∀ H e s',CX [] H s₁ (fun _ _ _=>False) e s'->False) :
  codeAny (model P w) callerA (.call (.ref fa) ⟨[.ref a],[]⟩) (fun r s'=>r=.ok (.ret (.bool true))/\OldK s₁.heap s'.heap/\s'.os=s₁.os/\AllBare s'.gens) s₁:=by
 have rv:=vals_ints hi
 have lenV:=hi.length
 -- from an abstract heap in which nothing but the script may be tracked
 have core:∀ H:Hp,Only H->SqL K H a (ns.map V.int)->HOk P w H s₁.heap->(∀ b,H b≠none->b=a)->(H a≠none->K.lookup a=none) ->
   codeAny (model P w) callerA (.call (.ref fa) ⟨[.ref a],[]⟩) (fun r s'=>r=.ok (.ret (.bool true))/\OldK s₁.heap s'.heap/\s'.os=s₁.os/\AllBare s'.gens) s₁:=by
  intro H hO hS hok hA hK
  have base_of:∀ {b:Addr} {o:Obj},s₁.heap.get? b=some o->H b=none->(hidT s₁.heap H).get? b=some o:=fun e n=>hidT_get e n
  have noA:∀ {b:Addr} {o:Obj} {es:Array DictEntry} {ep:Nat},s₁.heap.get? b=some o->o.data=.dict es ep->H b=none:=fun {b o es ep} e d=>by
   cases q:H b with
   | none=>rfl
   | some u =>
    have e':b=a:=hA b (by rw [q]; simp)
    subst e'
    rw [ha] at e; cases e
    have d':Data.seq vs.toArray _=Data.dict es ep:=d
    cases d'
  have nsK:∀ {b:Addr} {m:Str->Option Value},s₁.heap.Ns b m->(hidT s₁.heap H).Ns b m:=fun {b m} ⟨o,es,ep,e,d,r⟩=>⟨o,es,ep,base_of e (noA e d),d,r⟩
  have hKb:K.In (hidT s₁.heap H):=fun b o e=>base_of (KX b o e) (by
   cases q:H b with
   | none=>rfl
   | some u =>
    have e':b=a:=hA b (by rw [q]; simp)
    subst e'
    rw [hK (by rw [q]; simp)] at e; cases e)
  have hM:Mod K mg (hidT s₁.heap H):=⟨hKb,nsK hns,⟨mb,nsK hb,hbb⟩,let ⟨mc,h1,h2⟩:=hlim; ⟨mc,nsK h1,h2⟩⟩
  have e0:Env0 P w K mg (hidT s₁.heap H) callerA [] s₁ H:=⟨rfl,hM,fun b o e=>of_hidT e,xbK (hidT_size _ _),trivial,fun b hb=>absurd (show b∈([]:List Addr) from hb) (by simp),hok,.of_eq hg⟩
  refine codeAny_mono ((F _ hKb (nsK hns)).run callerA [] s₁ H ⟨[.ref a],[]⟩ [.ref a] [.ref a] _ _ hr e0 (hbind s₁ (.ref a)) (.cons rfl .nil) (hsp H hO hS)) fun r s' h=>?_
  cases r with
  | error e=>exact (hCX H e s' h).elim
  | ok fl =>
   cases fl with
   | next=>exact False.elim h
   | brk=>exact False.elim h
   | cont=>exact False.elim h
   | ret u =>
    obtain ⟨v,H',os,bare,un,hok',r',q⟩:=h
    have q':v=.bl true:=q
    subst q'
    obtain rfl:u=Value.bool true:=r'
    refine ⟨rfl,OldK.of_keep fun b o e=>?_,os,bare⟩
    cases q:H b with
    | none=>exact un.keep b o e q (by intro z; exact absurd (show b∈([]:List Addr) from z) (by simp)) (by simp)
    | some u =>
     rcases hO b with z | ⟨ob,xs,z⟩
     ·rw [q] at z; cases z
     ·have z2:=un.frzs b ob _ z
      obtain ⟨e1,_⟩:=hok b _ z
      obtain ⟨e2,_⟩:=hok' b _ z2
      rw [e] at e1; cases e1
      exact e2
 cases hk:K.lookup a with
 | some o =>
  -- the script is one of the module's own objects
  have e:=KX a o hk
  rw [ha] at e
  cases e
  refine core (fun _=>none) (fun _=>.inl rfl) (.inr ⟨_,vs.toArray,_,hk,rfl,rfl,rfl,by rw [xau,lenV]; exact hl,by simpa using rv⟩) (fun b u z=>by have z':(none:Option HO)=some u:=z; cases z') (fun b z=>absurd rfl z) fun z=>absurd rfl z
 | none =>
  refine core (fun b=>if b=a then some (.frz { cls:=.type "list",data:=.seq vs.toArray } (.lst (ns.map V.int))) else none) (fun b=>?_) (.inl (.inr ⟨{ cls:=.type "list",data:=.seq vs.toArray },if_pos rfl⟩)) (fun b u z=>?_) (fun b z=>?_) fun _=>hk
  ·by_cases hb:b=a
   ·exact .inr ⟨_,_,if_pos hb⟩
   ·exact .inl (if_neg hb)
  ·by_cases hb:b=a
   ·have z':=(if_pos hb).symm.trans z
    cases z'
    subst hb
    exact ⟨ha,by rw [xab]; exact hl,vs,_,rv,ha⟩
   ·have z':=(if_neg hb).symm.trans z
    cases z'
  ·by_cases hb:b=a
   ·exact hb
   ·exact absurd (if_neg hb) z
theorem walk_of {l:PySem.W.OpenLaw} {n k:Nat} {q:Program} {loose:List Str} {XP:(Str->Option Value)->Heap->Prop} {YP:World->Heap->Prop} {d:DefRec} {K:Params->PySem.W.Frag} {CX:World->CXT} {sp:World->Sp} {x:Str}
  (hn:l.most=some n) (hn2:n<=sizeLine) (hdf:d.params.defaults=[]) (hr:Room k callerA)
  (hY:∀ (w:World) (h:Heap),YP w h->(K w.params).In h)
  (F:∀ (w:World) (mg:Str->Option Value) (fa:Addr) (h:Heap),(K w.params).In h->h.Ns mainGlobals mg->mg d.name=some (.ref fa) ->
   ∃ fd:FuncData,(∀ (s:Shared) (u:Value),BindsTo s fd ⟨[u],[]⟩ [(x,u)]) /\
    ∀ base:Heap,(K w.params).In base->base.Ns mainGlobals mg->FnOk l.prog w (K w.params) mg base (CX w) k fa fd [x] (sp w))
  (hsp:∀ (w:World) (H:Hp) (a:Addr) (ns:List Int),ns.length<=n->Only H->SqL (K w.params) H a (ns.map V.int)->sp w [.ref a] H (fun v _=>v=.bl true) fun _ _ _=>False)
  (hCX:∀ (w:World) (H:Hp) (s:Shared) (e:Value) (s':Shared),CX w [] H s (fun _ _ _=>False) e s'->False) :
  PySem.W.WalkO q loose XP YP l.row.toRowW d [] (fun f vs=>PySem.call f vs):=by
 refine Att.attach_call hn hdf fun w s₀ s₁ mg mb fa o pm cd doc a vs ns G Y ho hd hcd hmg hobj hints hlen hg=>?_
 have KX:=hY w _ Y
 obtain ⟨fd,hb,hF⟩:=F w mg fa _ KX G.T.g hmg
 exact law_call KX G.T.g G.T.b G.T.builtins G.T.nolimit hg hobj hints (xaB hlen hn2) hr hF hb (fun H hO hS=>hsp w H a ns hlen hO hS) fun H e s'=>hCX w H s₁ e s'
def defArgs (s:Stmt):Arguments:=match s with
 | .FunctionDef _ a _ _ _ _ _ _ _ _=>a
 | _=>{ posonlyargs:=[],args:=[],vararg:=none,kwonlyargs:=[],kw_defaults:=[],kwarg:=none,defaults:=[] }
def defBody (s:Stmt):List Stmt:=match s with
 | .FunctionDef _ _ b _ _ _ _ _ _ _=>b
 | _=>[]
def defScope (s:Stmt):Scope:=match s with
 | .FunctionDef _ _ _ _ _ _ sc _ _ _=>sc
 | _=>{ kind:=.function,names:=[],isGenerator:=false,isCoroutine:=false }
abbrev CX0:CXT:=fun _ _ _ _ _ _=>False
abbrev E0:XK:=fun _ _ _=>False
theorem pass0 {X:Cx}:Passes CX0 X E0:=fun _ _ _ _ _ _ _ h=>h.elim
structure Fun (K:PySem.W.Frag) (x qual:Str) (st:Stmt) (f:Addr) (fd:FuncData):Prop where
 ex:∃ (oc:Value) (od:Option Addr) (kV doc pm:Value) (an:Option Addr) (cdv ct:Value) (osl:Array (Option Value)),
  fd=PySem.W.fnOf x qual (defArgs st) (defBody st) (defScope st) .none kV doc pm an cdv ct/\K.lookup f=some ⟨oc,od,.func fd,osl⟩/\PySem.W.codeIn K cdv qual=true
 kp:PySem.W.keepIn K (.ref f)=true
section
variable {P:Program} {w:World} {K:PySem.W.Frag} {mg:Str->Option Value} {base:Heap}
theorem Fun.ok {x qual:Str} {st:Stmt} {f:Addr} {fd:FuncData} {N ps:List Str} {k:Nat} {sp:Sp} (F:Fun K x qual st f fd) (S:FnScope N ps (defScope st)) (len:∀ vs H Q E,sp vs H Q E->vs.length=ps.length)
  (hbody:∀ (cdv:Value) (A:Around) (outer:List Env) (s:Shared) (H:Hp) (vs:List V) (Q:VK) (E:XK),Room k (A.deeper (envOfC qual (defScope st) s.heap.objs.size f cdv))->sp vs H Q E ->
   ∃ t,PSs (cxOf CX0 P w K mg base N qual (defScope st) f cdv A outer s H E).nox (defBody st) t/\t { nx:=fun _ H'=>Q .non H',rt:=Q } (start N vs) H):FnOk P w K mg base CX0 (k+1) f fd ps sp:=by
 obtain ⟨oc,od,kV,doc,pm,an,cdv,ct,osl,rfl,lk,hcd⟩:=F.ex
 refine fn_of lk hcd S len fun A outer s H vs Q E hr hsp=>?_
 obtain ⟨t,h,q⟩:=hbody cdv A outer s H vs Q E hr hsp
 exact ⟨t,h.nox,q⟩
theorem Fun.binds {x qual:Str} {st:Stmt} {f:Addr} {fd:FuncData} {ps:List Str} (F:Fun K x qual st f fd)
  (h:∀ (kV doc pm:Value) (an:Option Addr) (cdv ct:Value) (us:List Value),us.length=ps.length->bindArgs (PySem.W.fnOf x qual (defArgs st) (defBody st) (defScope st) .none kV doc pm an cdv ct) ⟨us,[]⟩=pure (ps.zip us)):Binds K fd ps []:=by
 obtain ⟨oc,od,kV,doc,pm,an,cdv,ct,osl,rfl,lk,hcd⟩:=F.ex
 exact .all (h kV doc pm an cdv ct)
theorem fun_mk {x qual:Str} {st:Stmt} {f:Addr} {oc:Value} {od an:Option Addr} {osl:Array (Option Value)} {kV doc pm cdv ct:Value} (l:K.lookup f=some ⟨oc,od,.func (PySem.W.fnOf x qual (defArgs st) (defBody st) (defScope st) .none kV doc pm an cdv ct),osl⟩)
  (c:PySem.W.codeIn K cdv qual=true) (k:PySem.W.keepIn K (.ref f)=true):Fun K x qual st f (PySem.W.fnOf x qual (defArgs st) (defBody st) (defScope st) .none kV doc pm an cdv ct):=⟨⟨oc,od,kV,doc,pm,an,cdv,ct,osl,rfl,l,c⟩,k⟩
end
section
variable {X:Cx}
theorem pv (i:Nat) {x:Str} {pos:Pos} (hN:X.N[i]? = some x:=by rfl) (hv:Vis X.env.scope x:=by first | exact Or.inl rfl | exact Or.inr (Or.inl rfl) | exact Or.inr (Or.inr rfl)) (hd:(x == ("__debug__" : Str))=false:=by decide)
  (hcd:(x == ("__classdict__" : Str))=false:=by decide):PE X (.Name x pos) (tVar i):=pe_var hN hv hd hcd
end
def Same (H H':Hp):Prop:=∀ b o,H b=some o->H' b=some o
theorem Same.refl (H:Hp):Same H H:=fun _ _ h=>h
theorem Same.trans {H H1 H2:Hp} (a:Same H H1) (b:Same H1 H2):Same H H2:=fun c o h=>b c o (a c o h)
theorem Same.free {H H':Hp} (e:Same H H') {l:Addr} (h:H' l=Option.none):H l=Option.none:=by
 cases q:H l with
 | none=>rfl
 | some o =>
  rw [e l o q] at h
  cases h
theorem Same.seq {K:PySem.W.Frag} {H H':Hp} {a:Addr} {xs:List V} (e:Same H H') (h:SqL K H a xs):SqL K H' a xs:=by
 rcases h with (h | ⟨o,h⟩) | h
 ·exact .inl (.inl (e _ _ h))
 ·exact .inl (.inr ⟨o,e _ _ h⟩)
 ·exact .inr h
end L2
set_option maxHeartbeats 4000000
namespace L2
open PySem PySem.Spec PyProof.Rows
def clOf (env:Env):List (Str × NameKind)->List (Str × Addr)->List (Str × Addr)
 | [],cs=>cs
 | (n,k) :: r,cs=>clOf env r (if k == NameKind.free then (n,(env.cells.lookup n).getD 0) :: cs else cs)
theorem g_ (env:Env):∀ (names:List (Str × NameKind)) (cs:List (Str × Addr)),(∀ y∈names,y.2=.free->∃ c,env.cells.lookup y.1=some c) ->
  (forIn names cs fun x r=>match x with
   | (name,kind)=>if (kind == NameKind.free)=true then do let a <- cellOf env name; pure (ForInStep.yield ((name,a) :: r)) else pure (ForInStep.yield r):Sem (List (Str × Addr)))=pure (clOf env names cs)
 | [],cs,_=>rfl
 | (n,k) :: r,cs,h=>by
  rw [List.forIn_cons]
  have ih:=g_ env r
  by_cases hk:k=.free
  ·subst hk
   obtain ⟨c,e⟩:=h (n,.free) xad rfl
   have e:env.cells.lookup n=some c:=e
   have e2:cellOf env n=pure c:=by unfold cellOf; rw [e]
   have e3:clOf env ((n,.free) :: r) cs=clOf env r ((n,c) :: cs):=by
    show clOf env r (if (NameKind.free == NameKind.free)=true then (n,(env.cells.lookup n).getD 0) :: cs else cs)=_
    rw [e]; rfl
   rw [e3,<- ih ((n,c) :: cs) fun y hy=>h y (xac _ hy)]
   simp only [beq_self_eq_true,if_true,e2]
   rfl
  ·have hb:(k == NameKind.free)=false:=by simpa using hk
   have e3:clOf env ((n,k) :: r) cs=clOf env r cs:=by
    show clOf env r (if (k == NameKind.free)=true then _ else cs)=_
    rw [hb]; rfl
   rw [e3,<- ih cs fun y hy=>h y (xac _ hy)]
   simp only [hb,xaq,if_false]
   rfl
theorem mZ {scope:Scope} {env:Env} (h:∀ y∈scope.names,y.2=.free->∃ c,env.cells.lookup y.1=some c):closureFor scope env=pure (clOf env scope.names []):=by
 have:=g_ env scope.names [] h
 unfold closureFor
 rw [<- bind_pure (forIn scope.names [] _)] at this
 exact this
theorem nH {env:Env} {x:Str} {c:Addr}:∀ {names:List (Str × NameKind)} {cs:List (Str × Addr)},(∀ y∈names,y.2=.free->∃ c,env.cells.lookup y.1=some c)->(∀ y d,cs.lookup y=some d->env.cells.lookup y=some d) ->
  (clOf env names cs).lookup x=some c->env.cells.lookup x=some c
 | [],cs,_,h,e=>h x c e
 | (n,k) :: r,cs,hf,h,e=>by
  refine nH (names:=r) (fun y hy=>hf y (xac _ hy)) ?_ e
  intro y d hd
  by_cases hk:k=.free
  ·subst hk
   obtain ⟨c',e'⟩:=hf (n,.free) xad rfl
   have e':env.cells.lookup n=some c':=e'
   simp only [beq_self_eq_true,if_true,e',Option.getD_some,xct] at hd
   cases hb:y == n with
   | true=>rw [hb] at hd; have:y=n:=eq_of_beq hb; subst this; rw [e']; exact hd
   | false=>rw [hb] at hd; exact h y d hd
  ·have hb:(k == NameKind.free)=false:=by simpa using hk
   simp only [hb,xaq,if_false] at hd
   exact h y d hd
theorem jx {env:Env} {x:Str}:∀ {names:List (Str × NameKind)} {cs:List (Str × Addr)},((x,NameKind.free)∈names\/∃ c,cs.lookup x=some c)->∃ c,(clOf env names cs).lookup x=some c
 | [],cs,h=>by
  rcases h with h | h
  ·exact nomatch h
  ·exact h
 | (n,k) :: r,cs,h=>by
  refine jx (names:=r) ?_
  rcases h with h | ⟨c,h⟩
  ·rcases xaj.mp h with e | h
   ·cases e
    refine .inr ⟨(env.cells.lookup x).getD 0,?_⟩
    simp only [beq_self_eq_true,if_true,xct]
   ·exact .inl h
  ·refine .inr ?_
   by_cases hk:(k == NameKind.free)=true
   ·simp only [hk,if_true,xct]
    cases hb:x == n with
    | true=>exact ⟨_,rfl⟩
    | false=>exact ⟨c,h⟩
   ·simp only [hk,if_false]
    exact ⟨c,h⟩
def bj (X:Cx) (scope:Scope) (C:Addr) (N:List Str) (fp:List Addr) (s₃:Shared) (H₃:Hp):Cx :=
 { X with N:=N,s₀:=s₃,H₀:=H₃,env:=compEnvC scope (clOf X.env scope.names []) C X.env,outer:=X.stack,stack:=X.stack,ex:=fp,fn:=fun _=>false,pn:=[],xe:=fun _ _=>False }
def PTs (X:Cx) (ifs:List Expr) (t:TT):Prop :=
 ∀ (pins:List (Addr × Obj)) (s:Shared) (σ:St) (H:Hp) (Q:Bool->Hp->Prop),Inv X pins σ H s->t σ H Q ->
  wpAny (model X.prog X.w) X.A (forIn ifs true fun c r=>if r=true then do let ok <- isTrue c X.env (eval c X.env); pure (ForInStep.yield ok) else pure (ForInStep.yield r)) (TP X pins σ Q) X.xe s
def tYes:TT:=fun _ H Q=>Q true H
theorem zJ {X:Cx}:PTs X [] tYes:=fun _ _ _ H _ I h=>wpAny_tests_nil ⟨H,I,h⟩
theorem y_ {X:Cx} {c:Expr} {t:TT} (h:PT X c t):PTs X [c] t:=fun pins s σ H Q I hw=>wpAny_tests_one (h pins s σ H Q I hw)
theorem fX {prog:Program} {w:World} {A:Around} {R:Result->Shared->Prop} {s:Shared} {elt target iter:Expr} {ifs:List Expr} {scope:Scope} {pos:Pos} {it acc:Value} {env:Env} (I:Nat->Shared->Prop) (E:Value->Shared->Prop)
  (turn:∀ n s,I n s->wpAny (model prog w) A (pyNext it) (fun r s₁=>match r with
   | none=>R (.ok .next) s₁
   | some v=>wpAny (model prog w) A (letOwnedTupleGo target it v) (fun _ s₀=>wpAny (model prog w) A (assign target env v) (fun _ s₂ =>
     wpAny (model prog w) A (forIn ifs true fun c r=>if r=true then do let ok <- isTrue c env (eval c env); pure (ForInStep.yield ok) else pure (ForInStep.yield r)) (fun ok s₃ =>
      if ok=true then wpAny (model prog w) A (eval elt env) (fun x s₄ =>
       wpAny (model prog w) A (call (.builtin "list.append") [acc,x]) (fun _ s₅=>∃ m,m<n/\I m s₅) E s₄) E s₃
      else ∃ m,m<n/\I m s₃) E s₂) E s₀) E s₁) E s)
  (hE:∀ e s',E e s'->notedBy (model prog w) A env (fun e s'=>R (.error e) s') e s')
  (n:Nat) (h:I n s) :
  codeAny (model prog w) A (.compLoop (.ListComp elt [⟨target,iter,ifs,0⟩] scope pos) 0 it acc env) R s:=by
 refine codeAny_loop rfl I (fun n s hI=>?_) n h
 show wpAny _ A ((compTurn (.ListComp elt [⟨target,iter,ifs,0⟩] scope pos) 0 it acc env).onRaise (fun x=>do noteFrame x env; theTreesLotGoes x)) _ _ s
 refine wpAny_noted ?_
 rw [compTurn_list]
 refine xaZ (Q:=_) (E:=E) ?_ (fun _ _ q=>q) hE
 refine xaa (wpAny_standAt (xaa (xaZ (turn n s hI) (fun r s₁ h₁=>?_) fun _ _ h'=>h')))
 cases r with
 | none=>exact xaf h₁
 | some v =>
  refine xaa (xaZ h₁ (fun _ s₀ h₀=>?_) fun _ _ h'=>h')
  refine xaa (xaZ h₀ (fun _ s₂ h₂=>xaa (xaZ h₂ (fun ok s₃ h₃=>?_) fun _ _ h'=>h')) fun _ _ h'=>h')
  cases ok with
  | false=>exact xaf ⟨rfl,h₃⟩
  | true =>
   exact xaa (xaa (xaZ h₃ (fun x s₄ h₄=>xaa (xaZ h₄ (fun _ s₅ h₅=>xaf (xaf ⟨rfl,h₅⟩)) fun _ _ h'=>h')) fun _ _ h'=>h'))
def ni (tn:Nat) (ix:List Nat) (σ:St):St:=List.replicate tn none++ix.map fun j=>(σ[j]?).join
def vz (wi:TI) (g:TG) (tc:TT) (te:TE) (tn:Nat) (ix:List Nat):TE:=fun σ H Q=>wi σ H fun J H1=>∀ D,H1 D=none ->
 ∃ W:Nat->Nat->St->Hp->Prop,(∃ m,W 0 m (ni tn ix σ) (upd H1 D (.lst [])))/\∀ i m τ H,W i m τ H ->
  (J.stop i H/\Q (.ref D) H)\/(J.go i H/\∃ (N1:St->V->Hp->Prop) (N2:St->Hp->Prop),
   (∀ τ2 v H4,N1 τ2 v H4->∃ ys m',H4 D=some (.lst ys)/\ys.length<sizeLine/\m'<m/\W (i+1) m' τ2 (upd H4 D (.lst (ys++[v])))) /\
   (∀ τ2 H3,N2 τ2 H3->∃ m',m'<m/\W (i+1) m' τ2 H3) /\
   ∀ x H',J.yld i H x H'->g x τ H' fun τ2 H2=>tc τ2 H2 fun b H3=>if b=true then te τ2 H3 (N1 τ2) else N2 τ2 H3)
section
variable {X:Cx} {tg iter elt:Expr} {ifs:List Expr} {scope:Scope} {pos:Pos} {wi:TI} {g:TG} {tc:TT} {te:TE} {tn cn:List Str} {ix:List Nat}
structure bL (X:Cx) (scope:Scope) (tn cn:List Str) (ix:List Nat):Prop where
 kind:scope.kind=.function
 nocell:∀ y∈scope.names,y.2≠.cell
 free:∀ y∈scope.names,y.2=.free->X.env.scope.names.lookup y.1=some .cell\/X.env.scope.names.lookup y.1=some .free
 names:∀ y∈scope.names,y.2=.local->scope.names.lookup y.1=some .local
 len:ix.length=cn.length
 cap:∀ (k j:Nat),ix[k]? = some j->∃ y,cn[k]? = some y/\X.N[j]? = some y/\(X.env.scope.names.lookup y=some .cell\/X.env.scope.names.lookup y=some .free)/\(y,NameKind.free)∈scope.names /\
  ((relabel scope X.env).names.lookup y=some .cell\/(relabel scope X.env).names.lookup y=some .free)
 all:∀ x,(relabel scope X.env).names.lookup x=some .cell\/(relabel scope X.env).names.lookup x=some .free->(x,NameKind.free)∈scope.names
theorem uh {pins:List (Addr × Obj)} {σ:St} {H:Hp} {s:Shared} {fp:List Addr} {C:Addr} (O:bL X scope tn cn ix) (I:Inv X pins σ H s) (hf:∀ b∈fp,FpOk X pins H b) (hfs:∀ b∈fp,b<s.heap.objs.size) (hC:s.heap.objs.size<=C) :
  (bj X scope C (tn++cn) fp s H).Ok:=by
 have hcl:∀ y∈scope.names,y.2=.free->∃ c,X.env.cells.lookup y.1=some c:=fun y hy hk=>I.ok.has y.1 (O.free y hy hk)
 have sub:∀ x c,(clOf X.env scope.names []).lookup x=some c->X.env.cells.lookup x=some c:=fun x c e=>nH hcl (fun y d h=>by simp at h) e
 refine ⟨I.ok.mod,O.kind,I.ok.glob,I.ok.blt,hC,fun x y c h1 h2=>I.ok.inj x y c (sub x c h1) (sub y c h2),fun x hx=>jx (.inl (O.all x hx)),(fun x c h _=>nomatch h),I.ok.hd,I.ok.frames,.inl rfl,fun b hb=>⟨?_,fun x c e=>?_⟩,
  I.bs,xaB I.ok.bsz I.sz,fun b o e hb=>?_,fun b hb=>?_,I.stack,I.stkFree⟩
 ·exact xaw (xav (hfs b hb) hC)
 ·exact (hf b hb).2.2.2.2.1 x c (sub x c e)
 ·rcases (hf b hb).2.2.2.1 with z | z
  ·exact I.ok.noex b o e z
  ·exact absurd (xav (xak e) (xaB I.ok.bsz z)) (xa0 _)
 ·intro hz
  rcases xaj.mp (I.stkSub b hz) with e | e
  ·exact (hf b hb).2.1 e
  ·exact (hf b hb).2.2.1 e
theorem rD {pos1:Pos} {use:Option (Value->Sem Unit)} {P:Value->Shared->Prop} (hc:X.calm=true) (hi:PI X tg iter wi) (O:bL X scope tn cn ix)
  (hg:∀ C fp s₃ H₃,PG (bj X scope C (tn++cn) fp s₃ H₃) tg g) (hcs:∀ C fp s₃ H₃,PTs (bj X scope C (tn++cn) fp s₃ H₃) ifs tc) (he:∀ C fp s₃ H₃,PE (bj X scope C (tn++cn) fp s₃ H₃) elt te)
  (hs:∀ x,foldedSetIterable iter X.env x=pure x) {pins:List (Addr × Obj)} {s:Shared} {σ:St} {H:Hp} {Q:V->Hp->Prop} (I:Inv X pins σ H s) (h:vz wi g tc te tn.length ix σ H Q)
  (fin:∀ (C D:Addr) (m:Str->Option Value) (H5:Hp) (s6:Shared) (r:Flow),Inv X pins σ H5 s6->s6.heap.Ns C m->H5 C=none->FpOk X pins H5 C->Q (.ref D) H5->compPost (model X.prog X.w) X.A X.xe use P (.ref D) C (.ok r) s6) :
  wpAny (model X.prog X.w) X.A (comprehension (.ListComp elt [⟨tg,iter,ifs,0⟩] scope pos) scope X.env pos1 (newList []) false (eval iter X.env) use) P X.xe s:=by
 have hcl:∀ y∈scope.names,y.2=.free->∃ c,X.env.cells.lookup y.1=some c:=fun y hy hk=>I.ok.has y.1 (O.free y hy hk)
 have sub:∀ x c,(clOf X.env scope.names []).lookup x=some c->X.env.cells.lookup x=some c:=fun x c e=>nH hcl (fun y d h=>by simp at h) e
 refine wpAny_comprehension_free (use:=use) rfl hs (mZ hcl) O.kind O.names (thn (hi pins s σ H _ I h) fun v s1 h1=>thn h1 fun itv s2 h2=>?_)
 obtain ⟨it,fp,tnn,J,H2,e,I2,T,st2,f2,h2⟩:=h2
 subst e
 obtain ⟨W,⟨m0,w0⟩,turn⟩:=h2 s2.heap.objs.size (I2.hok.fresh (xag _))
 refine wpAny_newObj_type ?_
 have I3:Inv X pins σ (upd H2 s2.heap.objs.size (.lst [])) { s2 with heap:=s2.heap.push { cls:=.type "list",data:=.seq ([]:List Value).toArray } }:=I2.lnew (its:=[]) (t':=s2.toks) .nil (xap _)
 generalize hD:s2.heap.objs.size=D at *
 generalize hs3:({ s2 with heap:=s2.heap.push { cls:=.type "list",data:=.seq ([]:List Value).toArray } }:Shared)=s3 at *
 have k23:∀ b o,s2.heap.get? b=some o->s3.heap.get? b=some o:=fun b o e=>by rw [<- hs3]; exact xal _ e
 have sz3:s3.heap.objs.size=D+1:=by rw [<- hs3,<- hD]; exact Heap.size_push ..
 have f3:∀ b∈fp,FpOk X pins (upd H2 D (.lst [])) b:=fun b hb=>by
  obtain ⟨f0,fr⟩:=f2 b hb
  obtain ⟨o,ho,_⟩:=T.obj _ _ st2 b hb
  refine ⟨?_,fr⟩
  rw [upd_ne (xaw (by rw [<- hD]; exact xak ho))]
  exact f0
 have st3:tnn 0 s3.heap:=T.keep _ _ _ st2 fun b hb o e=>k23 b o e
 have lt3:∀ b∈fp,b<s3.heap.objs.size:=fun b hb=>by
  obtain ⟨o,ho,_⟩:=T.obj _ _ st3 b hb
  exact xak ho
 refine wpAny_newFunctionEnv O.nocell (by intro y hy; simp at hy) (fun h₁ hns₁ hsb₁=>?_) O.kind
 have k34:∀ b o,s3.heap.get? b=some o->h₁.get? b=some o:=fun b o e=>hsb₁.extBut b o (xaw (xak e)) (xal _ e)
 -- the block's context
 have ok':=uh (C:=s3.heap.objs.size) O I3 f3 lt3 (xag _)
 have I4:Inv (bj X scope s3.heap.objs.size (tn++cn) fp s3 (upd H2 D (.lst []))) [] (ni tn.length ix σ) (upd H2 D (.lst [])) { s3 with heap:=h₁,toks:=s3.toks+([]:List (Str × Value)).length }:=by
  refine ⟨ok',rfl,I3.bare,Un.kept k34,⟨_,hns₁,fun i x v e1 e2 e3=>?_⟩,fun x c e=>?_,I3.hok.fresh (xag _),fun x c e=>I3.freeC x c (sub x c e),fun p hp=>absurd hp (by simp [bj]),I3.hok.kept k34,?_⟩
  ·have hi':tn.length<=i:=by
    by_cases q:i<tn.length
    ·unfold ni at e2
     rw [xbg (by simpa using q),xbV] at e2
     simp [q] at e2
    ·exact xaM ‹_›
   unfold ni at e2
   rw [xaR (by simpa using hi'),xb3,xaE] at e2
   have e1:(tn++cn)[i]? = some x:=e1
   rw [xaR hi'] at e1
   cases q:ix[i - tn.length]? with
   | none=>rw [q] at e2; cases e2
   | some j =>
    rw [q] at e2
    obtain ⟨y,c1,c2,c3,c4,c5⟩:=O.cap _ _ q
    rw [c1] at e1; cases e1
    have e2:σ[j]?.join=some v:=Option.some.inj e2
    have ej:σ[j]? = some (some v):=by
     cases z:σ[j]? with
     | none=>rw [z] at e2; cases e2
     | some o=>rw [z] at e2; exact congrArg some e2
    obtain ⟨m,hn,hl⟩:=I3.loc
    obtain ⟨u,r,l⟩:=hl j x v c2 ej (c3.elim (fun z=>.inr (.inl z)) fun z=>.inr (.inr z))
    refine ⟨u,r,.inr ⟨c5,?_⟩⟩
    rcases l with ⟨hk,_⟩ | ⟨hk,c,hcc,hce⟩
    ·have hk:X.env.scope.names.lookup x=some .local:=hk
     rcases c3 with z | z
     ·rw [z] at hk; cases hk
     ·rw [z] at hk; cases hk
    ·obtain ⟨c',hc'⟩:=jx (env:=X.env) (cs:=[]) (Or.inl c4)
     have:=sub x c' hc'
     rw [hcc] at this; cases this
     obtain ⟨o,ho,hd⟩:=hce
     exact ⟨c,hc',o,k34 _ _ ho,hd⟩
  ·obtain ⟨v,o,ho,hd⟩:=I3.cell x c (sub x c e)
   exact ⟨v,o,k34 _ _ ho,hd⟩
  ·show (ni tn.length ix σ).length=(tn++cn).length
   unfold ni
   simp [O.len]
 -- from the block back to the body
 have back:∀ {τ:St} {H':Hp} {s':Shared},Inv (bj X scope s3.heap.objs.size (tn++cn) fp s3 (upd H2 D (.lst []))) [] τ H' s'->Inv X pins σ H' s':=fun {τ H' s'} I' =>
  Inv.call' (ch:=fp) I3 I'.os I'.base I'.hok I'.bare fun b hb=>by
   obtain ⟨_,f1,_,f3',f4,f5⟩:=f3 b hb
   exact ⟨f3',f1,f4,f5⟩
 have fpC:∀ {H':Hp},(∀ b∈fp,H' b=none)->∀ b∈fp,FpOk (bj X scope s3.heap.objs.size (tn++cn) fp s3 (upd H2 D (.lst []))) [] H' b:=fun hn b hb =>
  ⟨hn b hb,(ok'.exf b hb).1,ok'.exfs b hb,.inl hb,(ok'.exf b hb).2,fun p hp=>absurd hp (by simp [bj])⟩
 have loop:∀ s4:Shared,Inv (bj X scope s3.heap.objs.size (tn++cn) fp s3 (upd H2 D (.lst []))) [] (ni tn.length ix σ) (upd H2 D (.lst [])) s4->tnn 0 s4.heap ->
   codeAny (model X.prog X.w) X.A (.compLoop (.ListComp elt [⟨tg,iter,ifs,0⟩] scope pos) 0 (.ref it) (.ref D) (compEnvC scope (clOf X.env scope.names []) s3.heap.objs.size X.env))
    (compPost (model X.prog X.w) X.A X.xe use P (.ref D) s3.heap.objs.size) s4:=by
  intro s4 I4 st4
  refine fX (fun n s'=>∃ i τ H',Inv (bj X scope s3.heap.objs.size (tn++cn) fp s3 (upd H2 D (.lst []))) [] τ H' s'/\tnn i s'.heap/\(∀ b∈fp,H' b=none)/\W i n τ H') (fun _ _=>False) ?_ (fun _ _ z=>z.elim) m0
   ⟨0,_,_,I4,st4,fun b hb=>(f3 b hb).1,w0⟩
  rintro n s5 ⟨i,τ,H5,I5,st5,fr5,w5⟩
  rcases turn i n τ H5 w5 with ⟨stop,qn⟩ | ⟨go,N1,N2,hN1,hN2,step⟩
  ·refine thn (T.done (bj X scope s3.heap.objs.size (tn++cn) fp s3 (upd H2 D (.lst []))) rfl rfl rfl hc i [] s5 τ H5 (fun _ _=>False) I5 (fpC fr5) st5 stop) fun r s6 hx9=>?_
   obtain ⟨hr,I6⟩:=hx9
   subst hr
   have J6:=back I6
   obtain ⟨m,hn,_⟩:=I6.loc
   exact fin _ D m H5 s6 _ J6 hn I6.free (I3.fpOk (b:=s3.heap.objs.size) (H':=H5) (xag _) I6.free) qn
  ·refine thn (T.item (bj X scope s3.heap.objs.size (tn++cn) fp s3 (upd H2 D (.lst []))) rfl rfl rfl hc i [] s5 τ H5 (fun _ _=>False) I5 (fpC fr5) st5 go) fun r s6 hx9=>?_
   obtain ⟨u,hr,h6⟩:=hx9
   subst hr
   refine thn h6 fun _ s7 hx9=>?_
   obtain ⟨x,H7,I7,r7,y7,st7,fr7⟩:=hx9
   have I7':=I7.pinned (fpC fr7) (T.obj _ _ st7)
   refine thn (hg _ _ _ _ _ s7 τ H7 x u _ I7' r7 (step x H7 y7)) fun _ s8 hx9=>?_
   obtain ⟨τ8,H8,I8,q8⟩:=hx9
   refine thn (hcs _ _ _ _ _ s8 τ8 H8 _ I8 q8) fun ok s9 hx9=>?_
   obtain ⟨H9,I9,q9⟩:=hx9
   have again:∀ {s':Shared} {H':Hp} {m':Nat},Inv (bj X scope s3.heap.objs.size (tn++cn) fp s3 (upd H2 D (.lst []))) ([]++pinsAt fp s7.heap) τ8 H' s'->m'<n->W (i+1) m' τ8 H' ->
     ∃ m,m<n/\∃ i τ H',Inv (bj X scope s3.heap.objs.size (tn++cn) fp s3 (upd H2 D (.lst []))) [] τ H' s'/\tnn i s'.heap/\(∀ b∈fp,H' b=none)/\W i m τ H':=fun {s' H' m'} J hm w'=>by
    refine ⟨m',hm,i+1,τ8,H',J.unpinned,T.keep _ _ _ st7 fun b hb o e=>(J.pin (b,o) (xae _ (xae _ (mem_pinsAt hb e)))).1,fun b hb=>?_,w'⟩
    obtain ⟨o,e,d⟩:=T.obj _ _ st7 b hb
    exact (J.pin (b,o) (xae _ (xae _ (mem_pinsAt hb e)))).2.1
   cases ok with
   | false =>
    rw [if_neg xat] at q9 ⊢
    obtain ⟨m',hm,w'⟩:=hN2 _ _ q9
    exact again I9 hm w'
   | true =>
    rw [if_pos rfl] at q9 ⊢
    refine thn (he _ _ _ _ _ s9 τ8 H9 _ I9 q9) fun x9 s10 hx5=>L2.ex2 hx5 fun v10 H10 I10 r10 q10=>?_
    obtain ⟨ys,m',hH,hz,hm,w'⟩:=hN1 _ _ _ q10
    refine thn (mt_append _ s10 τ8 H10 (.ref D) [v10] (.ref D) [x9] (fun _ H'=>H'=upd H10 D (.lst (ys++[v10]))) I10 rfl (.cons r10 .nil) ⟨D,ys,v10,rfl,rfl,hH,hz,rfl⟩) fun _ s11 hx5=>L2.ex2 hx5 fun _ H11 I11 _ q11=>?_
    subst q11
    exact again I11 hm w'
 exact codeAny_compStart_list (loop _ I4 (T.keep _ _ _ st3 fun b hb o e=>k34 b o e)) (T.self _ 0 _ _ _ (T.keep _ _ _ st3 fun b hb o e=>k34 b o e) (loop _ I4 (T.keep _ _ _ st3 fun b hb o e=>k34 b o e)))
theorem yD (hc:X.calm=true) (hi:PI X tg iter wi) (O:bL X scope tn cn ix)
  (hg:∀ C fp s₃ H₃,PG (bj X scope C (tn++cn) fp s₃ H₃) tg g) (hcs:∀ C fp s₃ H₃,PTs (bj X scope C (tn++cn) fp s₃ H₃) ifs tc) (he:∀ C fp s₃ H₃,PE (bj X scope C (tn++cn) fp s₃ H₃) elt te)
  (hs:∀ x,foldedSetIterable iter X.env x=pure x:=by intro _; rfl):PE X (.ListComp elt [⟨tg,iter,ifs,0⟩] scope pos) (vz wi g tc te tn.length ix):=by
 intro pins s σ H Q I h
 rw [eval_ListComp]
 refine rD (use:=none) (P:=EP X pins σ Q) hc hi O hg hcs he hs I h fun C D m H5 s6 r J6 hn hf ⟨_,g1,_,g3,g4,g5⟩ qn=>⟨m,hn,fun h' hsb=>⟨.ref D,H5,?_,rfl,qn⟩⟩
 exact J6.turned (t':=s6.toks) (fun b o hb e=>hsb.extBut b o hb e) hf g1 g3 g4 g5
end
section
variable {X:Cx} {tg iter elt:Expr} {ifs:List Expr} {scope:Scope} {pos:Pos} {wi:TI} {g:TG} {tc:TT} {te:TE} {tn cn:List Str} {ix:List Nat}
theorem rN {i:Nat} {x:Str} {pos' spos:Pos} (hN:X.N.Nodup) (hi0:X.N[i]? = some x) (hx:Loc X.env.scope x) (hc:X.calm=true) (hi:PI X tg iter wi) (O:bL X scope tn cn ix)
  (hg:∀ C fp s₃ H₃,PG (bj X scope C (tn++cn) fp s₃ H₃) tg g) (hcs:∀ C fp s₃ H₃,PTs (bj X scope C (tn++cn) fp s₃ H₃) ifs tc) (he:∀ C fp s₃ H₃,PE (bj X scope C (tn++cn) fp s₃ H₃) elt te)
  (hsw:swapsWith (.ListComp elt [⟨tg,iter,ifs,0⟩] scope pos) (some (.Name x pos')) spos.line X.env=pure true)
  (hs:∀ x,foldedSetIterable iter X.env x=pure x:=by intro _; rfl) (hf:X.fn x=true\/X.env.scope.names.lookup x=some .local:=by first | exact .inl rfl | exact .inr rfl | assumption) :
  PS X (.Assign [.Name x pos'] (.ListComp elt [⟨tg,iter,ifs,0⟩] scope pos) spos) (tAsg (vz wi g tc te tn.length ix) (gName i)):=by
 intro pins s σ H D0 I h
 rw [exec_Assign_Name_used _ _ _ _ hsw]
 refine xaa (wpAny_standAt (xaa ?_))
 show wpAny _ _ (do let _ <- comprehension (.ListComp elt [⟨tg,iter,ifs,0⟩] scope pos) scope X.env _ (newList []) false (eval iter X.env) (some (assign (.Name x pos') X.env))) _ _ s
 refine xaa (xaZ (rD (use:=some (assign (.Name x pos') X.env)) (P:=fun _ s'=>SP X pins D0 .next s') hc hi O hg hcs he hs I h fun C D m H5 s6 r J6 hn hfr ⟨_,g1,_,g3,g4,g5⟩ qn=>?_) (fun _ s' hq=>xaf (xaf hq)) fun _ _ e=>e)
 refine (show wpAny _ _ (assign (.Name x pos') X.env (.ref D)) _ _ s6 from wpAny_assign_Name (store_ok2 J6 hN hi0 hx (v:=.ref D) rfl (fun s7 I7 hx9=>?_) hf))
 obtain ⟨a,sb,ha⟩:=hx9
 have hCa:C≠a:=by
  rcases ha with rfl | ha
  ·exact g1
  ·exact Ne.symm (g4 _ a ha)
 refine ⟨m,hn.sameBut sb hCa,fun h' hsb=>⟨_,H5,?_,qn⟩⟩
 exact I7.turned (t':=s7.toks) (fun b o hb e=>hsb.extBut b o hb e) hfr g1 g3 g4 g5
end
def isiT (a b:String):Bool:=a == b || (a == "bool" && b == "int")
def okTy (b:String):Bool:=["str", "int", "bool", "list", "tuple", "dict"].contains b
theorem iV (K:PySem.W.Frag) (a b:String) (ha:a∈["NoneType", "bool", "int", "str", "list", "tuple", "dict"]) (hb:b∈["str", "int", "bool", "list", "tuple", "dict"]):PySem.W.kitOne K (.type a) (.type b)=some (isiT a b):=by
 simp only [xaj,xbF,or_false] at ha hb
 rcases ha with rfl | rfl | rfl | rfl | rfl | rfl | rfl <;> rcases hb with rfl | rfl | rfl | rfl | rfl | rfl <;> kernel_rfl
section
variable {X:Cx}
theorem OpR.imp {f:Value->Value->Sem Value} {r r':R2} (h:OpR X f r) (hi:∀ x y H Q,r' x y H Q->r x y H Q):OpR X f r' :=
 fun pins s σ H x y v u Q I rx ry q=>h pins s σ H x y v u Q I rx ry (hi x y H Q q)
def Er (K:PySem.W.Frag):R2:=fun x y H Q=>∃ l b xs zs,x=.ref l/\y=.ref b/\SqL K H l xs/\SqL K H b zs/\xs.length+zs.length<=sizeLine/\∀ p,H p=none->Q (.ref p) (upd H p (.lst (xs++zs)))
theorem yj:OpR X (binaryOp .Add) (Er X.K):=by
 intro pins s σ H x y v u Q I rx ry h
 obtain ⟨l,b,xs,zs,rfl,rfl,hH,hB,hz,q⟩:=h
 cases rx
 cases ry
 obtain ⟨its,r,pl,z⟩:=I.list hH
 obtain ⟨its2,r2,pl2,z2⟩:=I.list hB
 have hl:=r.length
 have hl2:=r2.length
 obtain ⟨⟨cls,dd,data,sl⟩,ho,hc,n,hd⟩:=id pl.isList
 obtain ⟨⟨cls2,dd2,data2,sl2⟩,ho2,hc2,n2,hd2⟩:=id pl2.isList
 simp only at hc hd hc2 hd2
 subst hc hd hc2 hd2
 have ea:its.toArray++its2.toArray=(its++its2).toArray:=by simp
 refine concat_meets ⟨_,ho,rfl⟩ ⟨_,ho2,rfl⟩ noFill_list_add seq_list_add PySem.F.slot_list_add PySem.F.entry_list_add (PySem.F.args_list_add_2 _ _) (list_addW l b its.toArray its2.toArray n n2 dd dd2 sl sl2 (by simp only [xau]; lia)) ⟨ho,ho2,?_⟩
 rw [ea]
 exact ⟨.ref _,_,I.lnew (t':=s.toks) (r.append r2) (by rw [xaA]; lia),rfl,q _ I.fresh⟩
def v_ (K:PySem.W.Frag):R2:=fun x y H Q=>match x,y with
 | .int i,.int j=>Q (.int (i+j)) H
 | .str i,.str j=>i.length+j.length<=sizeLine/\Q (.str (i++j)) H
 | .ref a,.ref b=>∃ xs zs,SqL K H a xs/\SqL K H b zs/\xs.length+zs.length<=sizeLine/\∀ p,H p=none->Q (.ref p) (upd H p (.lst (xs++zs)))
 | _,_=>False
theorem yQ:OpR X (binaryOp .Add) (v_ X.K):=by
 refine (op_add.or (op_add_str.or yj)).imp fun x y H Q h=>?_
 unfold v_ at h
 split at h
 ·exact .inl ⟨_,_,rfl,rfl,h⟩
 ·exact .inr (.inl ⟨_,_,rfl,rfl,h.1,h.2⟩)
 ·obtain ⟨xs,zs,h1,h2,h3,h4⟩:=h
  exact .inr (.inr ⟨_,_,xs,zs,rfl,rfl,h1,h2,h3,h4⟩)
 ·exact h.elim
def yh:R2:=fun x y H Q=>match x,y with
 | .int i,.int j=>Q (.int (i - j)) H
 | _,_=>False
theorem zW:OpR X (binaryOp .Sub) yh:=op_sub.imp fun x y H Q h=>by
 unfold yh at h
 split at h
 ·exact ⟨_,_,rfl,rfl,h⟩
 ·exact h.elim
def yR:R2:=fun x y H Q=>match x,y with
 | .int i,.int j=>CMul i j/\Q (.int (i * j)) H
 | _,_=>False
theorem yK:OpR X (binaryOp .Mult) yR:=op_mul.imp fun x y H Q h=>by
 unfold yR at h
 split at h
 ·exact ⟨_,_,rfl,rfl,h.1,h.2⟩
 ·exact h.elim
def yU:R2:=fun x y H Q=>match x,y with
 | .int i,.int j=>(0<j/\j<1073741824)/\Q (.int (i / j)) H
 | _,_=>False
theorem yZ:OpR X (binaryOp .FloorDiv) yU:=op_fdiv.imp fun x y H Q h=>by
 unfold yU at h
 split at h
 ·exact ⟨_,_,rfl,rfl,h.1,h.2⟩
 ·exact h.elim
def zP:R2:=fun x y H Q=>match x,y with
 | .int i,.int j=>0<j/\Q (.int (i % j)) H
 | _,_=>False
theorem zx:OpR X (binaryOp .Mod) zP:=op_mod.imp fun x y H Q h=>by
 unfold zP at h
 split at h
 ·exact ⟨_,_,rfl,rfl,h.1,h.2⟩
 ·exact h.elim
def yP:R2:=fun x y H Q=>match x,y with
 | .int i,.int j=>CPow i j/\Q (.int (i ^ j.toNat)) H
 | _,_=>False
theorem z7:OpR X (binaryOp .Pow) yP:=op_pow.imp fun x y H Q h=>by
 unfold yP at h
 split at h
 ·exact ⟨_,_,rfl,rfl,h.1,h.2⟩
 ·exact h.elim
def ltS (x y:Str):Bool:=decide (x.cps.toList<y.cps.toList)
def rLtU:R2:=fun x y H Q=>match x,y with
 | .int i,.int j=>Q (.bl (decide (i<j))) H
 | .str i,.str j=>Q (.bl (ltS i j)) H
 | _,_=>False
theorem xJ:OpR X (compareOp .Lt) rLtU:=(op_lt.or op_lt_str).imp fun x y H Q h=>by
 unfold rLtU at h
 split at h
 ·exact .inl ⟨_,_,rfl,rfl,h⟩
 ·exact .inr ⟨_,_,rfl,rfl,h⟩
 ·exact h.elim
theorem uV:OpR X (compareOp .LtE) (fun x y H Q=>∃ i j,x=.str i/\y=.str j/\Q (.bl (!ltS j i)) H):=by
 intro pins s σ H x y v u Q I rx ry h
 obtain ⟨i,j,rfl,rfl,q⟩:=h
 obtain ⟨t,rfl⟩:=rx
 obtain ⟨t',rfl⟩:=ry
 exact PySem.P.le_str ⟨.bl _,H,I,rfl,q⟩
def rLeU:R2:=fun x y H Q=>match x,y with
 | .int i,.int j=>Q (.bl (decide (i<=j))) H
 | .str i,.str j=>Q (.bl (!ltS j i)) H
 | _,_=>False
theorem Bt:OpR X (compareOp .LtE) rLeU:=(op_le.or uV).imp fun x y H Q h=>by
 unfold rLeU at h
 split at h
 ·exact .inl ⟨_,_,rfl,rfl,h⟩
 ·exact .inr ⟨_,_,rfl,rfl,h⟩
 ·exact h.elim
def rGtU:R2:=fun x y H Q=>match x,y with
 | .int i,.int j=>Q (.bl (decide (j<i))) H
 | _,_=>False
theorem Bq:OpR X (compareOp .Gt) rGtU:=op_gt.imp fun x y H Q h=>by
 unfold rGtU at h
 split at h
 ·exact ⟨_,_,rfl,rfl,h⟩
 ·exact h.elim
theorem Inv.rd {pins:List (Addr × Obj)} {σ:St} {H:Hp} {s:Shared} {a:Addr} {u:HO} (I:Inv X pins σ H s) (e:Rd H a u):ObjOk X.prog X.w H s.heap a u:=e.elim (I.hok a _) fun ⟨o,e⟩=>(show ObjOk X.prog X.w H s.heap a (.frz o u) from I.hok a _ e).2
def rLen (K:PySem.W.Frag):List V->Hp->VK->Prop:=fun xs H Q=>match xs with
 | [.str y]=>y.length<=sizeLine/\Q (.int y.length) H
 | [.ref p]=>(∃ ys,SqL K H p ys/\Q (.int ys.length) H)\/(∃ ys,SqT K H p ys/\Q (.int ys.length) H)\/∃ kvs,Rd H p (.dK kvs)/\Q (.int kvs.length) H
 | _=>False
theorem sX:CallR X (.builtin "len") (rLen X.K):=by
 intro pins s σ H xs us Q I r h
 unfold rLen at h
 split at h
 ·exact call_len pins s σ H _ us Q I r ⟨_,_,rfl,⟨h.1,rfl⟩,h.2⟩
 ·rcases h with ⟨ys,h1,h2⟩ | ⟨ys,h1,h2⟩ | ⟨kvs,h1,h2⟩
  ·exact call_len pins s σ H _ us Q I r ⟨_,_,rfl,.inl ⟨ys,h1,rfl⟩,h2⟩
  ·exact call_len pins s σ H _ us Q I r ⟨_,_,rfl,.inr ⟨ys,h1,rfl⟩,h2⟩
  ·obtain ⟨u,rfl,ru⟩:=vals1 r
   cases ru
   exact d_len I h1 fun t s' I'=>⟨.int kvs.length,H,I',⟨t,rfl⟩,h2⟩
 ·exact h.elim
def rIxU (K:PySem.W.Frag):R2:=fun x y H Q=>match x,y with
 | .ref p,.int i=>(∃ xs v,SqL K H p xs/\atI xs i=some v/\Q v H)\/∃ xs v,SqT K H p xs/\atI xs i=some v/\Q v H
 | .str z,.int i=>z.length<=sizeLine/\∃ c,atI z.cps.toList i=some c/\Q (.str ⟨#[c]⟩) H
 | _,_=>False
theorem CN:IxR X (rIxU X.K):=by
 intro value slice pins s σ H x y v u Q I rx ry h hs
 refine ix_seq value slice pins s σ H x y v u Q I rx ry ?_ hs
 unfold rIxU at h
 split at h
 ·rcases h with ⟨xs,w,h1,h2,h3⟩ | ⟨xs,w,h1,h2,h3⟩
  ·exact .inl ⟨_,xs,_,w,rfl,rfl,h1,h2,h3⟩
  ·exact .inr (.inl ⟨_,xs,_,w,rfl,rfl,h1,h2,h3⟩)
 ·obtain ⟨h1,c,h2,h3⟩:=h
  exact .inr (.inr ⟨_,_,c,rfl,rfl,h1,h2,h3⟩)
 ·exact h.elim
def cutS (z:Str) (lo hi:Option Int):Str:=⟨((z.cps.toList.drop (HT.sIx z.length 0 lo)).take (HT.sIx z.length z.length hi - HT.sIx z.length 0 lo)).toArray⟩
end
theorem tX (l:List Nat) (lo hi:Option Int) (h:((l.drop (HT.sIx l.length 0 lo)).take (HT.sIx l.length l.length hi - HT.sIx l.length 0 lo)).length=l.length) :
  (l.drop (HT.sIx l.length 0 lo)).take (HT.sIx l.length l.length hi - HT.sIx l.length 0 lo)=l:=by
 generalize HT.sIx l.length 0 lo=a at *
 generalize HT.sIx l.length l.length hi=b at *
 by_cases hl:l.length=0
 ·have:l=[]:=List.length_eq_zero_iff.mp hl
  subst this; simp
 ·rw [xax,xbi] at h
  have h1:a=0:=by lia
  subst h1
  rw [List.drop_zero]
  exact xb1 (by lia)
theorem uq (lo hi:Option Int) (n:Nat):Builtin.Str.strSliceIndices lo hi 1 n=(List.range (HT.sIx n n hi - HT.sIx n 0 lo)).map (HT.sIx n 0 lo + ·):=by
 unfold Builtin.Str.strSliceIndices
 have e1:(match lo with | none=>(0:Int) | some i=>max 0 (min (if i<0 then i+n else i) n))=((HT.sIx n 0 lo:Nat):Int):=by
  cases lo with
  | none=>simp [HT.sIx]
  | some i =>
   simp only [HT.sIx]
   by_cases h:i<0
   ·simp only [h,if_true] <;> lia
   ·simp only [h,if_false] <;> lia
 have e2:(match hi with | none=>(n:Int) | some i=>max 0 (min (if i<0 then i+n else i) n))=((HT.sIx n n hi:Nat):Int):=by
  cases hi with
  | none=>simp [HT.sIx]
  | some i =>
   simp only [HT.sIx]
   by_cases h:i<0
   ·simp only [h,if_true] <;> lia
   ·simp only [h,if_false] <;> lia
 rw [<- sliceRange_one,<- e1,<- e2]
 simp only [show (1:Int)>0 by decide,if_true]
 cases lo <;> cases hi <;> rfl
section
variable {X:Cx}
theorem part_of {v:Value} {o:Option Int} (h:IsPart v o):∃ p:Option (Int × Tok),v=partValue p/\p.map (·.1)=o:=by
 cases h with
 | none=>exact ⟨none,rfl,rfl⟩
 | int i t=>exact ⟨some (i,t),rfl,rfl⟩
def rSlS (K:PySem.W.Frag):V->Option Int->Option Int->Hp->VK->Prop:=fun x lo hi H Q=>match x with
 | .str z=>z.length<=sizeLine/\Q (.str (cutS z lo hi)) H
 | .ref a=>∃ xs,SqL K H a xs/\∀ p,H p=none->Q (.ref p) (upd H p (.lst (cutV xs lo hi)))
 | _=>False
theorem BV:SlR X (fun x lo hi H Q=>∃ z,x=.str z/\z.length<=sizeLine/\Q (.str (cutS z lo hi)) H):=by
 intro pins s σ H x v vl vu lo hi sl Q I rx hs pl pu h
 obtain ⟨z,rfl,hz,q⟩:=h
 obtain ⟨t,rfl⟩:=rx
 obtain ⟨p1,rfl,e1⟩:=part_of pl
 obtain ⟨p2,rfl,e2⟩:=part_of pu
 refine ⟨"str",_,F.slot_str_getitem.lookup,typeIs_str s z t,wpAny_getItem_str_slice (l:=p1) (u:=p2) (st:=none) hs rfl ?_⟩
 have hl:z.cps.toList.length=z.length:=by simp [Str.length]
 have ep:slicePicked z p1 p2 none=(List.range (HT.sIx z.length z.length hi - HT.sIx z.length 0 lo)).map (HT.sIx z.length 0 lo + ·):=by
  unfold slicePicked
  rw [e1,e2]
  exact uq lo hi z.length
 have ef:(slicePicked z p1 p2 none).filterMap (z.cps[·]?)=(z.cps.toList.drop (HT.sIx z.length 0 lo)).take (HT.sIx z.length z.length hi - HT.sIx z.length 0 lo):=by
  rw [ep]; exact pick_run z.cps _ _
 unfold sliceMade
 split
 ·rename_i hc
  have hw:(slicePicked z p1 p2 none).length=z.length:=by simpa using hc
  have:cutS z lo hi=z:=by
   unfold cutS
   have e3:((z.cps.toList.drop (HT.sIx z.cps.toList.length 0 lo)).take (HT.sIx z.cps.toList.length z.cps.toList.length hi - HT.sIx z.cps.toList.length 0 lo)).length=z.cps.toList.length:=by
    rw [hl,xax,xbi,hl]
    rw [ep,xab,List.length_range] at hw
    have h0:HT.sIx z.length 0 lo<=z.length:=by
     cases lo with
     | none=>simp [HT.sIx]
     | some i=>simp only [HT.sIx]; split <;> lia
    have h1:HT.sIx z.length z.length hi<=z.length:=by
     cases hi with
     | none=>simp [HT.sIx]
     | some i=>simp only [HT.sIx]; split <;> lia
    lia
   have:=tX z.cps.toList lo hi e3
   rw [hl] at this
   rw [this]
  rw [this] at q
  exact ⟨.str z,H,I,⟨t,rfl⟩,q⟩
 ·rw [ef]
  exact ⟨by
   show (cutS z lo hi).length<=sizeLine
   unfold cutS Str.length
   simp only [xau,xax,xbi,hl]
   have:z.cps.toList.length=z.length:=hl
   lia,⟨.str (cutS z lo hi),H,I.tok _,⟨_,rfl⟩,q⟩⟩
theorem BK:SlR X (rSlS X.K):=by
 intro pins s σ H x v vl vu lo hi sl Q I rx hs pl pu h
 unfold rSlS at h
 split at h
 ·exact BV pins s σ H _ v vl vu lo hi sl Q I rx hs pl pu ⟨_,rfl,h.1,h.2⟩
 ·obtain ⟨xs,h1,h2⟩:=h
  exact sl_list pins s σ H _ v vl vu lo hi sl Q I rx hs pl pu ⟨_,xs,rfl,h1,h2⟩
 ·exact h.elim
end
structure oN (J:It) (its:List V) (cond:Hp->Prop):Prop where
 go:∀ i H,cond H->i<its.length->J.go i H
 yld:∀ i H x H',cond H->i<its.length->J.yld i H x H'->H'=H/\its[i]? = some x
 stop:∀ H,cond H->J.stop its.length H
theorem wJ (K:PySem.W.Frag) (a:Addr) (xs:List V):oN (Itl K a) xs (fun H=>SqL K H a xs) where
 go:=fun i H h hi=>⟨xs,xs[i],h,by simp [hi]⟩
 yld:=fun i H x H' h _ y=>⟨y.1,y.2 xs h⟩
 stop:=fun H h=>⟨xs,h,xag _⟩
def vg (lo:Int) (n:Nat):List V:=(List.range n).map fun i=>.int (lo+(i:Nat))
theorem Ac (lo:Int) (n:Nat):oN (Itr lo n) (vg lo n) (fun _=>True) where
 go:=fun i H _ h=>by simpa [vg,Itr] using h
 yld:=fun i H x H' _ hi h=>by
  have hi:i<n:=by simpa [vg] using hi
  obtain ⟨rfl,rfl⟩:=h
  refine ⟨rfl,?_⟩
  simp [vg,hi]
 stop:=fun H _=>by simp [vg,Itr]
def ForW (J:It) (g:TG) (tb:TS) (D:Ends) (σ:St) (H:Hp):Prop :=
 ∃ W:Nat->Nat->St->Hp->Prop,(∃ m,W 0 m σ H)/\∀ i m σ H,W i m σ H ->
   (J.stop i H/\D.nx σ H)\/(J.go i H/\∃ N:St->Hp->Prop,(∀ σ' H',N σ' H'->∃ m',m'<m/\W (i+1) m' σ' H')/\∀ x H',J.yld i H x H'->g x σ H' fun σ2 H2=>tb { D with nx:=N,ct:=N,bk:=D.nx } σ2 H2)
theorem uo (wi:TI) (g:TG) (tb:TS) (D:Ends) (σ:St) (H:Hp):tFor wi g tb D σ H=wi σ H fun J H1=>ForW J g tb D σ H1:=rfl
def En (J:It) (g:TG) (tc:TT) (te:TE) (τ0:St) (H1:Hp) (D:Addr) (Q:VK):Prop :=
 ∃ W:Nat->Nat->St->Hp->Prop,(∃ m,W 0 m τ0 (upd H1 D (.lst [])))/\∀ i m τ H,W i m τ H ->
  (J.stop i H/\Q (.ref D) H)\/(J.go i H/\∃ (N1:St->V->Hp->Prop) (N2:St->Hp->Prop),
   (∀ τ2 v H4,N1 τ2 v H4->∃ ys m',H4 D=some (.lst ys)/\ys.length<sizeLine/\m'<m/\W (i+1) m' τ2 (upd H4 D (.lst (ys++[v])))) /\
   (∀ τ2 H3,N2 τ2 H3->∃ m',m'<m/\W (i+1) m' τ2 H3) /\
   ∀ x H',J.yld i H x H'->g x τ H' fun τ2 H2=>tc τ2 H2 fun b H3=>if b=true then te τ2 H3 (N1 τ2) else N2 τ2 H3)
theorem wU (wi:TI) (g:TG) (tc:TT) (te:TE) (tn:Nat) (ix:List Nat) (σ:St) (H:Hp) (Q:VK):vz wi g tc te tn ix σ H Q=wi σ H fun J H1=>∀ D,H1 D=none->En J g tc te (ni tn ix σ) H1 D Q:=rfl
mutual
inductive Rep (K:PySem.W.Frag) (H:Hp):PyData->V->Prop
 | none:Rep K H .none .non
 | bool (b:Bool):Rep K H (.bool b) (.bl b)
 | int (i:Int):Rep K H (.int i) (.int i)
 | str (x:Str):Rep K H (.str x) (.str x)
 | list {a:Addr} {vs:List V} {ds:List PyData}:SqL K H a vs->Reps K H ds vs->Rep K H (.list ds) (.ref a)
 | tuple {a:Addr} {vs:List V} {ds:List PyData}:SqT K H a vs->Reps K H ds vs->Rep K H (.tuple ds) (.ref a)
inductive Reps (K:PySem.W.Frag) (H:Hp):List PyData->List V->Prop
 | nil:Reps K H [] []
 | cons {d:PyData} {v:V} {ds:List PyData} {vs:List V}:Rep K H d v->Reps K H ds vs->Reps K H (d :: ds) (v :: vs)
end
section
variable {X:Cx} {pins:List (Addr × Obj)} {σ:St} {H:Hp} {s:Shared}
mutual
theorem Rep.reads (I:Inv X pins σ H s):∀ {d:PyData} {v:V} {u:Value},Rep X.K H d v->RelV v u->∃ as,Reads s.heap u d as
 | _,_,_,.none,r=>by cases (show _=Value.none from r); exact ⟨_,.none⟩
 | _,_,_,.bool b,r=>by cases (show _=Value.bool b from r); exact ⟨_,.bool b⟩
 | _,_,_,.int i,r=>by obtain ⟨t,e⟩:=r; subst e; exact ⟨_,.int i t⟩
 | _,_,_,.str x,r=>by obtain ⟨t,e⟩:=r; subst e; exact ⟨_,.str x t⟩
 | _,_,_,.list h hs,r=>by
  cases r
  obtain ⟨its,rv,pl,_⟩:=I.list h
  obtain ⟨o,e,c,n,d⟩:=pl.isList
  obtain ⟨as,q⟩:=Reps.reads I hs rv
  exact ⟨_,.list e c d q⟩
 | _,_,_,.tuple h hs,r=>by
  cases r
  obtain ⟨its,rv,⟨o,e,c,n,d⟩,_⟩:=I.tuple h
  obtain ⟨as,q⟩:=Reps.reads I hs rv
  exact ⟨_,.tuple e c d q⟩
theorem Reps.reads (I:Inv X pins σ H s):∀ {ds:List PyData} {vs:List V} {us:List Value},Reps X.K H ds vs->Vals vs us->∃ as,ReadsAll s.heap us ds as
 | _,_,_,.nil,.nil=>⟨_,.nil⟩
 | _,_,_,.cons h hs,.cons r rs=>by
  obtain ⟨as,q⟩:=Rep.reads I h r
  obtain ⟨bs,q'⟩:=Reps.reads I hs rs
  exact ⟨_,.cons q q'⟩
end
def rEqD (K:PySem.W.Frag):R2:=fun x y H Q=>∃ d e,Rep K H d x/\Rep K H e y/\d.canLay0=true/\e.canLay0=true/\d.depth<=60/\Q (.bl (PyData.eqv d e)) H
def rNeD (K:PySem.W.Frag):R2:=fun x y H Q=>∃ d e,Rep K H d x/\Rep K H e y/\d.canLay0=true/\e.canLay0=true/\d.depth<=60/\Q (.bl (!PyData.eqv d e)) H
theorem Ag (hu:X.A.units+64<cLine):OpR X (compareOp .Eq) (rEqD X.K):=by
 intro pins s σ H x y v u Q I rx ry h
 obtain ⟨d,e,h1,h2,h3,h4,h5,q⟩:=h
 obtain ⟨as,r1⟩:=h1.reads I rx
 obtain ⟨bs,r2⟩:=h2.reads I ry
 exact PySem.SeqAt.rcAt_reads r1 r2 h3 h4 (by lia) X.prog X.w X.xe _ ⟨.bl _,H,I,rfl,q⟩
theorem Bu (hu:X.A.units+64<cLine):OpR X (compareOp .NotEq) (rNeD X.K):=by
 intro pins s σ H x y v u Q I rx ry h
 obtain ⟨d,e,h1,h2,h3,h4,h5,q⟩:=h
 obtain ⟨as,r1⟩:=h1.reads I rx
 obtain ⟨bs,r2⟩:=h2.reads I ry
 exact PySem.SeqAt.rcNeAt_reads r1 r2 h3 h4 (by lia) X.prog X.w X.xe _ ⟨.bl _,H,I,rfl,q⟩
def rEqU (K:PySem.W.Frag):R2:=fun x y H Q=>match x,y with
 | .int i,.int j=>Q (.bl (decide (i=j))) H
 | .str i,.str j=>Q (.bl (decide (i=j))) H
 | .bl i,.bl j=>Q (.bl (decide (i=j))) H
 | _,_=>rEqD K x y H Q
theorem BJ (hu:X.A.units+64<cLine):OpR X (compareOp .Eq) (rEqU X.K):=(op_eq.or (Ag hu)).imp fun x y H Q h=>by
 unfold rEqU at h
 split at h
 ·refine .inl ⟨rfl,?_⟩; simpa using h
 ·refine .inl ⟨rfl,?_⟩; simpa using h
 ·refine .inl ⟨rfl,?_⟩; simpa using h
 ·exact .inr h
def rNeU (K:PySem.W.Frag):R2:=fun x y H Q=>match x,y with
 | .int i,.int j=>Q (.bl (!decide (i=j))) H
 | .str i,.str j=>Q (.bl (!decide (i=j))) H
 | .bl i,.bl j=>Q (.bl (!decide (i=j))) H
 | _,_=>rNeD K x y H Q
theorem Bo (hu:X.A.units+64<cLine):OpR X (compareOp .NotEq) (rNeU X.K):=(op_ne.or (Bu hu)).imp fun x y H Q h=>by
 unfold rNeU at h
 split at h
 ·refine .inl ⟨rfl,?_⟩; simpa using h
 ·refine .inl ⟨rfl,?_⟩; simpa using h
 ·refine .inl ⟨rfl,?_⟩; simpa using h
 ·exact .inr h
end
end L2
namespace L2
open PySem PySem.Spec PyProof.Rows
theorem Ar:(2:Nat)<=sizeLine:=by rw [sizeLine_eq]; decide
def Itz (K:PySem.W.Frag) (a b:Addr):It :=
 ⟨fun i H=>∃ xs ys x y,SqL K H a xs/\SqL K H b ys/\xs[i]? = some x/\ys[i]? = some y,fun i H x H'=>∃ p u v,x=.ref p/\H p=none/\H'=upd H p (.tup [u,v])/\(∀ xs,SqL K H a xs->xs[i]? = some u)/\∀ ys,SqL K H b ys->ys[i]? = some v,
  fun i H=>∃ xs ys,SqL K H a xs/\SqL K H b ys/\(xs.length<=i\/ys.length<=i)⟩
def rlN (sc:Scope) (names:List (Str × NameKind)):List (Str × NameKind):=names.map fun y=>if (y.2 == NameKind.free && sc.kind == .function && sc.names.lookup y.1 == some .cell)=true then (y.1,NameKind.cell) else (y.1,y.2)
def vis2 (o:Option NameKind):Bool:=o == some .cell || o == some .free
def Bb (sc scope:Scope) (N cn:List Str) (ix:List Nat):Bool :=
 scope.kind == .function && scope.names.all (fun y=>y.2 != .cell) && scope.names.all (fun y=>y.2 != .free || vis2 (sc.names.lookup y.1)) && scope.names.all (fun y=>y.2 != .local || scope.names.lookup y.1 == some .local) &&
 ix.length == cn.length && (List.range ix.length).all (fun k=>match ix[k]?,cn[k]? with
  | some j,some y=>N[j]? == some y && vis2 (sc.names.lookup y) && scope.names.contains (y,NameKind.free) && vis2 ((rlN sc scope.names).lookup y)
  | _,_=>false) &&
 (rlN sc scope.names).all (fun y=>!(y.2 == .cell || y.2 == .free) || scope.names.contains (y.1,NameKind.free))
theorem qt {o:Option NameKind} (h:vis2 o=true):o=some .cell\/o=some .free:=by
 unfold vis2 at h
 simpa using h
theorem bL.of {X:Cx} {sc scope:Scope} {N tn cn:List Str} {ix:List Nat} (hsc:X.env.scope=sc) (hN:X.N=N) (h:Bb sc scope N cn ix=true):bL X scope tn cn ix:=by
 unfold Bb at h
 simp only [xaG] at h
 obtain ⟨⟨⟨⟨⟨⟨h1,h2⟩,h3⟩,h4⟩,h5⟩,h6⟩,h7⟩:=h
 rw [xb5] at h2 h3 h4 h6 h7
 have erl:(relabel scope X.env).names=rlN sc scope.names:=by
  unfold relabel rlN
  rw [<- hsc]
  rfl
 refine ⟨by simpa using h1,fun y hy=>by simpa using h2 y hy,fun y hy hk=>?_,fun y hy hk=>?_,by simpa using h5,fun k j hk=>?_,fun x hx=>?_⟩
 ·have:=h3 y hy
  rw [hk] at this
  rw [hsc]
  exact qt (by simpa using this)
 ·have:=h4 y hy
  rw [hk] at this
  simpa using this
 ·have hk':k<ix.length:=(xan.mp hk).1
  have:=h6 k (xa6.mpr hk')
  rw [hk] at this
  cases e:cn[k]? with
  | none=>rw [e] at this; cases this
  | some y =>
   rw [e] at this
   simp only [xaG] at this
   obtain ⟨⟨⟨a1,a2⟩,a3⟩,a4⟩:=this
   refine ⟨y,rfl,by rw [hN]; simpa using a1,by rw [hsc]; exact qt a2,by simpa using a3,by rw [erl]; exact qt a4⟩
 ·rw [erl] at hx
  have mem:∃ k,(x,k)∈rlN sc scope.names/\(k=.cell\/k=.free):=by
   rcases hx with hx | hx
   ·exact ⟨_,PySem.mem_of_lookup hx,.inl rfl⟩
   ·exact ⟨_,PySem.mem_of_lookup hx,.inr rfl⟩
  obtain ⟨k,hm,hk⟩:=mem
  have:=h7 _ hm
  rcases hk with rfl | rfl <;> simpa using this
structure Cal (P:Program) (w:World) (K:PySem.W.Frag) (mg:Str->Option Value) (base:Heap) (k:Nat) (x:Str) (ps:List Str) (sp:Sp):Prop where
 ex:∃ (g:Addr) (fd:FuncData),mg x=some (.ref g)/\PySem.W.keepIn K (.ref g)=true/\Binds K fd ps []/\FnOk P w K mg base CX0 k g fd ps sp
section
variable {X:Cx} {k:Nat} {x:Str} {ps:List Str} {sp:Sp} {p pos:Pos} {e:Expr} {es:List Expr} {t:TA}
theorem Cm (C:Cal X.prog X.w X.K X.mg X.base k x ps sp) (hr:Room k X.A) (ha:PA X (e :: es) t) (hg:Gl X x:=by rfl) (hdb:(x == ("__debug__" : Str))=false:=by decide) (he:starEach (e :: es) X.env=(false,eval e X.env) :: starEach es X.env:=by rfl)
  (hpl:(backTo pos (starEach es X.env)).any (·.1)=false:=by rfl):PE X (.Call (.Name x p) (e :: es) [] pos) (tCall sp [] E0 t):=by
 obtain ⟨g,fd,hm,hk,hb,F⟩:=C.ex
 exact pe_call F hr hg hm hk hb .nil pass0 ha hdb he hpl
end
theorem Fun.cal {P:Program} {w:World} {K:PySem.W.Frag} {mg:Str->Option Value} {base:Heap} {k:Nat} {x qual:Str} {st:Stmt} {f:Addr} {fd:FuncData} {ps:List Str} {sp:Sp} (F:Fun K x qual st f fd) (hm:mg x=some (.ref f))
  (G:FnOk P w K mg base CX0 k f fd ps sp)
  (h:∀ (kV doc pm:Value) (an:Option Addr) (cdv ct:Value) (us:List Value),us.length=ps.length->bindArgs (PySem.W.fnOf x qual (defArgs st) (defBody st) (defScope st) .none kV doc pm an cdv ct) ⟨us,[]⟩=pure (ps.zip us)):Cal P w K mg base k x ps sp :=
 ⟨f,fd,hm,F.kp,F.binds h,G⟩
theorem xV:bootBuiltins "int" = some (.type "int"):=by decide +kernel
theorem yH:bootBuiltins "bool" = some (.type "bool"):=by decide +kernel
theorem kI:bootBuiltins "list" = some (.type "list"):=by decide +kernel
theorem g8:bootBuiltins "isinstance" = some (.builtin "isinstance"):=by decide +kernel
theorem qL:bootBuiltins "len" = some (.builtin "len"):=by decide +kernel
theorem DQ {X:Cx} {x:Str} {T:String} {pos:Pos} (hm:X.mg x=none) (hv:bootBuiltins x=some (.type T)) (hg:Gl X x:=by rfl) (hn:x ≠ "__name__" := by decide) (hd:(x == ("__debug__" : Str))=false:=by decide):PE X (.Name x pos) (tC (.ty T)) :=
 pe_bltn hg hm hv rfl hn hd
def inS (i j:Str):Bool:=!(Builtin.Str.occurrences j i 0 j.length 1).isEmpty
def rInU (K:PySem.W.Frag) (neg:Bool):R2:=fun x y H Q=>match x,y with
 | .str i,.str j=>Q (.bl (if neg then !inS i j else inS i j)) H
 | _,.ref p=>(∃ o,DGet H p x o/\Q (.bl (if neg then !o.isSome else o.isSome)) H)\/rIn K neg x y H Q
 | _,_=>False
theorem CK {X:Cx} (hu:X.A.units+64<cLine):OpR X (compareOp .In) (rInU X.K false):=by
 intro pins s σ H x y v u Q I rx ry h
 unfold rInU at h
 split at h
 ·exact op_in_str pins s σ H _ _ v u Q I rx ry ⟨_,_,rfl,rfl,h⟩
 ·rcases h with ⟨o,g,q⟩ | h
  ·cases ry
   exact d_in (by lia) I g rx fun s3 I3=>⟨.bl o.isSome,H,I3,rfl,q⟩
  ·exact op_in_seq pins s σ H _ _ v u Q I rx ry h
 ·exact h.elim
theorem uP {X:Cx} (hu:X.A.units+64<cLine):OpR X (compareOp .NotIn) (rInU X.K true):=by
 intro pins s σ H x y v u Q I rx ry h
 unfold rInU at h
 split at h
 ·exact op_notin_str pins s σ H _ _ v u Q I rx ry ⟨_,_,rfl,rfl,h⟩
 ·rcases h with ⟨o,g,q⟩ | h
  ·cases ry
   exact d_notIn (by lia) I g rx fun s3 I3=>⟨.bl (!o.isSome),H,I3,rfl,q⟩
  ·exact op_notIn_seq pins s σ H _ _ v u Q I rx ry h
 ·exact h.elim
theorem Same.upd {H H':Hp} {p:Addr} {o:HO} (h:Same H H') (hp:H' p=none):Same H (upd H' p o):=fun b u e=>by
 have e':=h b u e
 rw [upd_ne (ne_of_none e' hp)]
 exact e'
theorem Same.lst {K:PySem.W.Frag} {H H':Hp} {a:Addr} {xs:List V} (e:Same H H') (h:SqL K H a xs):SqL K H' a xs:=e.seq h
theorem Same.tup {K:PySem.W.Frag} {H H':Hp} {a:Addr} {xs:List V} (e:Same H H') (h:SqT K H a xs):SqT K H' a xs:=by
 rcases h with (h | ⟨o,h⟩) | h
 ·exact .inl (.inl (e _ _ h))
 ·exact .inl (.inr ⟨o,e _ _ h⟩)
 ·exact .inr h
mutual
theorem Rep.same {K:PySem.W.Frag} {H H':Hp} (s:Same H H'):∀ {d:PyData} {v:V},Rep K H d v->Rep K H' d v
 | _,_,.none=>.none
 | _,_,.bool b=>.bool b
 | _,_,.int i=>.int i
 | _,_,.str x=>.str x
 | _,_,.list h hs=>.list (s.lst h) (Reps.same s hs)
 | _,_,.tuple h hs=>.tuple (s.tup h) (Reps.same s hs)
theorem Reps.same {K:PySem.W.Frag} {H H':Hp} (s:Same H H'):∀ {ds:List PyData} {vs:List V},Reps K H ds vs->Reps K H' ds vs
 | _,_,.nil=>.nil
 | _,_,.cons h hs=>.cons (Rep.same s h) (Reps.same s hs)
end
theorem SqL.new {K:PySem.W.Frag} {H:Hp} {p:Addr} {xs:List V}:SqL K (upd H p (.lst xs)) p xs:=.inl (.inl upd_same)
theorem SqT.new {K:PySem.W.Frag} {H:Hp} {p:Addr} {xs:List V}:SqT K (upd H p (.tup xs)) p xs:=.inl (.inl upd_same)
section
variable {X:Cx} {K:PySem.W.Frag}
theorem kEq (hu:X.A.units+64<cLine) (hK:X.K=K:=by rfl):OpR X (compareOp .Eq) (rEqU K):=by subst hK; exact BJ hu
theorem kNe (hu:X.A.units+64<cLine) (hK:X.K=K:=by rfl):OpR X (compareOp .NotEq) (rNeU K):=by subst hK; exact Bo hu
theorem kIn (hu:X.A.units+64<cLine) (hK:X.K=K:=by rfl):OpR X (compareOp .In) (rInU K false):=by subst hK; exact CK hu
theorem Cp (hu:X.A.units+64<cLine) (hK:X.K=K:=by rfl):OpR X (compareOp .NotIn) (rInU K true):=by subst hK; exact uP hu
end
theorem Ih {α:Type} {a:α} {p:α->Prop}:(∃ v,a=v/\p v)↔p a:=⟨fun ⟨_,e,h⟩=>e ▸ h,fun h=>⟨a,rfl,h⟩⟩
end L2
namespace L2
open PySem PySem.Spec PyProof.Rows
abbrev Ents:=Array DictEntry
def RawD (h:Heap) (d:Addr) (es:Ents) (ep:Nat):Prop:=∃ o,h.get? d=some o/\o.ExactDict/\o.data=.dict es ep
theorem RawD.typ {s:Shared} {d:Addr} {es:Ents} {ep:Nat} (x:RawD s.heap d es ep):s.TypeIs (.ref d) "dict" := let ⟨o,e,c,_⟩:=x; ⟨o,e,c.1⟩
section
variable {prog:Program} {w:World} {A:Around} {E:Value->Shared->Prop} {s:Shared} {d it:Addr} {es:Ents} {ep i:Nat}
theorem qU {Q:Value->Shared->Prop} (lo:(d == sysModules)=false) (x:RawD s.heap d es ep)
  (q:Q (.ref s.heap.objs.size) { s with heap:=s.heap.push { cls:=.type "dict_keyiterator",data:=.fields #[.ref d,.int 0 0,.int es.size 0,.int ep 0] } }):wpAny (model prog w) A (pyIter (.ref d)) Q E s:=by
 obtain ⟨o,ho,hc,hdat⟩:=id x
 refine wpAny_pyIter_slot x.typ F.slot_dict_iter (wpAny_call_entry F.slot_dict_iter x.typ F.entry_dict_iter ?_ (F.args_dict_iter_1 _))
 unfold Builtin.«dict.__iter__»
 refine xaa ?_
 unfold Builtin.Dict.dictSlotNone
 refine xaa (wpAny_notOrdered_dict x.typ ?_)
 refine (show wpAny _ _ (pure (Value.ref d)) _ _ s from xaf ?_)
 refine (show wpAny _ _ (Builtin.Dict.showsAll d >>= _) _ _ s from ?_)
 unfold Builtin.Dict.showsAll
 rw [if_neg (by rw [lo]; decide)]
 refine xaa (xaf (xaa (wpAny_dictEntries ho hdat (xaa (wpAny_dictEpoch ho hdat (xaa (wpAny_newObj_type (xaf ⟨_,rfl, "dict_keyiterator",_,⟨_,xaC _ rfl,rfl⟩,F.slot_dict_keyiterator_next.lookup,?_⟩))))))))
 simpa [rawInt] using q
theorem qw {Q:Option Value->Shared->Prop} (hit:s.heap.IsKeyIter it d i es.size ep) (x:RawD s.heap d es ep) (hx:i<es.size)
  (q:∀ h',h'.IsKeyIter it d (i+1) es.size ep->Heap.SameBut it s.heap h'->Q (some es[i].key) { s with heap:=h' }):wpAny (model prog w) A (pyNext (.ref it)) Q E s:=by
 obtain ⟨o,ho,hc,hd⟩:=id hit
 obtain ⟨od,hod,hcd,hdd⟩:=id x
 have ty:=hit.typeIs
 unfold pyNext
 refine xaa (wpAny_attempt (wpAny_callSpecial?_slot (name:=Str.ofString "__next__") ty F.slot_dict_keyiterator_next (wpAny_call_entry F.slot_dict_keyiterator_next ty F.entry_dict_keyiterator_next ?_ (F.args_dict_keyiterator_next_1 _))))
 refine xaa (xaf (xaa (xaa ?_)))
 first | refine xaa (wpAny_typeNameOfWhole_keyiter ty (xaf ?_)) | refine xaa (wpAny_typeNameOf_keyiter ty (xaf ?_))
 refine xaa (wpAny_fieldsOf ho hd ?_)
 simp only [show Builtin.Dict_items.ownsTuple "dict_keyiterator" = false by decide,xaq,if_false]
 refine (show wpAny _ _ (if (Value.ref d == Value.none)=true then _ else _) _ _ s from ?_)
 rw [if_neg (show ¬ ((Value.ref d == Value.none)=true) by intro h; cases h)]
 refine xaa (xaf (xaa (wpAny_dictEntries hod hdd ?_)))
 rw [if_neg (by intro h; simp at h)]
 refine xaa (xaf (xaa (wpAny_dictEpoch hod hdd ?_)))
 rw [if_neg (by intro h; simp at h)]
 refine xaf ?_
 simp only [show ¬ ((i:Int)<0) by lia,if_false,Int.toNat_natCast,xbj hx]
 refine xaa ?_
 first | refine xaa (wpAny_typeNameOfWhole_keyiter ty (xaf ?_)) | refine xaa (wpAny_typeNameOf_keyiter ty (xaf ?_))
 refine xaa (wpAny_isOneOf_keyiter ty ?_)
 refine (show wpAny _ _ (setField (.ref it) 1 (rawInt ((i:Int)+1)) >>= _) _ _ s from xaa (wpAny_setField ho hd (by simp) ?_))
 have hit':(s.heap.update it (Obj.mapFields (·.setIfInBounds 1 (rawInt ((i:Int)+1))))).IsKeyIter it d (i+1) es.size ep :=
  ⟨_,xbk _ ho (Obj.isFreed_of_fields (Obj.data_mapFields hd _)),(Obj.cls_mapFields ..).trans hc,by rw [Obj.data_mapFields hd]; simp [rawInt]⟩
 refine xaa (wpAny_holding (xaa (wpAny_isOneOf_keyiter (s:={ s with heap:=s.heap.update it (Obj.mapFields (·.setIfInBounds 1 (rawInt ((i:Int)+1)))) }) hit'.typeIs ?_)))
 refine (show wpAny _ _ (pure es[i].key) _ _ _ from xaf (xaf ⟨_,rfl,xaf (q _ hit' (Heap.SameBut.update ..))⟩))
theorem qT {Q:Option Value->Shared->Prop} (hh:A.handled=none) (hit:s.heap.IsKeyIter it d es.size es.size ep) (x:RawD s.heap d es ep) (q:∀ h',Heap.ExtBut it s.heap h'->Q none { s with heap:=h' }) :
  wpAny (model prog w) A (pyNext (.ref it)) Q E s:=by
 obtain ⟨o,ho,hc,hd⟩:=id hit
 obtain ⟨od,hod,hcd,hdd⟩:=id x
 have ty:=hit.typeIs
 unfold pyNext
 refine xaa (wpAny_attempt (wpAny_callSpecial?_slot (name:=Str.ofString "__next__") ty F.slot_dict_keyiterator_next (wpAny_call_entry F.slot_dict_keyiterator_next ty F.entry_dict_keyiterator_next ?_ (F.args_dict_keyiterator_next_1 _))))
 refine xaa (xaf (xaa (xaa ?_)))
 first | refine xaa (wpAny_typeNameOfWhole_keyiter ty (xaf ?_)) | refine xaa (wpAny_typeNameOf_keyiter ty (xaf ?_))
 refine xaa (wpAny_fieldsOf ho hd ?_)
 simp only [show Builtin.Dict_items.ownsTuple "dict_keyiterator" = false by decide,xaq,if_false]
 refine (show wpAny _ _ (if (Value.ref d == Value.none)=true then _ else _) _ _ s from ?_)
 rw [if_neg (show ¬ ((Value.ref d == Value.none)=true) by intro h; cases h)]
 refine xaa (xaf (xaa (wpAny_dictEntries hod hdd ?_)))
 rw [if_neg (by intro h; simp at h)]
 refine xaa (xaf (xaa (wpAny_dictEpoch hod hdd ?_)))
 rw [if_neg (by intro h; simp at h)]
 refine xaf ?_
 simp only [show ¬ ((es.size:Int)<0) by lia,if_false,Int.toNat_natCast,xaS (xag es.size)]
 refine xaa ?_
 first | refine xaa (wpAny_typeNameOfWhole_keyiter ty (xaf ?_)) | refine xaa (wpAny_typeNameOf_keyiter ty (xaf ?_))
 refine (show wpAny _ _ (setField (.ref it) 0 .none >>= _) _ _ s from xaa (wpAny_setField ho hd (by simp) ?_))
 refine (show wpAny _ _ (newExc (.type "StopIteration") [] >>= _) _ _ _ from xaa ?_)
 simp only [newExc,newTuple]
 refine xaa (wpAny_newObj_type ?_ (by size_fits))
 refine xaa (m:=firstArgMember _ _) (wpAny_of_eq (a:=Value.none) (by first | rfl | (simp only [firstArgMember]; rfl)) (wpAny_newObj_type ?_ (by size_fits)))
 simp only [raiseNew]
 refine xaa (wpAny_handled ?_)
 rw [show A.in1.handled=none from hh]
 refine xaa (xaf (wpAny_throw ?_))
 refine xaa (wpAny_isInstance (b:=true) (T := "StopIteration") ⟨_,xaC _ rfl,rfl⟩ isSubtype_stop ?_)
 exact xaf (q _ (((Heap.SameBut.update ..).extBut.push _).push _))
theorem RawD.at {h h':Heap} (x:RawD h d es ep) (e:∀ o,h.get? d=some o->h'.get? d=some o):RawD h' d es ep:=let ⟨o,ho,r⟩:=x; ⟨o,e o ho,r⟩
theorem RawD.lt {h:Heap} (x:RawD h d es ep):d<h.objs.size:=let ⟨_,e,_⟩:=x; xak e
theorem uQ (hh:A.handled=none) (I:Addr) (hne:d≠I):Walks prog w A I [I,d] [I] es.size (fun i v=>∃ e,es[i]? = some e/\v=e.key) (fun i h=>h.IsKeyIter I d i es.size ep/\RawD h d es ep) where
 sub:=fun b hb=>by simp at hb; simp [hb]
 frame:=fun _ _ _ st hk=>⟨st.1.at fun o e=>hk I (by simp) o e,st.2.at fun o e=>hk d (by simp) o e⟩
 item:=fun i s Q E hi st hQ=>qw st.1 st.2 hi fun h' a b=>hQ _ h' s.toks ⟨es[i],by simp [hi],rfl⟩ ⟨a,st.2.at fun o e=>b.extBut d o hne e⟩ fun c o hb e=>b.extBut c o (fun h=>hb (by simp [h])) e
 done:=fun s Q E st hQ=>qT hh st.1 st.2 fun h' he'=>hQ h' s.toks fun b o hb e=>he' b o (fun h=>hb (by simp [h])) e
 self:=fun _ _ _ _ st hQ=>wpAny_pyIter_keyiter st.1 hQ
theorem tM (lo:(d == sysModules)=false):PySem.W.KdlSrc prog w "dict" d d es.size (fun i v=>∃ e,es[i]? = some e/\v=e.key) (fun h=>RawD h d es ep) where
 type:=fun _ x=>x.typ
 there:=fun _ x=>⟨x.lt,x.lt⟩
 keep:=fun _ _ x hk=>x.at fun o e=>hk d (.inl rfl) o e
 notList:=by decide
 notTuple:=by decide
 hint:=fun _ _ _ _ x hq=>PySem.W.kdl_hint_dict x.typ hq
 iter:=fun _ _ hh x=>⟨_,_,(fun _ _ hq=>qU lo x hq),uQ hh _ (xaw x.lt),⟨⟨_,xaC _ rfl,rfl,rfl⟩,x.at fun o e=>xal _ e⟩⟩
end
theorem Paired.n0 {α β:Type} {R:α->β->Prop} {bs:List β} (h:Paired R [] bs):bs=[]:=by cases h; rfl
theorem Paired.c {α β:Type} {R:α->β->Prop} {a:α} {as:List α} {bs:List β} (h:Paired R (a :: as) bs):∃ b cs,bs=b :: cs/\R a b/\Paired R as cs:=by
 cases h with
 | cons r t=>exact ⟨_,_,rfl,r,t⟩
def cT (H:Hp) (ys:List V) (ks:List (List Key)):Prop:=Paired (fun (v:V) (k:List Key)=>∃ b,v=.ref b/\H b=some (.tup (k.map kV))) ys ks
section
variable {X:Cx}
def rB:List V->Hp->VK->Prop:=fun xs H Q=>match xs with
 | [.ref p]=>∃ kvs,Rd H p (.dT kvs)/\∀ ys l,cT H ys (kvs.map (·.1))->H l=none->Q (.ref l) (upd H l (.lst ys))
 | _=>False
theorem pL {prog:Program} {w:World} {H:Hp} {kvs:List (List Key × V)} {xs:List (List Key × Addr × Value)}
  (h:Paired (fun (p:List Key × V) (q:List Key × Addr × Value)=>p.1=q.1/\H q.2.1=some (.tup (p.1.map kV))/\RelV p.2 q.2.2) kvs xs) :
  cT H (xs.map fun q=>.ref q.2.1) (kvs.map (·.1))/\Vals (xs.map fun q=>.ref q.2.1) ((xs.map (entryOfKey (tupleKind (mixKind prog w)))).map (·.key)):=by
 induction h with
 | nil=>exact ⟨.nil,.nil⟩
 | cons r t ih=>exact ⟨.cons ⟨_,rfl,r.2.1⟩ ih.1,.cons rfl ih.2⟩
theorem rO (hc:X.calm=true):CallR X (.type "list") rB:=by
 intro pins s σ H xs us Q I r h
 unfold rB at h
 split at h
 ·rename_i p
  obtain ⟨kvs,e,q⟩:=h
  obtain ⟨u,rfl,ru⟩:=Vals.one r
  cases ru
  obtain ⟨z,y,ps,rel,o,es,ep,h1,h2,h3,h4,h5⟩:=(show ObjOk X.prog X.w H s.heap p (.dT kvs) from I.rd e)
  obtain ⟨ta,va⟩:=pL (prog:=X.prog) (w:=X.w) rel
  have hlen:es.size=kvs.length:=by
   have:=congrArg List.length h4
   rw [xaW,xab] at this
   rw [this]; exact rel.length.symm
  refine PySem.W.kdl_call (tM (es:=es) (ep:=ep) y) (I.ok.hd hc) ⟨o,h1,h2,h3⟩ (by lia) fun h' tk acc c kp eo hacc=>?_
  have hv:acc.toList=(ps.map (entryOfKey (tupleKind (mixKind X.prog X.w)))).map (·.key):=by
   apply xbA
   intro i
   by_cases hi:i<es.size
   ·have hi2:i<acc.size:=by rw [hacc.1]; exact hi
    obtain ⟨en,e1,e2⟩:=hacc.2 i acc[i] (by simp [hi2])
    rw [<- h4,xaE,xaD,xaD,e1]
    simp [hi2,e2]
   ·rw [<- h4,xaE,xaD,xaD,xaS (by rw [hacc.1]; lia),xaS (by lia)]
    rfl
  refine ⟨.ref s.heap.objs.size,_,I.laid (t':=tk) kp (xag _) (show ObjOk X.prog X.w _ h' _ (.lst (ps.map fun q=>.ref q.2.1)) from ⟨?_,acc.toList,c,?_,?_⟩),rfl,q _ _ ta (I.hok.fresh (xag _))⟩
  ·rw [xab,<- rel.length]; exact z
  ·rw [hv]; exact va
  ·rw [Array.toArray_toList]; exact eo
 ·exact h.elim
end
end L2
namespace Tim
open PySem PyProof.Rows
def R (r:Value->Int) (xs:Array Keyed) (i:Nat):Int:=match xs[i]? with
 | some p=>r p.1
 | none=>0
theorem cY {r:Value->Int} {xs ys:Array Keyed} {i j:Nat} (h:xs[i]? = ys[j]?):R r xs i=R r ys j:=by unfold R; rw [h]
def Cmp (prog:Program) (w:World) (A:Around) (s:Shared) (κ:SortKind) (r:Value->Int) (P:Value->Prop):Prop :=
 ∀ x y,P x->P y->∀ (Q:Bool->Shared->Prop) (E:Value->Shared->Prop),Q (decide (r x<r y)) s->wpAny (model prog w) A (keyLt' κ x y) Q E s
def AllP (P:Value->Prop) (xs:Array Keyed):Prop:=∀ p∈xs.toList,P p.1
theorem AllP.perm {P:Value->Prop} {xs ys:Array Keyed} (h:AllP P xs) (hp:ys.Perm xs):AllP P ys:=fun p hm=>h p ((xbN.mp hp).mem_iff.mp hm)
theorem AllP.at {P:Value->Prop} {xs:Array Keyed} (h:AllP P xs) {i:Nat} {p:Keyed} (e:xs[i]? = some p):P p.1:=h p (by
 obtain ⟨hi,rfl⟩:=xbu.mp e
 simp)
structure Win (lo hi:Nat) (st st':SortSt):Prop where
 kind:kindOf st'=kindOf st
 failed:failedOf st'=failedOf st
 pend:pendingOf st'=pendingOf st
 perm:(arrOf st').Perm (arrOf st)
 out:∀ k,k<lo\/hi<=k->(arrOf st')[k]? = (arrOf st)[k]?
theorem Win.refl (lo hi:Nat) (st:SortSt):Win lo hi st st:=⟨rfl,rfl,rfl,Array.Perm.refl _,fun _ _=>rfl⟩
theorem Win.trans {lo hi:Nat} {a b c:SortSt} (h:Win lo hi a b) (g:Win lo hi b c):Win lo hi a c :=
 ⟨g.kind.trans h.kind,g.failed.trans h.failed,g.pend.trans h.pend,g.perm.trans h.perm,fun k hk=>(g.out k hk).trans (h.out k hk)⟩
theorem Win.mono {lo hi lo' hi':Nat} {a b:SortSt} (h:Win lo hi a b) (h1:lo'<=lo) (h2:hi<=hi'):Win lo' hi' a b :=
 ⟨h.kind,h.failed,h.pend,h.perm,fun k hk=>h.out k (by lia)⟩
theorem Win.size {lo hi:Nat} {a b:SortSt} (h:Win lo hi a b):(arrOf b).size=(arrOf a).size:=h.perm.size_eq
def Up (r:Value->Int) (xs:Array Keyed) (lo hi:Nat):Prop:=∀ i j,lo<=i->i<=j->j<hi->R r xs i<=R r xs j
def Down (r:Value->Int) (xs:Array Keyed) (lo hi:Nat):Prop:=∀ i j,lo<=i->i<=j->j<hi->R r xs j<=R r xs i
theorem qF {r:Value->Int} {xs:Array Keyed} {src d:Nat} (hs:src<xs.size) (hd:d<=src) (k:Nat) :
  R r (bubble xs src d) k=if k=src - d then R r xs src else if src - d<k/\k<=src then R r xs (k - 1) else R r xs k:=by
 have e:=getElem?_bubble hs d hd k
 by_cases h1:k=src - d
 ·rw [if_pos h1] at e ⊢; exact cY e
 ·rw [if_neg h1] at e ⊢
  by_cases h2:src - d<k/\k<=src
  ·rw [if_pos h2] at e ⊢; exact cY e
  ·rw [if_neg h2] at e ⊢; exact cY e
theorem mJ {r:Value->Int} {xs:Array Keyed} {i j:Nat} (hj:j<=xs.size) (k:Nat) :
  R r (mirror xs i j ((j - i) / 2)) k=if i<=k/\k<j then R r xs (i+j - 1 - k) else R r xs k:=by
 have e:=getElem?_mirror_all (i:=i) hj k
 by_cases h1:i<=k/\k<j
 ·rw [if_pos h1] at e ⊢; exact cY e
 ·rw [if_neg h1] at e ⊢; exact cY e
theorem bQ {r:Value->Int} {xs:Array Keyed} {i j:Nat} (hj:j<=xs.size) (heq:∀ k,i<=k->k<j->R r xs k=R r xs (j - 1)) (k:Nat) :
  R r (mirror xs i j ((j - i) / 2)) k=R r xs k:=by
 rw [mJ hj]
 split
 ·rw [heq _ (by lia) (by lia),heq k (by lia) (by lia)]
 ·rfl
section
variable {prog:Program} {w:World} {A:Around} {E:Value->Shared->Prop} {s:Shared} {κ:SortKind} {r:Value->Int} {P:Value->Prop}
theorem oJ {st:SortSt} {x y:Keyed} {Q:Option Bool->SortSt->Prop} (C:Cmp prog w A s κ r P) (hk:kindOf st=κ) (hx:P x.1) (hy:P y.1) (h:Q (some (decide (r x.1<r y.1))) st) :
  wpS (model prog w) A E s (lt' x y) Q st:=by
 rw [lt'_eq]
 refine wpS_bind (wpS_get ?_)
 rw [hk]
 refine wpS_bind (wpS_lift (wpAny_attempt (C x.1 y.1 hx hy _ _ ⟨rfl,?_⟩)))
 exact wpS_pure h
theorem aL {xs:Array Keyed} {i:Nat} {Q:Keyed->SortSt->Prop} {st:SortSt} (hi:i<xs.size) (h:∀ p,xs[i]? = some p->Q p st):wpS (model prog w) A E s (elem' xs i) Q st:=by
 rw [elem'_eq,getElem?_pos xs i hi]
 exact wpS_pure (h _ (getElem?_pos xs i hi))
theorem jR {st:SortSt} {i j:Nat} {Q:Option Bool->SortSt->Prop} (C:Cmp prog w A s κ r P) (hk:kindOf st=κ) (hP:AllP P (arrOf st)) (hi:i<(arrOf st).size) (hj:j<(arrOf st).size)
  (h:Q (some (decide (R r (arrOf st) i<R r (arrOf st) j))) st):wpS (model prog w) A E s (ltAt' i j) Q st:=by
 rw [ltAt'_eq]
 refine wpS_bind (wpS_get ?_)
 show wpS _ _ _ _ (do let x <- elem' (arrOf st) i; let y <- elem' (arrOf st) j; lt' x y) Q st
 refine wpS_bind (aL hi fun p ep=>wpS_bind (aL hj fun q eq=>oJ C hk (hP.at ep) (hP.at eq) ?_))
 have e1:R r (arrOf st) i=r p.1:=by unfold R; rw [ep]
 have e2:R r (arrOf st) j=r q.1:=by unfold R; rw [eq]
 rw [<- e1,<- e2]
 exact h
theorem du {st:SortSt} {i j:Nat} {Q:Unit->SortSt->Prop} (h:Q () (setArr st (mirror (arrOf st) i j ((j - i) / 2)))) :
  wpS (model prog w) A E s (reverseSlice' i j) Q st:=by
 rw [reverseSlice'_eq]; exact wpS_modify h
theorem fL {st:SortSt} {i j:Nat} (hj:j<=(arrOf st).size):Win i j st (setArr st (mirror (arrOf st) i j ((j - i) / 2))) :=
 ⟨rfl,rfl,rfl,mirror_perm _ _ _ _,fun k hk=>by
  have e:=getElem?_mirror_all (i:=i) hj k
  rw [if_neg (by lia)] at e
  exact e⟩
theorem rQ {st:SortSt} {lo src d:Nat} (hs:src<(arrOf st).size) (hd:lo+d<=src):Win lo (src+1) st (setArr st (bubble (arrOf st) src d)) :=
 ⟨rfl,rfl,rfl,bubble_perm _ _ _,fun k hk=>by
  have e:=getElem?_bubble hs d (by walk_at "s4") k
  rw [if_neg (by lia),if_neg (by lia)] at e
  exact e⟩
theorem wpS_binarySort {st:SortSt} {lo n ok:Nat} {Q:Bool->SortSt->Prop} (C:Cmp prog w A s κ r P) (hk:kindOf st=κ) (hP:AllP P (arrOf st)) (hn:lo+n<=(arrOf st).size) (hok:ok<=n) (hs:Up r (arrOf st) lo (lo+ok))
  (h:∀ st',Win lo (lo+n) st st'->Up r (arrOf st') lo (lo+n)->Q true st'):wpS (model prog w) A E s (binarySort' lo n ok) Q st:=by
 rw [binarySort'_eq]
 refine wpS_bind (wpS_mono (wpS_forRange (I:=fun k c st'=>c=(none,())/\Win lo (lo+n) st st'/\Up r (arrOf st') lo (lo+min k n))
  (Q:=fun c st'=>c=(none,())/\Win lo (lo+n) st st'/\Up r (arrOf st') lo (lo+n)) ?step ?fin ?init) ?post)
 case post =>
  rintro c st' ⟨rfl,hB',hs'⟩
  exact wpS_pure (h st' hB' hs')
 case init =>
  refine ⟨rfl,.refl _ _ _,fun i j hl hij hj=>?_⟩
  by_cases h1:ok=0
  ·have:i=j:=by lia
   subst this; exact xbh _
  ·exact hs i j hl hij (by lia)
 case fin =>
  rintro c st' ⟨hc,hB',hs'⟩
  refine ⟨hc,hB',?_⟩
  rwa [show min (max (max ok 1) n) n=n by lia] at hs'
 case step =>
  rintro k c st' hak hkn ⟨rfl,hB',hs'⟩
  rw [show min k n=k by lia] at hs'
  have hsz:=hB'.size
  have hk':kindOf st'=κ:=hB'.kind.trans hk
  have hP':=hP.perm hB'.perm
  refine wpS_bind (wpS_mono (wpS_forRange (I:=fun x c st''=>st''=st'/\∃ l r',c=(none,l,r')/\l<=r'/\r'<=k/\r' - l<=k - x /\
    (∀ i,lo<=i->i<lo+l->R r (arrOf st') i<=R r (arrOf st') (lo+k))/\(∀ i,lo+r'<=i->i<lo+k->R r (arrOf st') (lo+k)<R r (arrOf st') i))
   (Q:=fun c st''=>st''=st'/\∃ l r',c=(none,l,r')/\l<=k /\
    (∀ i,lo<=i->i<lo+l->R r (arrOf st') i<=R r (arrOf st') (lo+k))/\(∀ i,lo+l<=i->i<lo+k->R r (arrOf st') (lo+k)<R r (arrOf st') i)) ?istep ?ifin ?iinit) ?ipost)
  case iinit=>exact ⟨rfl,0,k,rfl,by exact xap _,by exact xag _,by exact xcs _ _,fun i _ hi=>by lia,fun i h1 h2=>by lia⟩
  case ifin =>
   rintro c st'' ⟨rfl,l,r',rfl,hlr,hrk,hm,hlo,hhi⟩
   have:l=r':=by lia
   subst this
   exact ⟨rfl,l,l,rfl,hrk,hlo,hhi⟩
  case istep =>
   rintro x c st'' _ hxk ⟨rfl,l,r',rfl,hlr,hrk,hm,hlo,hhi⟩
   dsimp only
   by_cases hge:l >= r'
   ·rw [if_pos hge]
    have:l=r':=by exact Nat.le_antisymm ‹_› ‹_›
    subst this
    exact wpS_pure ⟨rfl,l,l,rfl,hrk,hlo,hhi⟩
   ·rw [if_neg hge]
    refine wpS_bind (jR C hk' hP' (by lia) (by lia) ?_)
    by_cases hless:R r (arrOf st'') (lo+k)<R r (arrOf st'') (lo+(l+r') / 2)
    ·simp only [hless,decide_true,if_true]
     refine wpS_pure ⟨rfl,l,(l+r') / 2,rfl,by lia,by lia,by lia,hlo,fun i h1 h2=>?_⟩
     exact Int.lt_of_lt_of_le hless (hs' _ _ (by exact xaU _ _) h1 h2)
    ·simp only [hless,decide_false,xaq,if_false]
     refine wpS_pure ⟨rfl,(l+r') / 2+1,r',rfl,by lia,by lia,by lia,fun i h0 h1=>?_,hhi⟩
     exact xa5 (hs' i (lo+(l+r') / 2) h0 (by lia) (by lia)) (xcr.mp hless)
  case ipost =>
   rintro c st'' ⟨rfl,l,r',rfl,hlk,hlo,hhi⟩
   show wpS _ _ _ _ (do moveDown' (lo+k) (lo+l); pure (ForInStep.yield (none,()))) _ _
   rw [moveDown'_eq]
   have hks:lo+k<(arrOf st'').size:=by lia
   refine wpS_bind (wpS_modify (wpS_pure ⟨rfl,hB'.trans ((rQ (lo:=lo) hks (by lia)).mono (xag _) (by lia)),?_⟩))
   rw [show min (k+1) n=k+1 by exact Nat.min_eq_left ‹_›]
   intro i j hl hij hj
   show R r (bubble (arrOf st'') (lo+k) (lo+k - (lo+l))) i<=R r (bubble (arrOf st'') (lo+k) (lo+k - (lo+l))) j
   rw [qF hks (by exact xcs _ _),qF hks (by exact xcs _ _),show lo+k - (lo+k - (lo+l))=lo+l by lia]
   repeat' split
   all_goals first
    | (exfalso; lia)
    | exact xbh _
    | exact hlo _ (by lia) (by lia)
    | exact xbf (hhi _ (by lia) (by lia))
    | exact hs' _ _ (by lia) (by lia) (by lia)
end
def ascL (lo a nrem:Nat):StateT SortSt Sem AscSt :=
 forIn [a:nrem] ((none,a):AscSt) fun _ __s=>do
  let __x ← ltAt' (lo + __s.snd) (lo + __s.snd - 1)
  match __x with
  | some smaller=>if smaller=true then pure (ForInStep.done (none,__s.snd)) else pure (ForInStep.yield (none,__s.snd+1))
  | _=>pure (ForInStep.done (some none,__s.snd))
def pD (lo n nrem:Nat):StateT SortSt Sem (Option Nat):=do
 reverseSlice' lo (lo+n)
 let __s ← ascL lo n nrem
 match __s.fst with
 | some r=>pure r
 | none=>pure (some __s.snd)
def vN (lo n nrem:Nat):StateT SortSt Sem DescSt :=
 forIn [n:nrem] ((none,n,0):DescSt) fun _ __s=>do
  let __x ← ltAt' (lo + __s.snd.fst) (lo + __s.snd.fst - 1)
  match __x with
  | some smaller =>
   if smaller=true then
    if __s.snd.snd>0 then do
     reverseSlice' (lo+__s.snd.fst - (__s.snd.snd+1)) (lo+__s.snd.fst)
     pure (ForInStep.yield (none,__s.snd.fst+1,0))
    else pure (ForInStep.yield (none,__s.snd.fst+1,0))
   else do
    let __x ← ltAt' (lo+__s.snd.fst - 1) (lo+__s.snd.fst)
    match __x with
    | some larger =>
     if larger=true then pure (ForInStep.done (none,__s.snd.fst,__s.snd.snd))
     else pure (ForInStep.yield (none,__s.snd.fst+1,__s.snd.snd+1))
    | _=>pure (ForInStep.done (some none,__s.snd.fst,__s.snd.snd))
  | _=>pure (ForInStep.done (some none,__s.snd.fst,__s.snd.snd))
def e_ (lo n nrem:Nat):StateT SortSt Sem (Option Nat):=do
 liftM (rule "list.sort.descending-run")
 let __s ← vN lo (n+1) nrem
 match __s.fst with
 | some r=>pure r
 | none =>
  if __s.snd.snd>0 then do
   reverseSlice' (lo+__s.snd.fst - (__s.snd.snd+1)) (lo+__s.snd.fst)
   pD lo __s.snd.fst nrem
  else pD lo __s.snd.fst nrem
theorem pB (lo nrem:Nat):countRun' lo nrem=(do
  let __s ← ascL lo 1 nrem
  match __s.fst with
  | some r=>pure r
  | none =>
   if (__s.snd == nrem)=true then pure (some __s.snd)
   else if __s.snd>1 then do
    let __x ← ltAt' lo (lo+__s.snd - 1)
    match __x with
    | some rose=>if rose=true then pure (some __s.snd) else do
      reverseSlice' lo (lo+__s.snd)
      e_ lo __s.snd nrem
    | _=>pure none
   else e_ lo __s.snd nrem):=by
 rw [countRun'_eq]
 dsimp only
 unfold e_ pD vN ascL
 congr 1
 funext __s
 obtain ⟨r,n⟩:=__s
 cases r with
 | some r=>rfl
 | none =>
  dsimp only
  split
  ·rfl
  ·split
   ·congr 1
    funext x
    cases x with
    | none=>rfl
    | some rose =>
     dsimp only
     split
     ·rfl
     ·congr 1
      funext _r
      (congr 1; funext _u; congr 1; congr 1; funext s2; obtain ⟨r2,n2,q2⟩:=s2; cases r2 with
       | some r2=>rfl
       | none=>(dsimp only; split; (congr 1; funext _v; (congr 1; funext _w; congr 1; (funext s3; obtain ⟨r3,n3⟩:=s3; cases r3 <;> rfl))); (congr 1; funext _w; congr 1; (funext s3; obtain ⟨r3,n3⟩:=s3; cases r3 <;> rfl))))
   ·(congr 1; funext _u; congr 1; congr 1; funext s2; obtain ⟨r2,n2,q2⟩:=s2; cases r2 with
     | some r2=>rfl
     | none=>(dsimp only; split; (congr 1; funext _v; (congr 1; funext _w; congr 1; (funext s3; obtain ⟨r3,n3⟩:=s3; cases r3 <;> rfl))); (congr 1; funext _w; congr 1; (funext s3; obtain ⟨r3,n3⟩:=s3; cases r3 <;> rfl))))
section
variable {prog:Program} {w:World} {A:Around} {E:Value->Shared->Prop} {s:Shared} {κ:SortKind} {r:Value->Int} {P:Value->Prop}
theorem qG {st:SortSt} {lo a nrem:Nat} {Q:AscSt->SortSt->Prop} (C:Cmp prog w A s κ r P) (hk:kindOf st=κ) (hP:AllP P (arrOf st)) (hn:lo+nrem<=(arrOf st).size) (ha:1<=a) (han:a<=nrem)
  (hs:Up r (arrOf st) lo (lo+a))
  (h:∀ n,a<=n->n<=nrem->Up r (arrOf st) lo (lo+n)->(n=nrem\/R r (arrOf st) (lo+n)<R r (arrOf st) (lo+n - 1))->Q (none,n) st) :
  wpS (model prog w) A E s (ascL lo a nrem) Q st:=by
 unfold ascL
 refine wpS_forRange (I:=fun x c st'=>st'=st/\c=(none,x)/\Up r (arrOf st) lo (lo+x)) ?step ?fin ⟨rfl,rfl,hs⟩
 case fin =>
  rintro c st' ⟨rfl,rfl,hs'⟩
  rw [show max a nrem=nrem by lia] at hs' ⊢
  exact h nrem han (xag _) hs' (.inl rfl)
 case step =>
  rintro x c st' hax hxn ⟨rfl,rfl,hs'⟩
  dsimp only
  refine wpS_bind (jR C hk hP (by lia) (by lia) ?_)
  by_cases hless:R r (arrOf st') (lo+x)<R r (arrOf st') (lo+x - 1)
  ·simp only [hless,decide_true,if_true]
   exact wpS_pure (h x hax (by exact xaK ‹_›) hs' (.inr hless))
  ·simp only [hless,decide_false,xaq,if_false]
   refine wpS_pure ⟨rfl,rfl,fun i j hl hij hj=>?_⟩
   by_cases hjx:j<lo+x
   ·exact hs' i j hl hij hjx
   ·have hj':j=lo+x:=by lia
    subst hj'
    by_cases hi':i=lo+x
    ·subst hi'; exact xbh _
    ·exact xa5 (hs' i (lo+x - 1) hl (by lia) (by lia)) (xcr.mp hless)
theorem lE {st:SortSt} {lo n nrem:Nat} {Q:Option Nat->SortSt->Prop} (C:Cmp prog w A s κ r P) (hk:kindOf st=κ) (hP:AllP P (arrOf st)) (hn:lo+nrem<=(arrOf st).size) (h1:1<=n) (hnn:n<=nrem)
  (hs:Down r (arrOf st) lo (lo+n)) (h:∀ m st',Win lo (lo+nrem) st st'->1<=m->m<=nrem->Up r (arrOf st') lo (lo+m)->Q (some m) st') :
  wpS (model prog w) A E s (pD lo n nrem) Q st:=by
 unfold pD
 have hsz:lo+n<=(arrOf st).size:=by lia
 refine wpS_bind (du ?_)
 have hB':=fL (i:=lo) hsz
 refine wpS_bind (qG C (hB'.kind.trans hk) (hP.perm hB'.perm) (by rw [hB'.size]; exact hn) h1 hnn ?_ fun m hm1 hm2 hsm _=>wpS_pure (h m _ (hB'.mono (xag _) (by lia)) (by walk_at "s1") hm2 hsm))
 intro i j hl hij hj
 show R r (mirror (arrOf st) lo (lo+n) ((lo+n - lo) / 2)) i<=R r (mirror (arrOf st) lo (lo+n) ((lo+n - lo) / 2)) j
 rw [mJ hsz,mJ hsz,if_pos (by lia),if_pos (by lia)]
 exact hs _ _ (by lia) (by lia) (by lia)
theorem uC {st:SortSt} {lo n nrem:Nat} {Q:DescSt->SortSt->Prop} (C:Cmp prog w A s κ r P) (hk:kindOf st=κ) (hP:AllP P (arrOf st)) (hn:lo+nrem<=(arrOf st).size) (h1:1<=n) (hnn:n<=nrem)
  (hs:Down r (arrOf st) lo (lo+n))
  (h:∀ m neq st',Win lo (lo+nrem) st st'->n<=m->m<=nrem->Down r (arrOf st') lo (lo+m)->neq+1<=m->(∀ i,lo+m - (neq+1)<=i->i<lo+m->R r (arrOf st') i=R r (arrOf st') (lo+m - 1))->Q (none,m,neq) st') :
  wpS (model prog w) A E s (vN lo n nrem) Q st:=by
 unfold vN
 refine wpS_forRange (I:=fun x c st'=>∃ neq,c=(none,x,neq)/\Win lo (lo+nrem) st st'/\Down r (arrOf st') lo (lo+x)/\neq+1<=x /\
   (∀ i,lo+x - (neq+1)<=i->i<lo+x->R r (arrOf st') i=R r (arrOf st') (lo+x - 1))) ?step ?fin ⟨0,rfl,.refl _ _ _,hs,by lia,fun i h1 h2=>by congr 1; lia⟩
 case fin =>
  rintro c st' ⟨neq,rfl,hB',hs',hq,he⟩
  rw [show max n nrem=nrem by lia] at hs' hq he ⊢
  exact h nrem neq st' hB' hnn (xag _) hs' hq he
 case step =>
  rintro x c st' hax hxn ⟨neq,rfl,hB',hs',hq,he⟩
  dsimp only
  have hz:=hB'.size
  have hsz:lo+x<=(arrOf st').size:=by lia
  have hk':=hB'.kind.trans hk
  have hP':=hP.perm hB'.perm
  refine wpS_bind (jR C hk' hP' (by lia) (by lia) ?_)
  by_cases hless:R r (arrOf st') (lo+x)<R r (arrOf st') (lo+x - 1)
  ·simp only [hless,decide_true,if_true]
   have step1:∀ xs:Array Keyed,(∀ k,R r xs k=R r (arrOf st') k)->Down r xs lo (lo+(x+1)):=by
    intro xs hkk i j hl hij hj
    rw [hkk,hkk]
    by_cases hjx:j<lo+x
    ·exact hs' i j hl hij hjx
    ·have hj':j=lo+x:=by lia
     subst hj'
     by_cases hi':i=lo+x
     ·subst hi'; exact xbh _
     ·exact xa5 (xbf hless) (hs' i (lo+x - 1) hl (by lia) (by lia))
   by_cases hneq:neq>0
   ·rw [if_pos hneq]
    refine wpS_bind (du (wpS_pure ⟨0,rfl,hB'.trans ((fL hsz).mono (by lia) (by lia)),step1 _ (bQ hsz he),by exact xbw _,fun i h1 h2=>by congr 1; lia⟩))
   ·rw [if_neg hneq]
    exact wpS_pure ⟨0,rfl,hB',step1 _ (fun _=>rfl),by exact xbw _,fun i h1 h2=>by congr 1; lia⟩
  ·simp only [hless,decide_false,xaq,if_false]
   refine wpS_bind (jR C hk' hP' (by lia) (by lia) ?_)
   by_cases hlarger:R r (arrOf st') (lo+x - 1)<R r (arrOf st') (lo+x)
   ·simp only [hlarger,decide_true,if_true]
    exact wpS_pure (h x neq st' hB' hax (by exact xaK ‹_›) hs' hq he)
   ·simp only [hlarger,decide_false,xaq,if_false]
    have heqx:R r (arrOf st') (lo+x)=R r (arrOf st') (lo+x - 1):=by lia
    refine wpS_pure ⟨neq+1,rfl,hB',fun i j hl hij hj=>?_,by exact xbB ‹_›,fun i h1 h2=>?_⟩
    ·by_cases hjx:j<lo+x
     ·exact hs' i j hl hij hjx
     ·have hj':j=lo+x:=by lia
      subst hj'
      by_cases hi':i=lo+x
      ·subst hi'; exact xbh _
      ·rw [heqx]; exact hs' i (lo+x - 1) hl (by lia) (by lia)
    ·rw [show lo+(x+1) - 1=lo+x by rfl]
     by_cases hix:i=lo+x
     ·subst hix; rfl
     ·rw [heqx]; exact he i (by lia) (by lia)
theorem h_ {st:SortSt} {lo n nrem:Nat} {Q:Option Nat->SortSt->Prop} (C:Cmp prog w A s κ r P) (hk:kindOf st=κ) (hP:AllP P (arrOf st)) (hn:lo+nrem<=(arrOf st).size) (hnn:n+1<=nrem)
  (hs:Down r (arrOf st) lo (lo+(n+1))) (h:∀ m st',Win lo (lo+nrem) st st'->1<=m->m<=nrem->Up r (arrOf st') lo (lo+m)->Q (some m) st') :
  wpS (model prog w) A E s (e_ lo n nrem) Q st:=by
 unfold e_
 refine wpS_bind (wpS_lift (wpAny_rule ⟨rfl,?_⟩))
 refine wpS_bind (uC C hk hP hn (by exact xbw _) hnn hs fun m neq st' hB' hm1 hm2 hs' hq he=>?_)
 dsimp only
 have hz:=hB'.size
 have hsz:lo+m<=(arrOf st').size:=by lia
 have hk':=hB'.kind.trans hk
 have hP':=hP.perm hB'.perm
 by_cases hneq:neq>0
 ·rw [if_pos hneq]
  have hW:=fL (i:=lo+m - (neq+1)) hsz
  refine wpS_bind (du (lE C (hW.kind.trans hk') (hP'.perm hW.perm) (by rw [hW.size,hz]; exact hn) (by walk_at "s2") hm2 ?_ fun m2 st2 hB2=>h m2 st2 ((hB'.trans (hW.mono (by lia) (by lia))).trans hB2)))
  intro i j hl hij hj
  show R r (mirror (arrOf st') _ _ _) j<=R r (mirror (arrOf st') _ _ _) i
  rw [bQ hsz he,bQ hsz he]
  exact hs' i j hl hij hj
 ·rw [if_neg hneq]
  exact lE C hk' hP' (by rw [hz]; exact hn) (by lia) hm2 hs' fun m2 st2 hB2=>h m2 st2 (hB'.trans hB2)
theorem wpS_countRun {st:SortSt} {lo nrem:Nat} {Q:Option Nat->SortSt->Prop} (C:Cmp prog w A s κ r P) (hk:kindOf st=κ) (hP:AllP P (arrOf st)) (hn:lo+nrem<=(arrOf st).size) (h1:1<=nrem)
  (h:∀ m st',Win lo (lo+nrem) st st'->1<=m->m<=nrem->Up r (arrOf st') lo (lo+m)->Q (some m) st') :
  wpS (model prog w) A E s (countRun' lo nrem) Q st:=by
 rw [pB]
 refine wpS_bind (qG C hk hP hn (xag 1) h1 (fun i j hl hij hj=>by
  have:i=j:=by lia
  subst this; exact xbh _) fun n hn1 hn2 hsn hor=>?_)
 dsimp only
 by_cases hnn:n=nrem
 ·rw [if_pos (by simpa using hnn)]
  exact wpS_pure (h n st (.refl _ _ _) hn1 hn2 hsn)
 ·rw [if_neg (by simpa using hnn)]
  have hlt:R r (arrOf st) (lo+n)<R r (arrOf st) (lo+n - 1):=hor.resolve_left hnn
  by_cases hgt:n>1
  ·rw [if_pos hgt]
   refine wpS_bind (jR C hk hP (by lia) (by lia) ?_)
   by_cases hrose:R r (arrOf st) lo<R r (arrOf st) (lo+n - 1)
   ·simp only [hrose,decide_true,if_true]
    exact wpS_pure (h n st (.refl _ _ _) hn1 hn2 hsn)
   ·simp only [hrose,decide_false,xaq,if_false]
    have hsz:lo+n<=(arrOf st).size:=by lia
    have hall:∀ k,lo<=k->k<lo+n->R r (arrOf st) k=R r (arrOf st) (lo+n - 1):=by
     intro k hl hk
     have a1:=hsn lo k (by exact xag _) hl hk
     have a2:=hsn k (lo+n - 1) hl (by lia) (by lia)
     lia
    have hW:=fL (i:=lo) hsz
    refine wpS_bind (du (h_ C (hW.kind.trans hk) (hP.perm hW.perm) (by rw [hW.size]; exact hn) (by lia) ?_ fun m2 st2 hB2=>h m2 st2 ((hW.mono (xag _) (by lia)).trans hB2)))
    intro i j hl hij hj
    show R r (mirror (arrOf st) _ _ _) j<=R r (mirror (arrOf st) _ _ _) i
    rw [bQ hsz hall,bQ hsz hall]
    by_cases hjn:j<lo+n
    ·rw [hall i hl (by walk_at "s1"),hall j (by walk_at "s1") hjn]; exact xbh _
    ·have hj':j=lo+n:=by lia
     subst hj'
     by_cases hi':i=lo+n
     ·subst hi'; exact xbh _
     ·rw [hall i hl (by lia)]; exact xbf hlt
  ·rw [if_neg hgt]
   have hn1':n=1:=by lia
   subst hn1'
   refine h_ C hk hP hn (by lia) ?_ h
   intro i j hl hij hj
   by_cases hi':i=j
   ·subst hi'; exact xbh _
   ·have hi0:i=lo:=by lia
    have hj1:j=lo+1:=by lia
    subst hi0; subst hj1
    exact xbf hlt
end
def uR (left:Bool) (key:Keyed) (arr:Array Keyed) (base i:Nat):StateT SortSt Sem (Option Bool):=do
 let x ← elem' arr (base+i)
 if left then lt' x key else return (<- lt' key x).map (!·)
def jN:Bool->Keyed->Array Keyed->Nat->Nat->Nat->StateT SortSt Sem (Option Nat):=sortPriv% PySem.Builtin.gallop
section
variable {prog:Program} {w:World} {A:Around} {E:Value->Shared->Prop} {s:Shared} {κ:SortKind} {r:Value->Int} {P:Value->Prop}
def bey (r:Value->Int) (left:Bool) (key:Keyed) (arr:Array Keyed) (base i:Nat):Bool :=
 if left then decide (R r arr (base+i)<r key.1) else !decide (r key.1<R r arr (base+i))
theorem dI {st:SortSt} {left:Bool} {key:Keyed} {arr:Array Keyed} {base i:Nat} {Q:Option Bool->SortSt->Prop} (C:Cmp prog w A s κ r P) (hk:kindOf st=κ) (hP:AllP P arr) (hy:P key.1) (hi:base+i<arr.size)
  (h:Q (some (bey r left key arr base i)) st):wpS (model prog w) A E s (uR left key arr base i) Q st:=by
 unfold uR
 refine wpS_bind (aL hi fun p ep=>?_)
 have e1:R r arr (base+i)=r p.1:=by unfold R; rw [ep]
 unfold bey at h
 rw [e1] at h
 cases left with
 | true =>
  simp only [if_true] at h ⊢
  exact oJ C hk (hP.at ep) hy h
 | false =>
  simp only [xaq,if_false] at h ⊢
  exact wpS_bind (oJ C hk hy (hP.at ep) (wpS_pure h))
theorem xq {left:Bool} {key:Keyed} {arr:Array Keyed} {base n i j:Nat} (hu:Up r arr base (base+n)) (hij:i<=j) (hj:j<n) (h:bey r left key arr base j=true):bey r left key arr base i=true:=by
 have q:=hu (base+i) (base+j) (by exact xaU _ _) (by lia) (by lia)
 unfold bey at h ⊢
 cases left with
 | true=>simp only [if_true,decide_eq_true_eq] at h ⊢; lia
 | false=>simp only [xaq,if_false,xcp,decide_eq_false_iff_not] at h ⊢; lia
theorem cW {st:SortSt} {left:Bool} {key:Keyed} {arr:Array Keyed} {base n hint:Nat} {Q:Option Nat->SortSt->Prop} (C:Cmp prog w A s κ r P) (hk:kindOf st=κ) (hP:AllP P arr) (hy:P key.1) (hn:base+n<=arr.size) (hh:hint<n)
  (hu:Up r arr base (base+n))
  (h:∀ k,k<=n->(∀ i,i<k->bey r left key arr base i=true)->(∀ i,k<=i->i<n->bey r left key arr base i=false)->Q (some k) st):wpS (model prog w) A E s (jN left key arr base n hint) Q st:=by
 have mono:∀ {i j},i<=j->j<n->bey r left key arr base j=true->bey r left key arr base i=true:=fun a b c=>xq hu a b c
 have monoF:∀ {i j},i<=j->j<n->bey r left key arr base i=false->bey r left key arr base j=false:=fun {i j} a b c=>by
  cases q:bey r left key arr base j with
  | false=>rfl
  | true=>rw [mono a b q] at c; cases c
 refine wpS_bind (dI C hk hP hy (by lia) ?_)
 dsimp only
 cases q0:bey r left key arr base hint with
 | true =>
  simp only [if_true]
  refine wpS_bind (wpS_mono (wpS_forRange (I:=fun x c st'=>st'=st/\∃ lst ofs,c=(none,lst,ofs)/\lst<ofs/\lst<n - hint/\x+1<=ofs/\bey r left key arr base (hint+lst)=true)
   (Q:=fun c st'=>st'=st/\∃ lst ofs,c=(none,lst,ofs)/\lst<ofs/\lst<n - hint/\bey r left key arr base (hint+lst)=true/\(n - hint<=ofs\/bey r left key arr base (hint+ofs)=false)) ?step ?fin ?init) ?post)
  case init=>exact ⟨rfl,0,1,rfl,by exact xbw _,by lia,by exact xbw _,q0⟩
  case fin =>
   rintro c st' ⟨rfl,lst,ofs,rfl,h1,h2,h3,h4⟩
   exact ⟨rfl,lst,ofs,rfl,h1,h2,h4,.inl (by lia)⟩
  case step =>
   rintro x c st' _ hx ⟨rfl,lst,ofs,rfl,h1,h2,h3,h4⟩
   dsimp only
   by_cases hge:ofs >= n - hint
   ·rw [if_pos hge]
    exact wpS_pure ⟨rfl,lst,ofs,rfl,h1,h2,h4,.inl hge⟩
   ·rw [if_neg hge]
    refine wpS_bind (dI C hk hP hy (by lia) ?_)
    cases q:bey r left key arr base (hint+ofs) with
    | true =>
     simp only [Bool.not_true,xaq,if_false]
     exact wpS_pure ⟨rfl,_,_,rfl,by lia,by exact Nat.lt_of_not_le ‹_›,by lia,q⟩
    | false =>
     simp only [Bool.not_false,if_true]
     exact wpS_pure ⟨rfl,lst,ofs,rfl,h1,h2,h4,.inr q⟩
  case post =>
   rintro c st' ⟨rfl,lst,ofs,rfl,h1,h2,h4,h5⟩
   dsimp only
   generalize st'=st at *
   have hl:∀ i,i<hint+lst+1->bey r left key arr base i=true:=fun i hi=>mono (j:=hint+lst) (by lia) (by lia) h4
   have hhi:∀ i,hint+min ofs (n - hint)<=i->i<n->bey r left key arr base i=false:=fun i hi hin=>by
    rcases h5 with h5 | h5
    ·lia
    ·by_cases z:n - hint<=ofs
     ·lia
     ·exact monoF (i:=hint+ofs) (by lia) hin h5
   have hlh:hint+lst+1<=hint+min ofs (n - hint):=by lia
   have hhn:hint+min ofs (n - hint)<=n:=by lia
   generalize hint+lst+1=lo at *
   generalize hint+min ofs (n - hint)=hi at *
   refine wpS_bind (wpS_mono (wpS_forRange (I:=fun x c st'=>st'=st/\∃ l u,c=(none,l,u)/\l<=u/\u<=n/\u - l<=n - x/\(∀ i,i<l->bey r left key arr base i=true)/\(∀ i,u<=i->i<n->bey r left key arr base i=false))
    (Q:=fun c st'=>st'=st/\∃ l,c=(none,l,l)/\l<=n/\(∀ i,i<l->bey r left key arr base i=true)/\(∀ i,l<=i->i<n->bey r left key arr base i=false)) ?stepA ?finA ?initA) ?postA)
   case initA=>exact ⟨rfl,lo,hi,rfl,hlh,hhn,by lia,hl,hhi⟩
   case finA =>
    rintro c st' ⟨rfl,l,u,rfl,h1,h2,h3,h4,h5⟩
    have:l=u:=by lia
    subst this
    exact ⟨rfl,l,rfl,h2,h4,h5⟩
   case stepA =>
    rintro x c st' _ hx ⟨rfl,l,u,rfl,h1,h2,h3,h4,h5⟩
    dsimp only
    by_cases hge:l >= u
    ·rw [if_pos hge]
     have:l=u:=by exact Nat.le_antisymm ‹_› ‹_›
     subst this
     exact wpS_pure ⟨rfl,l,rfl,h2,h4,h5⟩
    ·rw [if_neg hge]
     refine wpS_bind (dI C hk hP hy (by lia) ?_)
     cases q:bey r left key arr base (l+(u - l) / 2) with
     | true =>
      simp only [if_true]
      exact wpS_pure ⟨rfl,_,_,rfl,by lia,by lia,by lia,fun i hi=>mono (j:=l+(u - l) / 2) (by lia) (by lia) q,h5⟩
     | false =>
      simp only [xaq,if_false]
      exact wpS_pure ⟨rfl,_,_,rfl,by exact xaU _ _,by lia,by lia,h4,fun i hi hin=>monoF (i:=l+(u - l) / 2) (by lia) hin q⟩
   case postA =>
    rintro c st' ⟨rfl,l,rfl,h2,h4,h5⟩
    exact wpS_pure (h l h2 h4 h5)
 | false =>
  simp only [xaq,if_false]
  refine wpS_bind (wpS_mono (wpS_forRange (I:=fun x c st'=>st'=st/\∃ lst ofs,c=(none,lst,ofs)/\lst<ofs/\lst<hint+1/\x+1<=ofs/\bey r left key arr base (hint - lst)=false)
   (Q:=fun c st'=>st'=st/\∃ lst ofs,c=(none,lst,ofs)/\lst<ofs/\lst<hint+1/\bey r left key arr base (hint - lst)=false/\(hint+1<=ofs\/bey r left key arr base (hint - ofs)=true)) ?step2 ?fin2 ?init2) ?post2)
  case init2=>exact ⟨rfl,0,1,rfl,by exact xbw _,by exact xbw _,by exact xbw _,q0⟩
  case fin2 =>
   rintro c st' ⟨rfl,lst,ofs,rfl,h1,h2,h3,h4⟩
   exact ⟨rfl,lst,ofs,rfl,h1,h2,h4,.inl (by walk_at "s2")⟩
  case step2 =>
   rintro x c st' _ hx ⟨rfl,lst,ofs,rfl,h1,h2,h3,h4⟩
   dsimp only
   by_cases hge:ofs >= hint+1
   ·rw [if_pos hge]
    exact wpS_pure ⟨rfl,lst,ofs,rfl,h1,h2,h4,.inl hge⟩
   ·rw [if_neg hge]
    refine wpS_bind (dI C hk hP hy (by lia) ?_)
    cases q:bey r left key arr base (hint - ofs) with
    | true =>
     simp only [if_true]
     exact wpS_pure ⟨rfl,lst,ofs,rfl,h1,h2,h4,.inr q⟩
    | false =>
     simp only [xaq,if_false]
     exact wpS_pure ⟨rfl,_,_,rfl,by lia,by exact Nat.lt_of_not_le ‹_›,by lia,q⟩
  case post2 =>
   rintro c st' ⟨rfl,lst,ofs,rfl,h1,h2,h4,h5⟩
   dsimp only
   generalize st'=st at *
   have hl:∀ i,i<hint+1 - min ofs (hint+1)->bey r left key arr base i=true:=fun i hi=>by
    rcases h5 with h5 | h5
    ·lia
    ·by_cases z:hint+1<=ofs
     ·lia
     ·exact mono (j:=hint - ofs) (by lia) (by lia) h5
   have hhi:∀ i,hint - lst<=i->i<n->bey r left key arr base i=false:=fun i hi hin=>monoF (i:=hint - lst) (by lia) hin h4
   have hlh:hint+1 - min ofs (hint+1)<=hint - lst:=by lia
   have hhn:hint - lst<=n:=by lia
   generalize hint+1 - min ofs (hint+1)=lo at *
   generalize hint - lst=hi at *
   refine wpS_bind (wpS_mono (wpS_forRange (I:=fun x c st'=>st'=st/\∃ l u,c=(none,l,u)/\l<=u/\u<=n/\u - l<=n - x/\(∀ i,i<l->bey r left key arr base i=true)/\(∀ i,u<=i->i<n->bey r left key arr base i=false))
    (Q:=fun c st'=>st'=st/\∃ l,c=(none,l,l)/\l<=n/\(∀ i,i<l->bey r left key arr base i=true)/\(∀ i,l<=i->i<n->bey r left key arr base i=false)) ?stepB ?finB ?initB) ?postB)
   case initB=>exact ⟨rfl,lo,hi,rfl,hlh,hhn,by lia,hl,hhi⟩
   case finB =>
    rintro c st' ⟨rfl,l,u,rfl,h1,h2,h3,h4,h5⟩
    have:l=u:=by lia
    subst this
    exact ⟨rfl,l,rfl,h2,h4,h5⟩
   case stepB =>
    rintro x c st' _ hx ⟨rfl,l,u,rfl,h1,h2,h3,h4,h5⟩
    dsimp only
    by_cases hge:l >= u
    ·rw [if_pos hge]
     have:l=u:=by exact Nat.le_antisymm ‹_› ‹_›
     subst this
     exact wpS_pure ⟨rfl,l,rfl,h2,h4,h5⟩
    ·rw [if_neg hge]
     refine wpS_bind (dI C hk hP hy (by lia) ?_)
     cases q:bey r left key arr base (l+(u - l) / 2) with
     | true =>
      simp only [if_true]
      exact wpS_pure ⟨rfl,_,_,rfl,by lia,by lia,by lia,fun i hi=>mono (j:=l+(u - l) / 2) (by lia) (by lia) q,h5⟩
     | false =>
      simp only [xaq,if_false]
      exact wpS_pure ⟨rfl,_,_,rfl,by exact xaU _ _,by lia,by lia,h4,fun i hi hin=>monoF (i:=l+(u - l) / 2) (by lia) hin q⟩
   case postB =>
    rintro c st' ⟨rfl,l,rfl,h2,h4,h5⟩
    exact wpS_pure (h l h2 h4 h5)
end
abbrev Le (r:Value->Int) (x y:Keyed):Prop:=r x.1<=r y.1
theorem R_at {r:Value->Int} {xs:Array Keyed} {i:Nat} {p:Keyed} (e:xs[i]? = some p):R r xs i=r p.1:=by unfold R; rw [e]
theorem Cj {r:Value->Int} {xs:Array Keyed} {i:Nat} (h:i<xs.size):R r xs i=r xs[i].1:=R_at (getElem?_pos xs i h)
structure MI (r:Value->Int) (a b out:Array Keyed) (ia ib:Nat):Prop where
 ha:ia<=a.size
 hb:ib<=b.size
 perm:out.toList.Perm (a.toList.take ia++b.toList.take ib)
 up:out.toList.Pairwise (Le r)
 la:∀ x∈out.toList,∀ i,ia<=i->i<a.size->r x.1<=R r a i
 lb:∀ x∈out.toList,∀ j,ib<=j->j<b.size->r x.1<=R r b j
section
variable {r:Value->Int} {a b out:Array Keyed} {ia ib:Nat}
theorem lJ {α:Type} {l:List α} {i:Nat} {x:α} (h:l[i]? = some x):l.take (i+1)=l.take i++[x]:=by
 rw [xbC,h]; rfl
theorem MI.pq (M:MI r a b out ia ib) (hA:Up r a 0 a.size) (hB:Up r b 0 b.size) {y:Keyed} (e:b[ib]? = some y) (hl:ia<a.size->R r b ib<=R r a ia):MI r a b (out.push y) ia (ib+1):=by
 have hib:ib<b.size:=(xbu.mp e).1
 have ey:=R_at (r:=r) e
 refine ⟨M.ha,hib,?_,?_,?_,?_⟩
 ·rw [xaF,lJ (x:=y) (by simpa using e),<- xa2]
  exact M.perm.append_right _
 ·rw [xaF,xbM]
  refine ⟨M.up,by simp,fun x hx z hz=>?_⟩
  have:z=y:=by simpa using hz
  subst this
  show r x.1<=r z.1
  rw [<- ey]
  exact M.lb x hx ib (xag _) hib
 ·intro x hx i hi hia
  rw [xaF] at hx
  rcases xah.mp hx with hx | hx
  ·exact M.la x hx i hi hia
  ·have:x=y:=by simpa using hx
   subst this
   rw [<- ey]
   exact xa5 (hl (by walk_at "s1")) (hA ia i (xap _) hi hia)
 ·intro x hx j hj hjb
  rw [xaF] at hx
  rcases xah.mp hx with hx | hx
  ·exact M.lb x hx j (by exact xaK ‹_›) hjb
  ·have:x=y:=by simpa using hx
   subst this
   rw [<- ey]
   exact hB ib j (xap _) (by exact xaK ‹_›) hjb
theorem MI.nQ (M:MI r a b out ia ib) (hA:Up r a 0 a.size) (hB:Up r b 0 b.size) {y:Keyed} (e:a[ia]? = some y) (hl:ib<b.size->R r a ia<=R r b ib):MI r a b (out.push y) (ia+1) ib:=by
 have hia:ia<a.size:=(xbu.mp e).1
 have ey:=R_at (r:=r) e
 refine ⟨hia,M.hb,?_,?_,?_,?_⟩
 ·rw [xaF,lJ (x:=y) (by simpa using e),xa2]
  refine (M.perm.append_right [y]).trans ?_
  rw [xa2]
  exact List.Perm.append_left _ xb6
 ·rw [xaF,xbM]
  refine ⟨M.up,by simp,fun x hx z hz=>?_⟩
  have:z=y:=by simpa using hz
  subst this
  show r x.1<=r z.1
  rw [<- ey]
  exact M.la x hx ia (xag _) hia
 ·intro x hx i hi hi2
  rw [xaF] at hx
  rcases xah.mp hx with hx | hx
  ·exact M.la x hx i (by exact xaK ‹_›) hi2
  ·have:x=y:=by simpa using hx
   subst this
   rw [<- ey]
   exact hA ia i (xap _) (by exact xaK ‹_›) hi2
 ·intro x hx j hj hjb
  rw [xaF] at hx
  rcases xah.mp hx with hx | hx
  ·exact M.lb x hx j hj hjb
  ·have:x=y:=by simpa using hx
   subst this
   rw [<- ey]
   exact xa5 (hl (by walk_at "s1")) (hB ib j (xap _) hj hjb)
theorem eX {xs:Array Keyed} {i k:Nat} (h:i+k<xs.size):xs.extract i (i+(k+1))=(xs.extract i (i+k)).push xs[i+k]:=by
 apply xb7.mp
 rw [xaF]
 simp only [xcf,xbP]
 rw [show i+(k+1) - i=k+1 by exact xbW ..,show i+k - i=k by exact xbW ..,xbC]
 congr 1
 rw [List.getElem?_drop]
 simp [h]
theorem MI.addA (hA:Up r a 0 a.size) (hB:Up r b 0 b.size):∀ (k:Nat) {out:Array Keyed} {ia:Nat},MI r a b out ia ib->ia+k<=a.size->(ib<b.size->∀ i,i<k->R r a (ia+i)<=R r b ib)->MI r a b (out++a.extract ia (ia+k)) (ia+k) ib
 | 0,out,ia,M,h1,h2=>by
  have:a.extract ia (ia+0) = #[]:=xbm (by simp only [xbl]; lia)
  rw [this]
  simpa using M
 | k+1,out,ia,M,h1,h2=>by
  have q:=MI.addA hA hB k M (by exact xaK ‹_›) fun hb i hi=>h2 hb i (by exact xbc ‹_›)
  have e:a[ia+k]? = some a[ia+k]:=getElem?_pos a (ia+k) (by assumption)
  have z:=q.nQ hA hB e fun hb=>h2 hb k (by exact xag _)
  rw [eX (by assumption),Array.append_push]
  exact z
theorem MI.addB (hA:Up r a 0 a.size) (hB:Up r b 0 b.size):∀ (k:Nat) {out:Array Keyed} {ib:Nat},MI r a b out ia ib->ib+k<=b.size->(ia<a.size->∀ i,i<k->R r b (ib+i)<=R r a ia)->MI r a b (out++b.extract ib (ib+k)) ia (ib+k)
 | 0,out,ib,M,h1,h2=>by
  have:b.extract ib (ib+0) = #[]:=xbm (by simp only [xbl]; lia)
  rw [this]
  simpa using M
 | k+1,out,ib,M,h1,h2=>by
  have q:=MI.addB hA hB k M (by exact xaK ‹_›) fun ha i hi=>h2 ha i (by exact xbc ‹_›)
  have e:b[ib+k]? = some b[ib+k]:=getElem?_pos b (ib+k) (by assumption)
  have z:=q.pq hA hB e fun ha=>h2 ha k (by exact xag _)
  rw [eX (by assumption),Array.append_push]
  exact z
def cB (r:Value->Int) (a b out:Array Keyed):Prop:=out.toList.Perm (a.toList++b.toList)/\out.toList.Pairwise (Le r)
theorem MI.whole (M:MI r a b out a.size b.size):cB r a b out:=by
 refine ⟨?_,M.up⟩
 have h:=M.perm
 rw [xb1 (by simp),xb1 (by simp)] at h
 exact h
theorem MI.Dt (M:MI r a b out ia b.size) (hA:Up r a 0 a.size) (hB:Up r b 0 b.size):cB r a b (out++a.extract ia a.size++b.extract b.size b.size):=by
 have e:b.extract b.size b.size = #[]:=by simp
 rw [e,xcl]
 have ha:=M.ha
 have q:=MI.addA hA hB (a.size - ia) M (by lia) fun hb=>absurd hb (xa0 _)
 rw [show ia+(a.size - ia)=a.size by exact xaN ‹_›] at q
 exact q.whole
theorem MI.Eg (M:MI r a b out a.size ib) (hA:Up r a 0 a.size) (hB:Up r b 0 b.size):cB r a b (out++a.extract a.size a.size++b.extract ib b.size):=by
 have e:a.extract a.size a.size = #[]:=by simp
 rw [e,xcl]
 have hb:=M.hb
 have q:=MI.addB hA hB (b.size - ib) M (by lia) fun ha=>absurd ha (xa0 _)
 rw [show ib+(b.size - ib)=b.size by exact xaN ‹_›] at q
 exact q.whole
theorem MI.endB (M:MI r a b out ia ib) (hA:Up r a 0 a.size) (hB:Up r b 0 b.size) (e:ib=b.size):cB r a b (out++a.extract ia a.size++b.extract ib b.size):=by subst e; exact M.Dt hA hB
theorem MI.endA (M:MI r a b out ia ib) (hA:Up r a 0 a.size) (hB:Up r b 0 b.size) (e:ia=a.size):cB r a b (out++a.extract ia a.size++b.extract ib b.size):=by subst e; exact M.Eg hA hB
theorem MI.Eb (M:MI r a b out ia ib) (hA:Up r a 0 a.size) (hB:Up r b 0 b.size) (hia:ia+1=a.size) (hg:∀ j,j<b.size->R r b j<=R r a ia):cB r a b (out++b.extract ib b.size++a.extract ia a.size):=by
 have hb:=M.hb
 have q:=MI.addB hA hB (b.size - ib) M (by lia) fun ha i hi=>hg _ (by lia)
 rw [show ib+(b.size - ib)=b.size by exact xaN ‹_›] at q
 have z:=MI.addA hA hB (a.size - ia) q (by lia) fun hb=>absurd hb (xa0 _)
 rw [show ia+(a.size - ia)=a.size by lia] at z
 exact z.whole
theorem MI.start (hA:Up r a 0 a.size) (hB:Up r b 0 b.size):MI r a b #[] 0 0:=⟨xap _,xap _,by simp,by simp,fun x hx=>by simp at hx,fun x hx=>by simp at hx⟩
end
def bN:Nat->StateT SortSt Sem Unit:=sortPriv% PySem.Builtin.setMinGallop
def qH:Array Keyed->Array Keyed->StateT SortSt Sem (Array Keyed):=sortPriv% PySem.Builtin.mergeLo
def rC:Array Keyed->Array Keyed->StateT SortSt Sem (Array Keyed):=sortPriv% PySem.Builtin.mergeHi
theorem jd (g:Nat):bN g=modify fun s=>SortSt.mk' (kindOf s) (arrOf s) (pendingOf s) g (failedOf s):=rfl
def Mg (st st':SortSt):Prop:=∃ g,st'=SortSt.mk' (kindOf st) (arrOf st) (pendingOf st) g (failedOf st)
theorem Mg.refl (st:SortSt):Mg st st:=⟨gallopOf st,rfl⟩
theorem Mg.kind {st st':SortSt} (h:Mg st st'):kindOf st'=kindOf st:=by obtain ⟨g,rfl⟩:=h; rfl
theorem Mg.set {st st':SortSt} (h:Mg st st') (g:Nat):Mg st (SortSt.mk' (kindOf st') (arrOf st') (pendingOf st') g (failedOf st')):=by obtain ⟨g',rfl⟩:=h; exact ⟨g,rfl⟩
section
variable {prog:Program} {w:World} {A:Around} {E:Value->Shared->Prop} {s:Shared} {r:Value->Int}
theorem gM {st:SortSt} {g:Nat} {Q:Unit->SortSt->Prop} (h:Q () (SortSt.mk' (kindOf st) (arrOf st) (pendingOf st) g (failedOf st))):wpS (model prog w) A E s (bN g) Q st:=by
 rw [jd]; exact wpS_modify h
theorem vX {key:Keyed} {arr:Array Keyed} {base i:Nat} (h:bey r false key arr base i=true):R r arr (base+i)<=r key.1:=by
 unfold bey at h; simp only [xaq,if_false,xcp,decide_eq_false_iff_not] at h; exact xcr.mp ‹_›
theorem vm {key:Keyed} {arr:Array Keyed} {base i:Nat} (h:bey r false key arr base i=false):r key.1<R r arr (base+i):=by
 unfold bey at h; simp only [xaq,if_false,Bool.not_eq_false',decide_eq_true_eq] at h; exact h
theorem zX {key:Keyed} {arr:Array Keyed} {base i:Nat} (h:bey r true key arr base i=true):R r arr (base+i)<r key.1:=by
 unfold bey at h; simp only [if_true,decide_eq_true_eq] at h; exact h
theorem qK {key:Keyed} {arr:Array Keyed} {base i:Nat} (h:bey r true key arr base i=false):r key.1<=R r arr (base+i):=by
 unfold bey at h; simp only [if_true,decide_eq_false_iff_not] at h; exact xcr.mp ‹_›
end
theorem Mg.trans {a b c:SortSt} (h:Mg a b) (g:Mg b c):Mg a c:=by obtain ⟨x,rfl⟩:=h; obtain ⟨y,rfl⟩:=g; exact ⟨y,rfl⟩
theorem zH {K G:Prop} (pk:K) (h:K->G):G:=h pk
abbrev SM:=StateT SortSt Sem
abbrev L1:=Option (Array Keyed) × Array Keyed × Nat × Nat × Nat
abbrev L2':=Option (Array Keyed) × Array Keyed × Nat × Nat × Nat × Nat
abbrev L3:=Option (Array Keyed) × Array Keyed × Nat × Nat × Nat × Nat × Nat
def loE (a b out:Array Keyed) (ia ib:Nat):Array Keyed:=out++a.extract ia a.size++b.extract ib b.size
def loF (a b out:Array Keyed) (ia ib:Nat):Array Keyed:=out++b.extract ib b.size++a.extract ia a.size
def lo3 (a b:Array Keyed) (mg ac bc ia ib:Nat) (out:Array Keyed):SM (ForInStep L3):=elem' a ia >>= fun p =>
 if (ia+1+1 == a.size)=true then pure (.done (some (loF a b (out.push p) (ia+1) ib),out.push p,ia+1,ib,mg,ac,bc))
 else if (decide (ac<7) && decide (bc<7))=true then pure (.done (none,out.push p,ia+1,ib,mg,ac,bc)) else pure (.yield (none,out.push p,ia+1,ib,mg,ac,bc))
def lo2 (a b:Array Keyed) (mg ac bc ia ib:Nat) (out:Array Keyed):SM (ForInStep L3):=elem' a ia >>= fun p=>jN true p b ib (b.size - ib) 0 >>= fun x=>match x with
 | some k=>if k>0 then
   if (ib+k == b.size)=true then pure (.done (some (loE a b (out++b.extract ib (ib+k)) ia (ib+k)),out++b.extract ib (ib+k),ia,ib+k,mg,ac,k))
   else lo3 a b mg ac k ia (ib+k) (out++b.extract ib (ib+k))
  else lo3 a b mg ac k ia ib out
 | _=>pure (.done (some (loE a b out ia ib),out,ia,ib,mg,ac,bc))
def lo1 (a b:Array Keyed) (mg ac bc ia ib:Nat) (out:Array Keyed):SM (ForInStep L3):=elem' b ib >>= fun p =>
 if (ib+1 == b.size)=true then pure (.done (some (loE a b (out.push p) ia (ib+1)),out.push p,ia,ib+1,mg,ac,bc)) else lo2 a b mg ac bc ia (ib+1) (out.push p)
def lo0 (a b:Array Keyed) (mg ac bc ia ib:Nat) (out:Array Keyed):SM (ForInStep L3):=bN mg >>= fun _=>elem' b ib >>= fun p=>jN false p a ia (a.size - ia) 0 >>= fun x=>match x with
 | some k=>if k>0 then
   if (ia+k+1 == a.size)=true then pure (.done (some (loF a b (out++a.extract ia (ia+k)) (ia+k) ib),out++a.extract ia (ia+k),ia+k,ib,mg,k,bc))
   else if (ia+k == a.size)=true then pure (.done (some (loE a b (out++a.extract ia (ia+k)) (ia+k) ib),out++a.extract ia (ia+k),ia+k,ib,mg,k,bc))
   else lo1 a b mg k bc (ia+k) ib (out++a.extract ia (ia+k))
  else lo1 a b mg k bc ia ib out
 | _=>pure (.done (some (loE a b out ia ib),out,ia,ib,mg,ac,bc))
def loG (a b:Array Keyed) (_:Nat) (s:L3):SM (ForInStep L3) :=
 if s.2.2.2.2.1>1 then lo0 a b (s.2.2.2.2.1 - 1) s.2.2.2.2.2.1 s.2.2.2.2.2.2 s.2.2.1 s.2.2.2.1 s.2.1 else lo0 a b s.2.2.2.2.1 s.2.2.2.2.2.1 s.2.2.2.2.2.2 s.2.2.1 s.2.2.2.1 s.2.1
def loA (a b:Array Keyed) (mg bc ia ib:Nat) (out:Array Keyed):SM (ForInStep L2'):=elem' b ib >>= fun p =>
 if (ib+1 == b.size)=true then pure (.done (some (loE a b (out.push p) ia (ib+1)),out.push p,ia,ib+1,0,bc+1))
 else if bc+1 >= mg then pure (.done (none,out.push p,ia,ib+1,0,bc+1)) else pure (.yield (none,out.push p,ia,ib+1,0,bc+1))
def loB (a b:Array Keyed) (mg ac ia ib:Nat) (out:Array Keyed):SM (ForInStep L2'):=elem' a ia >>= fun p =>
 if (ia+1+1 == a.size)=true then pure (.done (some (loF a b (out.push p) (ia+1) ib),out.push p,ia+1,ib,ac+1,0))
 else if ac+1 >= mg then pure (.done (none,out.push p,ia+1,ib,ac+1,0)) else pure (.yield (none,out.push p,ia+1,ib,ac+1,0))
def loI (a b:Array Keyed) (mg:Nat) (_:Nat) (s:L2'):SM (ForInStep L2'):=elem' b s.2.2.2.1 >>= fun pb=>elem' a s.2.2.1 >>= fun pa=>lt' pb pa >>= fun x=>match x with
 | some w=>if w=true then loA a b mg s.2.2.2.2.2 s.2.2.1 s.2.2.2.1 s.2.1 else loB a b mg s.2.2.2.2.1 s.2.2.1 s.2.2.2.1 s.2.1
 | _=>pure (.done (some (loE a b s.2.1 s.2.2.1 s.2.2.2.1),s.2.1,s.2.2.1,s.2.2.2.1,s.2.2.2.2.1,s.2.2.2.2.2))
def loP (a b:Array Keyed) (mg:Nat) (t:L2'):SM (ForInStep L1):=(liftM (rule "list.sort.gallop"):SM Unit) >>= fun _ =>
 forIn [:a.size+b.size] ((none,t.2.1,t.2.2.1,t.2.2.2.1,mg+1,t.2.2.2.2.1,t.2.2.2.2.2):L3) (loG a b) >>= fun u=>match u.1 with
 | some r=>pure (.done (some r,u.2.1,u.2.2.1,u.2.2.2.1,u.2.2.2.2.1))
 | none=>bN (u.2.2.2.2.1+1) >>= fun _=>pure (.yield (none,u.2.1,u.2.2.1,u.2.2.2.1,u.2.2.2.2.1+1))
def loO (a b:Array Keyed) (_:Nat) (s:L1):SM (ForInStep L1):=forIn [:a.size+b.size] ((none,s.2.1,s.2.2.1,s.2.2.2.1,0,0):L2') (loI a b s.2.2.2.2) >>= fun t=>match t.1 with
 | some r=>pure (.done (some r,t.2.1,t.2.2.1,t.2.2.2.1,s.2.2.2.2))
 | none=>loP a b s.2.2.2.2 t
def loM (a b:Array Keyed):SM (Array Keyed):=(liftM (rule "list.sort.merge-lo"):SM Unit) >>= fun _=>elem' b 0 >>= fun y =>
 if (1 == b.size)=true then pure (loE a b #[y] 0 1)
 else if (0+1 == a.size)=true then pure (loF a b #[y] 0 1)
 else get >>= fun st=>forIn [:a.size+b.size] ((none,#[y],0,1,gallopOf st):L1) (loO a b) >>= fun t=>match t.1 with
 | some r=>pure r
 | none=>(liftM (unsupported (α:=Array Keyed) "internal:list.sort.merge-bound"):SM (Array Keyed))
set_option smartUnfolding false in
theorem sJ:qH=loM:=rfl
section
variable {prog:Program} {w:World} {A:Around} {E:Value->Shared->Prop} {s:Shared} {κ:SortKind} {r:Value->Int} {P:Value->Prop} {a b out:Array Keyed} {mg ac bc ia ib N:Nat} {st:SortSt}
structure MC (prog:Program) (w:World) (A:Around) (s:Shared) (κ:SortKind) (r:Value->Int) (P:Value->Prop) (a b:Array Keyed):Prop where
 C:Cmp prog w A s κ r P
 pa:AllP P a
 pb:AllP P b
 hA:Up r a 0 a.size
 hB:Up r b 0 b.size
 hl:∀ i,i<a.size->R r b 0<=R r a i
 hg:∀ j,j<b.size->R r b j<=R r a (a.size - 1)
def HS {β:Type} (r:Value->Int) (a b:Array Keyed) (c:Option (Array Keyed) × β):Prop:=∃ out rest,c=(some out,rest)/\cB r a b out
def LY (r:Value->Int) (a b:Array Keyed) (N:Nat) (c:L3):Prop:=∃ out ia ib mg ac bc,c=(none,out,ia,ib,mg,ac,bc)/\MI r a b out ia ib/\ia+1<a.size/\ib<b.size/\N<=ia+ib
def LI (r:Value->Int) (a b:Array Keyed) (N:Nat) (c:L2'):Prop:=∃ out ia ib ac bc,c=(none,out,ia,ib,ac,bc)/\MI r a b out ia ib/\ia+1<a.size/\ib<b.size/\N<=ia+ib
theorem MC.last (c:MC prog w A s κ r P a b) (M:MI r a b out ia ib) (z:ia+1=a.size):cB r a b (loF a b out ia ib):=M.Eb c.hA c.hB z fun j hj=>by
 have:=c.hg j hj
 rwa [show a.size - 1=ia by lia] at this
theorem xM {Q:ForInStep L3->SortSt->Prop} (c:MC prog w A s κ r P a b) (M:MI r a b out ia ib) (h1:ia+1<a.size) (lt:R r a ia<=R r b ib) (h2:ib<b.size) (hN:N<=ia+ib) (D:∀ c,HS r a b c->Q (.done c) st) (Y:∀ c,LY r a b N c->Q (.done c) st/\Q (.yield c) st):wpS (model prog w) A E s (lo3 a b mg ac bc ia ib out) Q st:=by
 refine wpS_bind (aL (by exact xaY ‹_›) fun p e=>?_)
 have M2:=M.nQ c.hA c.hB e fun _=>lt
 by_cases z:ia+1+1=a.size
 ·rw [if_pos (by simpa using z)]
  exact wpS_pure (D _ ⟨_,_,rfl,c.last M2 z⟩)
 ·rw [if_neg (by simpa using z)]
  have y:=Y _ ⟨_,_,_,mg,ac,bc,rfl,M2,by lia,h2,by lia⟩
  split
  ·exact wpS_pure y.1
  ·exact wpS_pure y.2
theorem CG {Q:ForInStep L3->SortSt->Prop} (c:MC prog w A s κ r P a b) (hk:kindOf st=κ) (M:MI r a b out ia ib) (h1:ia+1<a.size) (h2:ib<b.size) (hN:N<=ia+ib) (D:∀ c,HS r a b c->Q (.done c) st) (Y:∀ c,LY r a b N c->Q (.done c) st/\Q (.yield c) st):wpS (model prog w) A E s (lo2 a b mg ac bc ia ib out) Q st:=by
 refine wpS_bind (aL (by exact xaY ‹_›) fun p e=>wpS_bind (cW c.C hk c.pb (c.pa.at e) (by lia) (by lia) (fun i j u v w=>c.hB i j (by exact xap _) v (by lia)) fun l hl1 hl2 hl3=>?_))
 have ra:=R_at (r:=r) e
 dsimp only
 have lt:ib+l<b.size->R r a ia<=R r b (ib+l):=fun z=>by have:=qK (hl3 l (xag _) (by lia)); lia
 by_cases l0:l>0
 ·have M5:=MI.addB c.hA c.hB l M (by lia) fun _ i hi=>by have:=zX (hl2 i hi); lia
  rw [if_pos l0]
  by_cases z:ib+l=b.size
  ·rw [if_pos (by simpa using z)]
   exact wpS_pure (D _ ⟨_,_,rfl,M5.endB c.hA c.hB z⟩)
  ·rw [if_neg (by simpa using z)]
   exact xM c M5 h1 (lt (by lia)) (by lia) (by walk_at "s4") D Y
 ·rw [if_neg l0]
  obtain rfl:l=0:=by lia
  exact xM c M h1 (lt h2) h2 hN D Y
theorem xG {Q:ForInStep L3->SortSt->Prop} (c:MC prog w A s κ r P a b) (hk:kindOf st=κ) (M:MI r a b out ia ib) (h1:ia+1<a.size) (lt:R r b ib<=R r a ia) (h2:ib<b.size) (hN:N<=ia+ib) (D:∀ c,HS r a b c->Q (.done c) st) (Y:∀ c,LY r a b N c->Q (.done c) st/\Q (.yield c) st):wpS (model prog w) A E s (lo1 a b mg ac bc ia ib out) Q st:=by
 refine wpS_bind (aL h2 fun p e=>?_)
 have M4:=M.pq c.hA c.hB e fun _=>lt
 by_cases z:ib+1=b.size
 ·rw [if_pos (by simpa using z)]
  exact wpS_pure (D _ ⟨_,_,rfl,M4.endB c.hA c.hB z⟩)
 ·rw [if_neg (by simpa using z)]
  exact CG c hk M4 h1 (by lia) (by exact xbY ‹_›) D Y
theorem Al {Q:ForInStep L3->SortSt->Prop} (c:MC prog w A s κ r P a b) (hk:kindOf st=κ) (M:MI r a b out ia ib) (h1:ia+1<a.size) (h2:ib<b.size) (hN:N<=ia+ib) (D:∀ st',Mg st st'->∀ c,HS r a b c->Q (.done c) st') (Y:∀ st',Mg st st'->∀ c,LY r a b N c->Q (.done c) st'/\Q (.yield c) st'):wpS (model prog w) A E s (lo0 a b mg ac bc ia ib out) Q st:=by
 have g:=(Mg.refl st).set mg
 refine wpS_bind (gM ?_)
 refine wpS_bind (aL h2 fun p e=>wpS_bind (cW c.C (g.kind.trans hk) c.pa (c.pb.at e) (by lia) (by lia) (fun i j u v w=>c.hA i j (by exact xap _) v (by lia)) fun k hk1 hk2 hk3=>?_))
 have rb:=R_at (r:=r) e
 dsimp only
 have lt:ia+k<a.size->R r b ib<=R r a (ia+k):=fun z=>by have:=vm (hk3 k (xag _) (by lia)); lia
 by_cases k0:k>0
 ·have M3:=MI.addA c.hA c.hB k M (by lia) fun _ i hi=>by have:=vX (hk2 i hi); lia
  rw [if_pos k0]
  by_cases z:ia+k+1=a.size
  ·rw [if_pos (by simpa using z)]
   exact wpS_pure (D _ g _ ⟨_,_,rfl,c.last M3 z⟩)
  ·rw [if_neg (by simpa using z)]
   by_cases z2:ia+k=a.size
   ·rw [if_pos (by simpa using z2)]
    exact wpS_pure (D _ g _ ⟨_,_,rfl,M3.endA c.hA c.hB z2⟩)
   ·rw [if_neg (by simpa using z2)]
    exact xG c (g.kind.trans hk) M3 (by lia) (lt (by lia)) h2 (by lia) (D _ g) (Y _ g)
 ·rw [if_neg k0]
  obtain rfl:k=0:=by lia
  exact xG c (g.kind.trans hk) M h1 (lt (by exact xaY ‹_›)) h2 hN (D _ g) (Y _ g)
theorem Ai {Q:ForInStep L2'->SortSt->Prop} (c:MC prog w A s κ r P a b) (M:MI r a b out ia ib) (h1:ia+1<a.size) (lt:R r b ib<=R r a ia) (h2:ib<b.size) (hN:N<=ia+ib+1) (D:∀ c,HS r a b c->Q (.done c) st) (Y:∀ c,LI r a b N c->Q (.done c) st/\Q (.yield c) st):wpS (model prog w) A E s (loA a b mg bc ia ib out) Q st:=by
 refine wpS_bind (aL h2 fun p e=>?_)
 have M2:=M.pq c.hA c.hB e fun _=>lt
 by_cases z:ib+1=b.size
 ·rw [if_pos (by simpa using z)]
  exact wpS_pure (D _ ⟨_,_,rfl,M2.endB c.hA c.hB z⟩)
 ·rw [if_neg (by simpa using z)]
  have y:=Y _ ⟨_,_,_,0,bc+1,rfl,M2,h1,by lia,hN⟩
  split
  ·exact wpS_pure y.1
  ·exact wpS_pure y.2
theorem Cz {Q:ForInStep L2'->SortSt->Prop} (c:MC prog w A s κ r P a b) (M:MI r a b out ia ib) (h1:ia+1<a.size) (lt:R r a ia<=R r b ib) (h2:ib<b.size) (hN:N<=ia+ib+1) (D:∀ c,HS r a b c->Q (.done c) st) (Y:∀ c,LI r a b N c->Q (.done c) st/\Q (.yield c) st):wpS (model prog w) A E s (loB a b mg ac ia ib out) Q st:=by
 refine wpS_bind (aL (by exact xaY ‹_›) fun p e=>?_)
 have M2:=M.nQ c.hA c.hB e fun _=>lt
 by_cases z:ia+1+1=a.size
 ·rw [if_pos (by simpa using z)]
  exact wpS_pure (D _ ⟨_,_,rfl,c.last M2 z⟩)
 ·rw [if_neg (by simpa using z)]
  have y:=Y _ ⟨_,_,_,ac+1,0,rfl,M2,by lia,h2,by lia⟩
  split
  ·exact wpS_pure y.1
  ·exact wpS_pure y.2
theorem Bd {Q:ForInStep L2'->SortSt->Prop} {x:Nat} (c:MC prog w A s κ r P a b) (hk:kindOf st=κ) (M:MI r a b out ia ib) (h1:ia+1<a.size) (h2:ib<b.size) (hN:N<=ia+ib+1) (D:∀ c,HS r a b c->Q (.done c) st) (Y:∀ c,LI r a b N c->Q (.done c) st/\Q (.yield c) st):wpS (model prog w) A E s (loI a b mg x (none,out,ia,ib,ac,bc)) Q st:=by
 refine wpS_bind (aL h2 fun pb eb=>wpS_bind (aL (show ia<a.size by exact xaY ‹_›) fun pa ea=>wpS_bind (oJ c.C hk (c.pb.at eb) (c.pa.at ea) ?_)))
 have rb:R r b ib=r pb.1:=R_at eb
 have ra:R r a ia=r pa.1:=R_at ea
 dsimp only
 by_cases hw:r pb.1<r pa.1
 ·rw [if_pos (decide_eq_true hw)]
  exact Ai c M h1 (by lia) h2 hN D Y
 ·rw [if_neg (by simpa using hw)]
  exact Cz c M h1 (by lia) h2 hN D Y
theorem Ay {Q:ForInStep L1->SortSt->Prop} (c:MC prog w A s κ r P a b) (hk:kindOf st=κ) (M:MI r a b out ia ib) (h1:ia+1<a.size) (h2:ib<b.size) (hN:N<=ia+ib) (D:∀ st',Mg st st'->∀ c,HS r a b c->Q (.done c) st')
  (Y:∀ st',Mg st st'->∀ out ia ib mg,MI r a b out ia ib->ia+1<a.size->ib<b.size->N<=ia+ib->Q (.yield (none,out,ia,ib,mg)) st'):wpS (model prog w) A E s (loP a b mg (none,out,ia,ib,ac,bc)) Q st:=by
 refine wpS_bind (wpS_lift (wpAny_rule ⟨rfl,?_⟩))
 refine wpS_bind (wpS_mono (wpS_forRange (I:=fun _ c st'=>Mg st st'/\LY r a b N c) (Q:=fun c st'=>Mg st st'/\(HS r a b c\/LY r a b N c)) ?step ?fin ⟨.refl st,_,_,_,_,_,_,rfl,M,h1,h2,hN⟩) ?post)
 case fin =>
  rintro c st' ⟨hm,q⟩
  exact ⟨hm,.inr q⟩
 case step =>
  rintro y c1 st1 _ _ ⟨hm,out,ia,ib,mg,ac,bc,rfl,M,h1,h2,hN⟩
  unfold loG
  dsimp only
  split <;> exact Al c (hm.kind.trans hk) M h1 h2 hN (fun st' g c q=>⟨hm.trans g,.inl q⟩) fun st' g c q=>⟨⟨hm.trans g,.inr q⟩,hm.trans g,q⟩
 case post =>
  rintro c st' ⟨hm,⟨o,rest,rfl,hM⟩ | ⟨out,ia,ib,mg,ac,bc,rfl,M,h1,h2,hN⟩⟩
  ·exact wpS_pure (D _ hm _ ⟨_,_,rfl,hM⟩)
  ·exact wpS_bind (gM (wpS_pure (Y _ (hm.set _) _ _ _ _ M h1 h2 hN)))
theorem Aw {Q:ForInStep L1->SortSt->Prop} {x:Nat} (c:MC prog w A s κ r P a b) (hk:kindOf st=κ) (M:MI r a b out ia ib) (h1:ia+1<a.size) (h2:ib<b.size) (hN:N<=ia+ib) (D:∀ st',Mg st st'->∀ c,HS r a b c->Q (.done c) st')
  (Y:∀ st',Mg st st'->∀ out ia ib mg,MI r a b out ia ib->ia+1<a.size->ib<b.size->N+1<=ia+ib->Q (.yield (none,out,ia,ib,mg)) st'):wpS (model prog w) A E s (loO a b x (none,out,ia,ib,mg)) Q st:=by
 refine wpS_bind (wpS_mono (wpS_forRange (I:=fun y c st'=>st'=st/\LI r a b (N+y) c) (Q:=fun c st'=>st'=st/\(HS r a b c\/LI r a b (N+1) c)) ?step ?fin ⟨rfl,_,_,_,_,_,rfl,M,h1,h2,hN⟩) ?post)
 case fin =>
  rintro c st' ⟨rfl,o,ia',ib',ac,bc,rfl,M',q1,q2,q3⟩
  exact ⟨rfl,.inr ⟨_,_,_,_,_,rfl,M',q1,q2,by lia⟩⟩
 case step =>
  rintro y c1 st1 _ hy ⟨rfl,o,ia',ib',ac,bc,rfl,M',q1,q2,q3⟩
  exact Bd (N:=N+y+1) c hk M' q1 q2 (by exact xbB ‹_›) (fun c q=>⟨rfl,.inl q⟩) fun c q=>by
   obtain ⟨o,ia,ib,ac,bc,rfl,M,h1,h2,h3⟩:=q
   exact ⟨⟨rfl,.inr ⟨_,_,_,_,_,rfl,M,h1,h2,by lia⟩⟩,rfl,_,_,_,_,_,rfl,M,h1,h2,by lia⟩
 case post =>
  rintro c1 st' ⟨rfl,⟨o,rest,rfl,hM⟩ | ⟨o,ia,ib,ac,bc,rfl,M',q1,q2,q3⟩⟩
  ·exact wpS_pure (D _ (.refl _) _ ⟨_,_,rfl,hM⟩)
  ·exact Ay c hk M' q1 q2 q3 D Y
theorem pO {st:SortSt} {a b:Array Keyed} {Q:Array Keyed->SortSt->Prop} (C:Cmp prog w A s κ r P) (hk:kindOf st=κ) (hPa:AllP P a) (hPb:AllP P b) (hA:Up r a 0 a.size) (hB:Up r b 0 b.size) (na:1<=a.size) (nb:1<=b.size)
  (h0:R r b 0<=R r a 0) (hg:∀ j,j<b.size->R r b j<=R r a (a.size - 1)) (h:∀ out st',cB r a b out->Mg st st'->Q out st'):wpS (model prog w) A E s (qH a b) Q st:=by
 have c:MC prog w A s κ r P a b:=⟨C,hPa,hPb,hA,hB,fun i hi=>xa5 h0 (hA 0 i (xag _) (xap _) hi),hg⟩
 rw [sJ]
 refine wpS_bind (wpS_lift (wpAny_rule ⟨rfl,?_⟩))
 refine wpS_bind (aL nb fun y0 e0=>?_)
 have M1:MI r a b #[y0] 0 1:=(MI.start hA hB).pq hA hB e0 fun _=>h0
 by_cases c1:1=b.size
 ·rw [if_pos (by simpa using c1)]
  exact wpS_pure (h _ _ (M1.endB hA hB c1) (.refl st))
 ·rw [if_neg (by simpa using c1)]
  by_cases c2:0+1=a.size
  ·rw [if_pos (by simpa using c2)]
   exact wpS_pure (h _ _ (c.last M1 c2) (.refl st))
  ·rw [if_neg (by simpa using c2)]
   refine wpS_bind (wpS_get ?_)
   refine wpS_bind (wpS_mono (wpS_forRange (I:=fun x c st'=>Mg st st'/\∃ out ia ib mg,c=(none,out,ia,ib,mg)/\MI r a b out ia ib/\ia+1<a.size/\ib<b.size/\x+1<=ia+ib)
    (Q:=fun c st'=>Mg st st'/\HS r a b c) ?step ?fin ⟨.refl st,_,_,_,_,rfl,M1,by lia,by lia,by exact xbw _⟩) ?post)
   case fin =>
    rintro c st' ⟨_,out,ia,ib,mg,rfl,M,h1,h2,h3⟩
    lia
   case post =>
    rintro c st' ⟨hm,out,rest,rfl,hM⟩
    exact wpS_pure (h out st' hM hm)
   case step =>
    rintro x c1 st1 _ hx ⟨hm1,out,ia,ib,mg,rfl,M,h1,h2,h3⟩
    exact Aw (N:=x+1) c (hm1.kind.trans hk) M h1 h2 h3 (fun st' g c q=>⟨hm1.trans g,q⟩) fun st' g out ia ib mg M h1 h2 h3=>⟨hm1.trans g,_,_,_,_,rfl,M,h1,h2,h3⟩
end
abbrev Ge (r:Value->Int) (x y:Keyed):Prop:=r y.1<=r x.1
structure MH (r:Value->Int) (a b out:Array Keyed) (na nb:Nat):Prop where
 ha:na<=a.size
 hb:nb<=b.size
 perm:out.toList.Perm (a.toList.drop na++b.toList.drop nb)
 down:out.toList.Pairwise (Ge r)
 ga:∀ x∈out.toList,∀ i,i<na->R r a i<=r x.1
 gb:∀ x∈out.toList,∀ j,j<nb->R r b j<=r x.1
section
variable {r:Value->Int} {a b out:Array Keyed} {na nb:Nat}
theorem oh {α:Type} {l:List α} {i:Nat} {x:α} (h0:0<i) (h:l[i - 1]? = some x):l.drop (i - 1)=x :: l.drop i:=by
 obtain ⟨hi,e⟩:=xan.mp h
 rw [xaT hi,e,show i - 1+1=i by exact Nat.sub_add_cancel ‹_›]
theorem MH.nQ (M:MH r a b out na nb) (hA:Up r a 0 a.size) (hB:Up r b 0 b.size) (h0:0<na) {y:Keyed} (e:a[na - 1]? = some y) (hl:0<nb->R r b (nb - 1)<=R r a (na - 1)):MH r a b (out.push y) (na - 1) nb:=by
 have ey:=R_at (r:=r) e
 have ha:=M.ha
 have hb:=M.hb
 refine ⟨by lia,M.hb,?_,?_,?_,?_⟩
 ·rw [xaF,oh (x:=y) h0 (by simpa using e)]
  refine (M.perm.append_right [y]).trans ?_
  exact xb6
 ·rw [xaF,xbM]
  refine ⟨M.down,by simp,fun x hx z hz=>?_⟩
  have:z=y:=by simpa using hz
  subst this
  show r z.1<=r x.1
  rw [<- ey]
  exact M.ga x hx (na - 1) (by exact xbQ ‹_› xbJ)
 ·intro x hx i hi
  rw [xaF] at hx
  rcases xah.mp hx with hx | hx
  ·exact M.ga x hx i (by walk_at "s4")
  ·have:x=y:=by simpa using hx
   subst this
   rw [<- ey]
   exact hA i (na - 1) (xap _) (by exact xaK ‹_›) (by lia)
 ·intro x hx j hj
  rw [xaF] at hx
  rcases xah.mp hx with hx | hx
  ·exact M.gb x hx j hj
  ·have:x=y:=by simpa using hx
   subst this
   rw [<- ey]
   exact xa5 (hB j (nb - 1) (xap _) (by lia) (by lia)) (hl (by lia))
theorem MH.pq (M:MH r a b out na nb) (hA:Up r a 0 a.size) (hB:Up r b 0 b.size) (h0:0<nb) {y:Keyed} (e:b[nb - 1]? = some y) (hl:0<na->R r a (na - 1)<=R r b (nb - 1)):MH r a b (out.push y) na (nb - 1):=by
 have ey:=R_at (r:=r) e
 have ha:=M.ha
 have hb:=M.hb
 refine ⟨M.ha,by lia,?_,?_,?_,?_⟩
 ·rw [xaF,oh (x:=y) h0 (by simpa using e)]
  refine (M.perm.append_right [y]).trans ?_
  rw [xa2]
  exact List.Perm.append_left _ xb6
 ·rw [xaF,xbM]
  refine ⟨M.down,by simp,fun x hx z hz=>?_⟩
  have:z=y:=by simpa using hz
  subst this
  show r z.1<=r x.1
  rw [<- ey]
  exact M.gb x hx (nb - 1) (by exact xbQ ‹_› xbJ)
 ·intro x hx i hi
  rw [xaF] at hx
  rcases xah.mp hx with hx | hx
  ·exact M.ga x hx i hi
  ·have:x=y:=by simpa using hx
   subst this
   rw [<- ey]
   exact xa5 (hA i (na - 1) (xap _) (by lia) (by lia)) (hl (by lia))
 ·intro x hx j hj
  rw [xaF] at hx
  rcases xah.mp hx with hx | hx
  ·exact M.gb x hx j (by walk_at "s4")
  ·have:x=y:=by simpa using hx
   subst this
   rw [<- ey]
   exact hB j (nb - 1) (xap _) (by exact xaK ‹_›) (by lia)
theorem jW {xs:Array Keyed} {i n:Nat} (h:i<n) (hn:n<=xs.size):(xs.extract i n).reverse = #[xs[n - 1]'(by lia)]++(xs.extract i (n - 1)).reverse:=by
 obtain ⟨k,rfl⟩:∃ k,n=i+(k+1):=⟨n - 1 - i,by lia⟩
 have e3:i+(k+1) - 1=i+k:=by rfl
 simp only [e3]
 rw [eX (by assumption),Array.reverse_push]
theorem MH.addA (hA:Up r a 0 a.size) (hB:Up r b 0 b.size):∀ (k:Nat) {out:Array Keyed} {na p:Nat},MH r a b out na nb->p+k=na->(0<nb->∀ i,p<=i->i<na->R r b (nb - 1)<=R r a i)->MH r a b (out++(a.extract p na).reverse) p nb
 | 0,out,na,p,M,h1,h2=>by
  have:a.extract p na = #[]:=xbm (by simp only [xbl]; lia)
  have e:na=p:=by walk_at "s1"
  subst e
  rw [this]
  simpa using M
 | k+1,out,na,p,M,h1,h2=>by
  have ha:=M.ha
  have e:a[na - 1]? = some (a[na - 1]'(by lia)):=getElem?_pos a (na - 1) (by lia)
  have q:=M.nQ hA hB (by lia) e fun hb=>h2 hb _ (by lia) (by lia)
  have z:=MH.addA hA hB k (p:=p) q (by lia) fun hb i hi1 hi2=>h2 hb i hi1 (by walk_at "s4")
  rw [jW (by lia) ha,<- xbt]
  simpa using z
theorem MH.addB (hA:Up r a 0 a.size) (hB:Up r b 0 b.size):∀ (k:Nat) {out:Array Keyed} {nb p:Nat},MH r a b out na nb->p+k=nb->(0<na->∀ i,p<=i->i<nb->R r a (na - 1)<=R r b i)->MH r a b (out++(b.extract p nb).reverse) na p
 | 0,out,nb,p,M,h1,h2=>by
  have:b.extract p nb = #[]:=xbm (by simp only [xbl]; lia)
  have e:nb=p:=by walk_at "s1"
  subst e
  rw [this]
  simpa using M
 | k+1,out,nb,p,M,h1,h2=>by
  have hb:=M.hb
  have e:b[nb - 1]? = some (b[nb - 1]'(by lia)):=getElem?_pos b (nb - 1) (by lia)
  have q:=M.pq hA hB (by lia) e fun ha=>h2 ha _ (by lia) (by lia)
  have z:=MH.addB hA hB k (p:=p) q (by lia) fun ha i hi1 hi2=>h2 ha i hi1 (by walk_at "s4")
  rw [jW (by lia) hb,<- xbt]
  simpa using z
theorem MH.whole (M:MH r a b out 0 0):cB r a b out.reverse:=by
 refine ⟨?_,?_⟩
 ·have h:=M.perm
  rw [List.drop_zero,List.drop_zero] at h
  rw [Array.toList_reverse]
  exact (List.reverse_perm _).trans h
 ·rw [Array.toList_reverse,List.pairwise_reverse]
  exact M.down
theorem mj (x y:Array Keyed):(x++y.reverse).reverse=y++x.reverse:=by
 apply xb7.mp
 simp
theorem MH.endA (M:MH r a b out na nb) (hA:Up r a 0 a.size) (hB:Up r b 0 b.size) (e:na=0):cB r a b (a.extract 0 na++b.extract 0 nb++out.reverse):=by
 subst e
 have z:=MH.addB hA hB nb (p:=0) M (by exact xci ..) fun ha=>absurd ha (xa0 _)
 have q:=z.whole
 rw [mj] at q
 have e2:a.extract 0 0 = #[]:=by simp
 rw [e2,Array.empty_append]
 exact q
theorem MH.endB (M:MH r a b out na nb) (hA:Up r a 0 a.size) (hB:Up r b 0 b.size) (e:nb=0):cB r a b (a.extract 0 na++b.extract 0 nb++out.reverse):=by
 subst e
 have z:=MH.addA hA hB na (p:=0) M (by exact xci ..) fun hb=>absurd hb (xa0 _)
 have q:=z.whole
 rw [mj] at q
 have e2:b.extract 0 0 = #[]:=by simp
 rw [e2,xcl]
 exact q
theorem MH.qW (M:MH r a b out na nb) (hA:Up r a 0 a.size) (hB:Up r b 0 b.size) (e:nb=1) (hl:∀ i,i<a.size->R r b 0<=R r a i):cB r a b (b.extract 0 nb++a.extract 0 na++out.reverse):=by
 subst e
 have ha:=M.ha
 have z:=MH.addA hA hB na (p:=0) M (by exact xci ..) fun _ i _ hi=>hl i (by walk_at "s1")
 have z2:=MH.addB hA hB 1 (p:=0) z (by exact xci ..) fun h=>absurd h (xa0 _)
 have q:=z2.whole
 rw [mj,mj] at q
 rw [xbt]
 exact q
theorem MH.start:MH r a b #[] a.size b.size:=⟨xag _,xag _,by simp,by simp,fun x hx=>by simp at hx,fun x hx=>by simp at hx⟩
end
abbrev S1:=Option (Array Keyed) × Nat × Nat × Array Keyed × Nat
abbrev S2:=Option (Array Keyed) × Nat × Nat × Array Keyed × Nat × Nat
abbrev S3:=Option (Array Keyed) × Nat × Nat × Array Keyed × Nat × Nat × Nat
def hiE (a b out:Array Keyed) (na nb:Nat):Array Keyed:=a.extract 0 na++b.extract 0 nb++out.reverse
def hiF (a b out:Array Keyed) (na nb:Nat):Array Keyed:=b.extract 0 nb++a.extract 0 na++out.reverse
def hi3 (a b:Array Keyed) (mg ac bc na nb:Nat) (out:Array Keyed):SM (ForInStep S3):=elem' a (na - 1) >>= fun p =>
 if (na - 1 == 0)=true then pure (.done (some (hiE a b (out.push p) (na - 1) nb),na - 1,nb,out.push p,mg,ac,bc))
 else if (decide (ac<7) && decide (bc<7))=true then pure (.done (none,na - 1,nb,out.push p,mg,ac,bc)) else pure (.yield (none,na - 1,nb,out.push p,mg,ac,bc))
def hi2 (a b:Array Keyed) (mg ac bc na nb:Nat) (out:Array Keyed):SM (ForInStep S3):=elem' a (na - 1) >>= fun p=>jN true p b 0 nb (nb - 1) >>= fun x=>match x with
 | some k=>if nb - k>0 then
   if (k == 1)=true then pure (.done (some (hiF a b (out++(b.extract k nb).reverse) na k),na,k,out++(b.extract k nb).reverse,mg,ac,nb - k))
   else if (k == 0)=true then pure (.done (some (hiE a b (out++(b.extract k nb).reverse) na k),na,k,out++(b.extract k nb).reverse,mg,ac,nb - k))
   else hi3 a b mg ac (nb - k) na k (out++(b.extract k nb).reverse)
  else hi3 a b mg ac (nb - k) na nb out
 | _=>pure (.done (some (hiE a b out na nb),na,nb,out,mg,ac,bc))
def hi1 (a b:Array Keyed) (mg ac bc na nb:Nat) (out:Array Keyed):SM (ForInStep S3):=elem' b (nb - 1) >>= fun p =>
 if (nb - 1 == 1)=true then pure (.done (some (hiF a b (out.push p) na (nb - 1)),na,nb - 1,out.push p,mg,ac,bc)) else hi2 a b mg ac bc na (nb - 1) (out.push p)
def hi0 (a b:Array Keyed) (mg ac bc na nb:Nat) (out:Array Keyed):SM (ForInStep S3):=bN mg >>= fun _=>elem' b (nb - 1) >>= fun p=>jN false p a 0 na (na - 1) >>= fun x=>match x with
 | some k=>if na - k>0 then
   if (k == 0)=true then pure (.done (some (hiE a b (out++(a.extract k na).reverse) k nb),k,nb,out++(a.extract k na).reverse,mg,na - k,bc))
   else hi1 a b mg (na - k) bc k nb (out++(a.extract k na).reverse)
  else hi1 a b mg (na - k) bc na nb out
 | _=>pure (.done (some (hiE a b out na nb),na,nb,out,mg,ac,bc))
def hiG (a b:Array Keyed) (_:Nat) (s:S3):SM (ForInStep S3) :=
 if s.2.2.2.2.1>1 then hi0 a b (s.2.2.2.2.1 - 1) s.2.2.2.2.2.1 s.2.2.2.2.2.2 s.2.1 s.2.2.1 s.2.2.2.1 else hi0 a b s.2.2.2.2.1 s.2.2.2.2.2.1 s.2.2.2.2.2.2 s.2.1 s.2.2.1 s.2.2.2.1
def hiA (a b:Array Keyed) (mg ac na nb:Nat) (out:Array Keyed):SM (ForInStep S2):=elem' a (na - 1) >>= fun p =>
 if (na - 1 == 0)=true then pure (.done (some (hiE a b (out.push p) (na - 1) nb),na - 1,nb,out.push p,ac+1,0))
 else if ac+1 >= mg then pure (.done (none,na - 1,nb,out.push p,ac+1,0)) else pure (.yield (none,na - 1,nb,out.push p,ac+1,0))
def hiB (a b:Array Keyed) (mg bc na nb:Nat) (out:Array Keyed):SM (ForInStep S2):=elem' b (nb - 1) >>= fun p =>
 if (nb - 1 == 1)=true then pure (.done (some (hiF a b (out.push p) na (nb - 1)),na,nb - 1,out.push p,0,bc+1))
 else if bc+1 >= mg then pure (.done (none,na,nb - 1,out.push p,0,bc+1)) else pure (.yield (none,na,nb - 1,out.push p,0,bc+1))
def hiI (a b:Array Keyed) (mg:Nat) (_:Nat) (s:S2):SM (ForInStep S2):=elem' b (s.2.2.1 - 1) >>= fun pb=>elem' a (s.2.1 - 1) >>= fun pa=>lt' pb pa >>= fun x=>match x with
 | some w=>if w=true then hiA a b mg s.2.2.2.2.1 s.2.1 s.2.2.1 s.2.2.2.1 else hiB a b mg s.2.2.2.2.2 s.2.1 s.2.2.1 s.2.2.2.1
 | _=>pure (.done (some (hiE a b s.2.2.2.1 s.2.1 s.2.2.1),s.2.1,s.2.2.1,s.2.2.2.1,s.2.2.2.2.1,s.2.2.2.2.2))
def hiP (a b:Array Keyed) (mg:Nat) (t:S2):SM (ForInStep S1):=(liftM (rule "list.sort.gallop"):SM Unit) >>= fun _ =>
 forIn [:a.size+b.size] ((none,t.2.1,t.2.2.1,t.2.2.2.1,mg+1,t.2.2.2.2.1,t.2.2.2.2.2):S3) (hiG a b) >>= fun u=>match u.1 with
 | some r=>pure (.done (some r,u.2.1,u.2.2.1,u.2.2.2.1,u.2.2.2.2.1))
 | none=>bN (u.2.2.2.2.1+1) >>= fun _=>pure (.yield (none,u.2.1,u.2.2.1,u.2.2.2.1,u.2.2.2.2.1+1))
def hiO (a b:Array Keyed) (_:Nat) (s:S1):SM (ForInStep S1):=forIn [:a.size+b.size] ((none,s.2.1,s.2.2.1,s.2.2.2.1,0,0):S2) (hiI a b s.2.2.2.2) >>= fun t=>match t.1 with
 | some r=>pure (.done (some r,t.2.1,t.2.2.1,t.2.2.2.1,s.2.2.2.2))
 | none=>hiP a b s.2.2.2.2 t
def hiM (a b:Array Keyed):SM (Array Keyed):=(liftM (rule "list.sort.merge-hi"):SM Unit) >>= fun _=>elem' a (a.size - 1) >>= fun y =>
 if (a.size - 1 == 0)=true then pure (hiE a b #[y] (a.size - 1) b.size)
 else if (b.size == 1)=true then pure (hiF a b #[y] (a.size - 1) b.size)
 else get >>= fun st=>forIn [:a.size+b.size] ((none,a.size - 1,b.size,#[y],gallopOf st):S1) (hiO a b) >>= fun t=>match t.1 with
 | some r=>pure r
 | none=>(liftM (unsupported (α:=Array Keyed) "internal:list.sort.merge-bound"):SM (Array Keyed))
set_option smartUnfolding false in
theorem rG:rC=hiM:=rfl
section
variable {prog:Program} {w:World} {A:Around} {E:Value->Shared->Prop} {s:Shared} {κ:SortKind} {r:Value->Int} {P:Value->Prop} {a b out:Array Keyed} {mg ac bc na nb N:Nat} {st:SortSt} {Q:ForInStep S3->SortSt->Prop}
def HD (r:Value->Int) (a b:Array Keyed) (Q:ForInStep S3->SortSt->Prop) (st:SortSt):Prop:=∀ o rest,cB r a b o->Q (.done (some o,rest)) st
def HY (r:Value->Int) (a b:Array Keyed) (N:Nat) (Q:ForInStep S3->SortSt->Prop) (st:SortSt):Prop :=
 ∀ o na nb mg ac bc,MH r a b o na nb->1<=na->2<=nb->na+nb<=N->Q (.done (none,na,nb,o,mg,ac,bc)) st/\Q (.yield (none,na,nb,o,mg,ac,bc)) st
theorem xR (c:MC prog w A s κ r P a b) (M:MH r a b out na nb) (h1:0<na) (lt:R r b (nb - 1)<=R r a (na - 1)) (h2:2<=nb) (hN:na+nb<=N) (D:HD r a b Q st) (Y:HY r a b N Q st):wpS (model prog w) A E s (hi3 a b mg ac bc na nb out) Q st:=by
 have ha:=M.ha
 refine wpS_bind (aL (by lia) fun p e=>?_)
 have M2:=M.nQ c.hA c.hB h1 e fun _=>lt
 by_cases z:na - 1=0
 ·rw [if_pos (by simpa using z)]
  exact wpS_pure (D _ _ (M2.endA c.hA c.hB z))
 ·rw [if_neg (by simpa using z)]
  have y:=Y _ _ _ mg ac bc M2 (by lia) h2 (by lia)
  split
  ·exact wpS_pure y.1
  ·exact wpS_pure y.2
theorem Cu (c:MC prog w A s κ r P a b) (hk:kindOf st=κ) (M:MH r a b out na nb) (h1:0<na) (h2:2<=nb) (hN:na+nb<=N) (D:HD r a b Q st) (Y:HY r a b N Q st):wpS (model prog w) A E s (hi2 a b mg ac bc na nb out) Q st:=by
 have ha:=M.ha
 have hb:=M.hb
 refine wpS_bind (aL (by lia) fun p e=>wpS_bind (cW c.C hk c.pb (c.pa.at e) (by lia) (by lia) (fun i j u v w=>c.hB i j u v (by lia)) fun l hl1 hl2 hl3=>?_))
 have ra:=R_at (r:=r) e
 dsimp only
 have lt:0<l->R r b (l - 1)<=R r a (na - 1):=fun z=>by have:=zX (hl2 (l - 1) (by exact xbQ ‹_› xbJ)); rw [xba] at this; lia
 by_cases l0:nb - l>0
 ·have M5:=MH.addB c.hA c.hB (nb - l) (p:=l) M (by exact xaN ‹_›) fun _ i hi1 hi2=>by have:=qK (hl3 i hi1 hi2); rw [xba] at this; lia
  rw [if_pos l0]
  by_cases z4:l=1
  ·rw [if_pos (by simpa using z4)]
   exact wpS_pure (D _ _ (M5.qW c.hA c.hB z4 c.hl))
  ·rw [if_neg (by simpa using z4)]
   by_cases z6:l=0
   ·rw [if_pos (by simpa using z6)]
    exact wpS_pure (D _ _ (M5.endB c.hA c.hB z6))
   ·rw [if_neg (by simpa using z6)]
    exact xR c M5 h1 (lt (by lia)) (by lia) (by lia) D Y
 ·rw [if_neg l0]
  obtain rfl:l=nb:=by lia
  exact xR c M h1 (lt (by exact xaY ‹_›)) h2 hN D Y
theorem xY (c:MC prog w A s κ r P a b) (hk:kindOf st=κ) (M:MH r a b out na nb) (h1:0<na) (h2:2<=nb) (lt:R r a (na - 1)<=R r b (nb - 1)) (hN:na+nb<=N) (D:HD r a b Q st) (Y:HY r a b N Q st):wpS (model prog w) A E s (hi1 a b mg ac bc na nb out) Q st:=by
 have hb:=M.hb
 refine wpS_bind (aL (by lia) fun p e=>?_)
 have M4:=M.pq c.hA c.hB (by exact xaY ‹_›) e fun _=>lt
 by_cases z:nb - 1=1
 ·rw [if_pos (by simpa using z)]
  exact wpS_pure (D _ _ (M4.qW c.hA c.hB z c.hl))
 ·rw [if_neg (by simpa using z)]
  exact Cu c hk M4 h1 (by lia) (by lia) D Y
theorem Cy (c:MC prog w A s κ r P a b) (hk:kindOf st=κ) (M:MH r a b out na nb) (h1:0<na) (h2:2<=nb) (hN:na+nb<=N) (D:∀ st',Mg st st'->HD r a b Q st') (Y:∀ st',Mg st st'->HY r a b N Q st'):wpS (model prog w) A E s (hi0 a b mg ac bc na nb out) Q st:=by
 have ha:=M.ha
 have hb:=M.hb
 have g:=(Mg.refl st).set mg
 refine wpS_bind (gM ?_)
 refine wpS_bind (aL (by lia) fun p e=>wpS_bind (cW c.C (g.kind.trans hk) c.pa (c.pb.at e) (by lia) (by exact xbQ ‹_› xbJ) (fun i j u v w=>c.hA i j u v (by lia)) fun k hk1 hk2 hk3=>?_))
 have rb:=R_at (r:=r) e
 dsimp only
 have lt:0<k->R r a (k - 1)<=R r b (nb - 1):=fun z=>by have:=vX (hk2 (k - 1) (by exact xbQ ‹_› xbJ)); rw [xba] at this; lia
 by_cases k0:na - k>0
 ·have M3:=MH.addA c.hA c.hB (na - k) (p:=k) M (by exact xaN ‹_›) fun _ i hi1 hi2=>by have:=vm (hk3 i hi1 hi2); rw [xba] at this; lia
  rw [if_pos k0]
  by_cases z:k=0
  ·rw [if_pos (by simpa using z)]
   exact wpS_pure (D _ g _ _ (M3.endA c.hA c.hB z))
  ·rw [if_neg (by simpa using z)]
   exact xY c (g.kind.trans hk) M3 (by lia) h2 (lt (by lia)) (by lia) (D _ g) (Y _ g)
 ·rw [if_neg k0]
  obtain rfl:k=na:=by lia
  exact xY c (g.kind.trans hk) M h1 h2 (lt h1) hN (D _ g) (Y _ g)
def HI (r:Value->Int) (a b:Array Keyed) (N:Nat) (c:S2):Prop:=∃ na nb out ac bc,c=(none,na,nb,out,ac,bc)/\MH r a b out na nb/\1<=na/\2<=nb/\na+nb<=N
theorem Bk {Q:ForInStep S2->SortSt->Prop} (c:MC prog w A s κ r P a b) (M:MH r a b out na nb) (h1:0<na) (lt:R r b (nb - 1)<=R r a (na - 1)) (h2:2<=nb) (hN:na+nb<=N+1) (D:∀ c,HS r a b c->Q (.done c) st) (Y:∀ c,HI r a b N c->Q (.done c) st/\Q (.yield c) st):wpS (model prog w) A E s (hiA a b mg ac na nb out) Q st:=by
 have ha:=M.ha
 refine wpS_bind (aL (by lia) fun p e=>?_)
 have M2:=M.nQ c.hA c.hB h1 e fun _=>lt
 by_cases z:na - 1=0
 ·rw [if_pos (by simpa using z)]
  exact wpS_pure (D _ ⟨_,_,rfl,M2.endA c.hA c.hB z⟩)
 ·rw [if_neg (by simpa using z)]
  have y:=Y _ ⟨_,_,_,ac+1,0,rfl,M2,by lia,h2,by lia⟩
  split
  ·exact wpS_pure y.1
  ·exact wpS_pure y.2
theorem Be {Q:ForInStep S2->SortSt->Prop} (c:MC prog w A s κ r P a b) (M:MH r a b out na nb) (h1:0<na) (lt:R r a (na - 1)<=R r b (nb - 1)) (h2:2<=nb) (hN:na+nb<=N+1) (D:∀ c,HS r a b c->Q (.done c) st) (Y:∀ c,HI r a b N c->Q (.done c) st/\Q (.yield c) st):wpS (model prog w) A E s (hiB a b mg bc na nb out) Q st:=by
 have hb:=M.hb
 refine wpS_bind (aL (by lia) fun p e=>?_)
 have M2:=M.pq c.hA c.hB (by exact xaY ‹_›) e fun _=>lt
 by_cases z:nb - 1=1
 ·rw [if_pos (by simpa using z)]
  exact wpS_pure (D _ ⟨_,_,rfl,M2.qW c.hA c.hB z c.hl⟩)
 ·rw [if_neg (by simpa using z)]
  have y:=Y _ ⟨_,_,_,0,bc+1,rfl,M2,h1,by lia,by lia⟩
  split
  ·exact wpS_pure y.1
  ·exact wpS_pure y.2
theorem CT {Q:ForInStep S2->SortSt->Prop} {x:Nat} (c:MC prog w A s κ r P a b) (hk:kindOf st=κ) (M:MH r a b out na nb) (h1:0<na) (h2:2<=nb) (hN:na+nb<=N+1) (D:∀ c,HS r a b c->Q (.done c) st) (Y:∀ c,HI r a b N c->Q (.done c) st/\Q (.yield c) st):wpS (model prog w) A E s (hiI a b mg x (none,na,nb,out,ac,bc)) Q st:=by
 have ha:=M.ha
 have hb:=M.hb
 refine wpS_bind (aL (show nb - 1<b.size by lia) fun pb eb=>wpS_bind (aL (show na - 1<a.size by lia) fun pa ea=>wpS_bind (oJ c.C hk (c.pb.at eb) (c.pa.at ea) ?_)))
 have rb:R r b (nb - 1)=r pb.1:=R_at eb
 have ra:R r a (na - 1)=r pa.1:=R_at ea
 dsimp only
 by_cases hw:r pb.1<r pa.1
 ·rw [if_pos (decide_eq_true hw)]
  exact Bk c M h1 (by lia) h2 hN D Y
 ·rw [if_neg (by simpa using hw)]
  exact Be c M h1 (by lia) h2 hN D Y
theorem Cv {Q:ForInStep S1->SortSt->Prop} (c:MC prog w A s κ r P a b) (hk:kindOf st=κ) (M:MH r a b out na nb) (h1:0<na) (h2:2<=nb) (hN:na+nb<=N) (D:∀ st',Mg st st'->∀ c,HS r a b c->Q (.done c) st')
  (Y:∀ st',Mg st st'->∀ out na nb mg,MH r a b out na nb->1<=na->2<=nb->na+nb<=N->Q (.yield (none,na,nb,out,mg)) st'):wpS (model prog w) A E s (hiP a b mg (none,na,nb,out,ac,bc)) Q st:=by
 refine wpS_bind (wpS_lift (wpAny_rule ⟨rfl,?_⟩))
 refine wpS_bind (wpS_mono (wpS_forRange (I:=fun _ c st'=>Mg st st'/\∃ na nb out mg ac bc,c=(none,na,nb,out,mg,ac,bc)/\MH r a b out na nb/\1<=na/\2<=nb/\na+nb<=N)
  (Q:=fun c st'=>Mg st st'/\(HS r a b c\/∃ na nb out mg ac bc,c=(none,na,nb,out,mg,ac,bc)/\MH r a b out na nb/\1<=na/\2<=nb/\na+nb<=N)) ?step ?fin ⟨.refl st,_,_,_,_,_,_,rfl,M,h1,h2,hN⟩) ?post)
 case fin =>
  rintro c st' ⟨hm,q⟩
  exact ⟨hm,.inr q⟩
 case step =>
  rintro y c1 st1 _ _ ⟨hm,na,nb,out,mg,ac,bc,rfl,M,h1,h2,hN⟩
  unfold hiG
  dsimp only
  split <;> exact Cy c (hm.kind.trans hk) M h1 h2 hN (fun st' g o rest hM=>⟨hm.trans g,.inl ⟨o,rest,rfl,hM⟩⟩) fun st' g o na nb mg ac bc M h1 h2 hN=>⟨⟨hm.trans g,.inr ⟨_,_,_,_,_,_,rfl,M,h1,h2,hN⟩⟩,hm.trans g,_,_,_,_,_,_,rfl,M,h1,h2,hN⟩
 case post =>
  rintro c st' ⟨hm,⟨o,rest,rfl,hM⟩ | ⟨na,nb,out,mg,ac,bc,rfl,M,h1,h2,hN⟩⟩
  ·exact wpS_pure (D _ hm _ ⟨_,_,rfl,hM⟩)
  ·exact wpS_bind (gM (wpS_pure (Y _ (hm.set _) _ _ _ _ M h1 h2 hN)))
theorem A_ {Q:ForInStep S1->SortSt->Prop} {x:Nat} (c:MC prog w A s κ r P a b) (hk:kindOf st=κ) (M:MH r a b out na nb) (h1:0<na) (h2:2<=nb) (hN:na+nb<=N+1) (D:∀ st',Mg st st'->∀ c,HS r a b c->Q (.done c) st')
  (Y:∀ st',Mg st st'->∀ out na nb mg,MH r a b out na nb->1<=na->2<=nb->na+nb<=N->Q (.yield (none,na,nb,out,mg)) st'):wpS (model prog w) A E s (hiO a b x (none,na,nb,out,mg)) Q st:=by
 have ha:=M.ha
 have hb:=M.hb
 refine wpS_bind (wpS_mono (wpS_forRange (I:=fun y c st'=>st'=st/\HI r a b (N+1 - y) c) (Q:=fun c st'=>st'=st/\(HS r a b c\/HI r a b N c)) ?step ?fin ⟨rfl,_,_,_,_,_,rfl,M,h1,h2,hN⟩) ?post)
 case fin =>
  rintro c st' ⟨rfl,na',nb',o,ac,bc,rfl,M',q1,q2,q3⟩
  exact ⟨rfl,.inr ⟨_,_,_,_,_,rfl,M',q1,q2,by lia⟩⟩
 case step =>
  rintro y c1 st1 _ hy ⟨rfl,na',nb',o,ac,bc,rfl,M',q1,q2,q3⟩
  exact CT (N:=N - y) c hk M' q1 q2 (by lia) (fun c q=>⟨rfl,.inl q⟩) fun c q=>by
   obtain ⟨na,nb,o,ac,bc,rfl,M,h1,h2,h3⟩:=q
   exact ⟨⟨rfl,.inr ⟨_,_,_,_,_,rfl,M,h1,h2,by walk_at "s4"⟩⟩,rfl,_,_,_,_,_,rfl,M,h1,h2,by lia⟩
 case post =>
  rintro c1 st' ⟨rfl,⟨o,rest,rfl,hM⟩ | ⟨na,nb,o,ac,bc,rfl,M',q1,q2,q3⟩⟩
  ·exact wpS_pure (D _ (.refl _) _ ⟨_,_,rfl,hM⟩)
  ·exact Cv c hk M' q1 q2 q3 D Y
theorem pW {st:SortSt} {a b:Array Keyed} {Q:Array Keyed->SortSt->Prop} (C:Cmp prog w A s κ r P) (hk:kindOf st=κ) (hPa:AllP P a) (hPb:AllP P b) (hA:Up r a 0 a.size) (hB:Up r b 0 b.size) (na:1<=a.size) (nb:1<=b.size)
  (h0:R r b 0<=R r a 0) (hg:∀ j,j<b.size->R r b j<=R r a (a.size - 1)) (h:∀ out st',cB r a b out->Mg st st'->Q out st'):wpS (model prog w) A E s (rC a b) Q st:=by
 have c:MC prog w A s κ r P a b:=⟨C,hPa,hPb,hA,hB,fun i hi=>xa5 h0 (hA 0 i (xag _) (xap _) hi),hg⟩
 rw [rG]
 refine wpS_bind (wpS_lift (wpAny_rule ⟨rfl,?_⟩))
 refine wpS_bind (aL (by exact xbQ ‹_› xbJ) fun y0 e0=>?_)
 have M1:MH r a b #[y0] (a.size - 1) b.size:=MH.start.nQ hA hB na e0 fun _=>hg _ (by exact xbQ ‹_› xbJ)
 by_cases c1:a.size - 1=0
 ·rw [if_pos (by simpa using c1)]
  exact wpS_pure (h _ _ (M1.endA hA hB c1) (.refl st))
 ·rw [if_neg (by simpa using c1)]
  by_cases c2:b.size=1
  ·rw [if_pos (by simpa using c2)]
   exact wpS_pure (h _ _ (M1.qW hA hB c2 c.hl) (.refl st))
  ·rw [if_neg (by simpa using c2)]
   refine wpS_bind (wpS_get ?_)
   refine wpS_bind (wpS_mono (wpS_forRange (I:=fun x c st'=>Mg st st'/\∃ na nb out mg,c=(none,na,nb,out,mg)/\MH r a b out na nb/\1<=na/\2<=nb/\na+nb<=a.size+b.size - x)
    (Q:=fun c st'=>Mg st st'/\HS r a b c) ?step ?fin ⟨.refl st,_,_,_,_,rfl,M1,by lia,by lia,by lia⟩) ?post)
   case fin =>
    rintro c st' ⟨_,na,nb,out,mg,rfl,M,h1,h2,h3⟩
    lia
   case post =>
    rintro c st' ⟨hm,out,rest,rfl,hM⟩
    exact wpS_pure (h out st' hM hm)
   case step =>
    rintro x c1 st1 _ hx ⟨hm1,na,nb,out,mg,rfl,M,h1,h2,h3⟩
    exact A_ (N:=a.size+b.size - (x+1)) c (hm1.kind.trans hk) M h1 h2 (by lia) (fun st' g c q=>⟨hm1.trans g,q⟩) fun st' g out na nb mg M h1 h2 h3=>⟨hm1.trans g,_,_,_,_,rfl,M,h1,h2,h3⟩
end
def wr (p:Nat) (m:List Keyed) (n:Nat) (xs:Array Keyed):Array Keyed:=(m.zipIdx n).foldl (fun a (q:Keyed × Nat)=>a.setIfInBounds (p+q.2) q.1) xs
theorem vy (p:Nat):∀ (m:List Keyed) (n:Nat) (xs:Array Keyed),p+n+m.length<=xs.size->∀ k:Nat,(wr p m n xs)[k]? = if p+n<=k/\k<p+n+m.length then m[k - (p+n)]? else xs[k]?
 | [],n,xs,h,k=>by
  rw [if_neg (by simp only [List.length_nil]; lia)]; rfl
 | q :: m,n,xs,h,k=>by
  have ih:=vy p m (n+1) (xs.setIfInBounds (p+n) q) (by rw [Array.size_setIfInBounds]; simp only [xaL] at h; lia) k
  have e:wr p (q :: m) n xs=wr p m (n+1) (xs.setIfInBounds (p+n) q):=by unfold wr; rw [List.zipIdx_cons,List.foldl_cons]
  simp only [xaL] at h ⊢
  rw [e,ih]
  by_cases h1:p+(n+1)<=k/\k<p+(n+1)+m.length
  ·rw [if_pos h1,if_pos (by lia),show k - (p+n)=(k - (p+(n+1)))+1 by lia,List.getElem?_cons_succ]
  ·rw [if_neg h1]
   by_cases h2:k=p+n
   ·subst h2
    rw [if_pos (by walk_at "s4"),Nat.sub_self,xbX,Array.getElem?_setIfInBounds_self_of_lt (by lia)]
   ·rw [if_neg (by lia),Array.getElem?_setIfInBounds_ne (by walk_at "s1")]
theorem yL {p:Nat} {m:List Keyed} {xs:Array Keyed} (h:p+m.length<=xs.size):(wr p m 0 xs).toList=xs.toList.take p++m++xs.toList.drop (p+m.length):=by
 have hl:xs.toList.length=xs.size:=by simp
 apply xbA
 intro k
 have e:=vy p m 0 xs h k
 rw [xcu] at e
 rw [xaD,e]
 by_cases h1:k<p
 ·rw [if_neg (by lia),xa2,xbg (by rw [xax]; lia),List.getElem?_take_of_lt h1,xaD]
 ·by_cases h2:k<p+m.length
  ·rw [if_pos (by walk_at "s2"),xa2,xaR (by rw [xax]; lia),xax,show min p xs.toList.length=p by lia,xbg (by lia)]
  ·rw [if_neg (by lia),xa2,xaR (by rw [xax]; lia),xax,show min p xs.toList.length=p by lia,xaR (by lia),List.getElem?_drop,
    show p+m.length+(k - p - m.length)=k by lia,xaD]
theorem Ak {p q:Nat} {xs:Array Keyed} (h:p<=q) (h2:q<=xs.size):xs.toList=xs.toList.take p++(xs.extract p q).toList++xs.toList.drop q:=by
 rw [xcf,xbP]
 have e1:xs.toList.take p++(xs.toList.drop p).take (q - p)=xs.toList.take q:=by
  rw [<- xb8 p (xs.toList.take q),List.take_take,List.drop_take,Nat.min_eq_left h]
 rw [e1,xb8]
theorem ym {p q:Nat} {m:List Keyed} {xs:Array Keyed} (h:p<=q) (h2:q<=xs.size) (hm:m.Perm (xs.extract p q).toList):(wr p m 0 xs).Perm xs:=by
 have hl:m.length=q - p:=by rw [hm.length_eq]; simp; lia
 rw [xbN,yL (by lia),show p+m.length=q by lia]
 have e:=Ak (xs:=xs) h h2
 exact (List.Perm.append_right _ (List.Perm.append_left _ hm)).trans (by rw [<- e])
def Runs (r:Value->Int) (xs:Array Keyed):List (Nat × Nat × Nat)->Nat->Nat->Prop
 | [],a,b=>a=b
 | (s,n,_) :: rest,a,b=>s=a/\1<=n/\Up r xs s (s+n)/\Runs r xs rest (s+n) b
section
variable {r:Value->Int} {xs ys:Array Keyed}
theorem Runs.le:∀ {ps:List (Nat × Nat × Nat)} {a b:Nat},Runs r xs ps a b->a+ps.length<=b
 | [],a,b,h=>by simp only [Runs] at h; simp; lia
 | (s,n,p) :: rest,a,b,h=>by
  obtain ⟨rfl,h1,_,h3⟩:=h
  have:=Runs.le h3
  simp only [xaL]; lia
theorem Runs.append:∀ {ps qs:List (Nat × Nat × Nat)} {a b:Nat},Runs r xs (ps++qs) a b↔∃ c,Runs r xs ps a c/\Runs r xs qs c b
 | [],qs,a,b=>by simp [Runs]
 | (s,n,p) :: rest,qs,a,b=>by
  simp only [xb4,Runs]
  constructor
  ·rintro ⟨h1,h2,h3,h4⟩
   obtain ⟨c,h5,h6⟩:=Runs.append.mp h4
   exact ⟨c,⟨h1,h2,h3,h5⟩,h6⟩
  ·rintro ⟨c,⟨h1,h2,h3,h5⟩,h6⟩
   exact ⟨h1,h2,h3,Runs.append.mpr ⟨c,h5,h6⟩⟩
theorem Up.congr {a b:Nat} (h:Up r xs a b) (e:∀ k,a<=k->k<b->ys[k]? = xs[k]?):Up r ys a b:=fun i j h1 h2 h3=>by
 rw [cY (e i h1 (by walk_at "s1")),cY (e j (by walk_at "s1") h3)]; exact h i j h1 h2 h3
theorem Runs.congr:∀ {ps:List (Nat × Nat × Nat)} {a b:Nat},Runs r xs ps a b->(∀ k,a<=k->k<b->ys[k]? = xs[k]?)->Runs r ys ps a b
 | [],a,b,h,_=>h
 | (s,n,p) :: rest,a,b,h,e=>by
  obtain ⟨rfl,h1,h2,h3⟩:=h
  have l:=h3.le
  exact ⟨rfl,h1,h2.congr fun k u v=>e k u (by lia),Runs.congr h3 fun k u v=>e k (by walk_at "s4") v⟩
theorem Up.glue {a b c:Nat} (h1:Up r xs a b) (h2:Up r xs b c) (h:∀ i j,a<=i->i<b->b<=j->j<c->R r xs i<=R r xs j):Up r xs a c:=fun i j u v w=>by
 by_cases hj:j<b
 ·exact h1 i j u v hj
 ·by_cases hi:i<b
  ·exact h i j u hi (by exact xaM ‹_›) w
  ·exact h2 i j (by exact xaM ‹_›) v w
end
section
variable {prog:Program} {w:World} {A:Around} {E:Value->Shared->Prop} {s:Shared} {κ:SortKind} {r:Value->Int} {P:Value->Prop}
theorem AllP.extract {xs:Array Keyed} (h:AllP P xs) (i j:Nat):AllP P (xs.extract i j):=fun p hp=>h p (by
 rw [xcf,xbP] at hp
 exact xbD (xbE hp))
theorem dR {xs:Array Keyed} {i j k:Nat} (h:i+k<j) (hj:j<=xs.size):R r (xs.extract i j) k=R r xs (i+k):=by
 apply cY
 rw [xbI,if_pos (by lia)]
theorem Up.extract {xs:Array Keyed} {i j:Nat} (h:Up r xs i j) (hij:i<=j) (hj:j<=xs.size):Up r (xs.extract i j) 0 (xs.extract i j).size:=fun a b _ h2 h3=>by
 have e:(xs.extract i j).size=j - i:=by simp only [xbl]; lia
 rw [e] at h3
 rw [dR (by lia) hj,dR (by lia) hj]
 exact h _ _ (by exact xaU _ _) (by lia) (by lia)
theorem tD {xs:Array Keyed} {m:Array Keyed} {sa k na nb' nb:Nat} (hz:sa+na+nb<=xs.size) (hk:k<na) (hnb:nb'<=nb) (hA:Up r xs sa (sa+na)) (hB:Up r xs (sa+na) (sa+na+nb))
  (lo1:∀ i,i<k->R r xs (sa+i)<=R r xs (sa+na)) (lo2:R r xs (sa+na)<R r xs (sa+k)) (hi1:∀ i,i<nb'->R r xs (sa+na+i)<R r xs (sa+na - 1)) (hi2:∀ i,nb'<=i->i<nb->R r xs (sa+na - 1)<=R r xs (sa+na+i))
  (hm:cB r (xs.extract (sa+k) (sa+na)) (xs.extract (sa+na) (sa+na+nb')) m) :
  Up r (wr (sa+k) m.toList 0 xs) sa (sa+na+nb)/\(wr (sa+k) m.toList 0 xs).Perm xs/\∀ j,j<sa\/sa+na+nb<=j->(wr (sa+k) m.toList 0 xs)[j]? = xs[j]? := by
 obtain ⟨mp,mu⟩:=hm
 have eab:(xs.extract (sa+k) (sa+na)).toList++(xs.extract (sa+na) (sa+na+nb')).toList=(xs.extract (sa+k) (sa+na+nb')).toList:=by
  rw [<- Array.toList_append,Array.extract_append_extract,show min (sa+k) (sa+na)=sa+k by lia,show max (sa+na) (sa+na+nb')=sa+na+nb' by lia]
 rw [eab] at mp
 have ml:m.toList.length=na+nb' - k:=by rw [mp.length_eq]; simp; lia
 have hw:sa+k+m.toList.length<=xs.size:=by lia
 have get:=vy (sa+k) m.toList 0 xs (by lia)
 rw [xcu,ml] at get
 -- every merged item is one of the window's
 have mem:∀ (j:Nat) (p:Keyed),m.toList[j]? = some p->∃ i,sa+k<=i/\i<sa+na+nb'/\r p.1=R r xs i:=fun j p e=>by
  have hp:p∈(xs.extract (sa+k) (sa+na+nb')).toList:=mp.mem_iff.mp (xaH e)
  obtain ⟨i,hi⟩:=List.getElem?_of_mem hp
  rw [xaD,xbI] at hi
  split at hi
  ·exact ⟨sa+k+i,by exact xaU _ _,by lia,(R_at hi).symm⟩
  ·cases hi
 have low:∀ i,sa+k<=i->i<sa+na+nb'->R r xs (sa+na)<=R r xs i:=fun i h1 h2=>by
  by_cases h3:i<sa+na
  ·exact xa5 (xbf lo2) (hA (sa+k) i (by exact xaU _ _) h1 h3)
  ·exact hB (sa+na) i (xag _) (by exact xaM ‹_›) (by walk_at "s4")
 have high:∀ i,sa+k<=i->i<sa+na+nb'->R r xs i<=R r xs (sa+na - 1):=fun i h1 h2=>by
  by_cases h3:i<sa+na
  ·exact hA i (sa+na - 1) (by lia) (by lia) (by lia)
  ·have:=hi1 (i - (sa+na)) (by lia)
   rw [show sa+na+(i - (sa+na))=i by exact xaN (xaM ‹_›)] at this
   exact xbf ‹_›
 have Rin:∀ j,j<na+nb' - k->∃ i,sa+k<=i/\i<sa+na+nb'/\R r (wr (sa+k) m.toList 0 xs) (sa+k+j)=R r xs i:=fun j hj=>by
  have e:=get (sa+k+j)
  rw [if_pos (by lia),show sa+k+j - (sa+k)=j by exact xbW ..] at e
  have hj':j<m.toList.length:=by lia
  obtain ⟨i,h1,h2,h3⟩:=mem j m.toList[j] (xaX hj')
  rw [xaX hj'] at e
  exact ⟨i,h1,h2,(R_at e).trans h3⟩
 have Rout:∀ j,j<sa+k\/sa+na+nb'<=j->(wr (sa+k) m.toList 0 xs)[j]? = xs[j]? := fun j hj=>by
  have e:=get j
  rw [if_neg (by lia)] at e
  exact e
 refine ⟨?_,ym (by lia) (by lia) mp,fun j hj=>Rout j (by lia)⟩
 have U1:Up r (wr (sa+k) m.toList 0 xs) sa (sa+k):=Up.congr (xs:=xs) (fun i j h1 h2 h3=>hA i j h1 h2 (by lia)) fun j h1 h2=>Rout j (.inl h2)
 have U2:Up r (wr (sa+k) m.toList 0 xs) (sa+k) (sa+na+nb'):=fun i j h1 h2 h3=>by
  have ei:=get i
  have ej:=get j
  rw [if_pos (by lia)] at ei ej
  have li:i - (sa+k)<m.toList.length:=by lia
  have lj:j - (sa+k)<m.toList.length:=by lia
  rw [xaX li] at ei
  rw [xaX lj] at ej
  rw [R_at ei,R_at ej]
  by_cases hij:i=j
  ·subst hij; exact xbh _
  ·exact (List.pairwise_iff_getElem.mp mu) _ _ li lj (by lia)
 have U3:Up r (wr (sa+k) m.toList 0 xs) (sa+na+nb') (sa+na+nb):=Up.congr (xs:=xs) (fun i j h1 h2 h3=>hB i j (by lia) h2 h3) fun j h1 h2=>Rout j (.inr h1)
 refine (U1.glue U2 fun i j h1 h2 h3 h4=>?_).glue U3 fun i j h1 h2 h3 h4=>?_
 ·obtain ⟨q,q1,q2,q3⟩:=Rin (j - (sa+k)) (by lia)
  rw [show sa+k+(j - (sa+k))=j by exact xaN ‹_›] at q3
  rw [q3,cY (Rout i (.inl h2))]
  have:=lo1 (i - sa) (by lia)
  rw [show sa+(i - sa)=i by exact xaN ‹_›] at this
  exact xa5 this (low q q1 q2)
 ·have e2:=hi2 (j - (sa+na)) (by lia) (by lia)
  rw [show sa+na+(j - (sa+na))=j by lia] at e2
  rw [cY (Rout j (.inr h3))]
  by_cases hi:i<sa+k
  ·rw [cY (Rout i (.inl hi))]
   have:=lo1 (i - sa) (by lia)
   rw [show sa+(i - sa)=i by exact xaN ‹_›] at this
   have:=low (sa+na - 1) (by lia) (by lia)
   lia
  ·obtain ⟨q,q1,q2,q3⟩:=Rin (i - (sa+k)) (by lia)
   rw [show sa+k+(i - (sa+k))=i by exact xaN (xaM ‹_›)] at q3
   rw [q3]
   exact xa5 (high q q1 q2) e2
structure St (r:Value->Int) (κ:SortKind) (a₀:Array Keyed) (st:SortSt) (ps:List (Nat × Nat × Nat)) (lo:Nat):Prop where
 kind:kindOf st=κ
 failed:failedOf st=none
 perm:(arrOf st).Perm a₀
 pend:pendingOf st=ps.toArray
 runs:Runs r (arrOf st) ps 0 lo
theorem St.size {a₀:Array Keyed} {st:SortSt} {ps:List (Nat × Nat × Nat)} {lo:Nat} (h:St r κ a₀ st ps lo):(arrOf st).size=a₀.size:=h.perm.size_eq
theorem wL {ps:List (Nat × Nat × Nat)} {i:Nat} (h:i+1<ps.length):∃ pre x y post,ps=pre++x :: y :: post/\pre.length=i:=by
 refine ⟨ps.take i,ps[i],ps[i+1],ps.drop (i+2),?_,by rw [xax]; lia⟩
 rw [<- xaT (by lia),<- xaT (by exact xaY ‹_›),xb8]
theorem jP {st:SortSt} {a₀:Array Keyed} {ps:List (Nat × Nat × Nat)} {lo i:Nat} {Q:Bool->SortSt->Prop} (C:Cmp prog w A s κ r P) (hP:AllP P a₀) (H:St r κ a₀ st ps lo) (hlo:lo<=a₀.size) (hi:i+1<ps.length)
  (h:∀ st' ps',St r κ a₀ st' ps' lo->ps'.length+1=ps.length->ps'≠[]->(∀ k,lo<=k->(arrOf st')[k]? = (arrOf st)[k]?)->Q true st'):wpS (model prog w) A E s (mergeAt' i) Q st:=by
 obtain ⟨pre,⟨sa,na,pa⟩,⟨sb,nb,pb⟩,post,rfl,hpre⟩:=wL hi
 have hz:=H.size
 have hP':AllP P (arrOf st):=hP.perm H.perm
 obtain ⟨c,hr1,hr2⟩:=Runs.append.mp H.runs
 obtain ⟨rfl,n1,u1,rfl,n2,u2,hr3⟩:=hr2
 have le3:=hr3.le
 have le1:=hr1.le
 -- the new pending list
 have epend:((pendingOf st).setIfInBounds i (sa,na+nb,pa)).eraseIdxIfInBounds (i+1)=(pre++(sa,na+nb,pa) :: post).toArray:=by
  rw [H.pend]
  apply xb7.mp
  simp [<- hpre,List.eraseIdx_append_of_length_le]
 have new:∀ (xs:Array Keyed) (g:Nat),xs.Perm (arrOf st)->(∀ j,j<sa\/sa+na+nb<=j->xs[j]? = (arrOf st)[j]?)->Up r xs sa (sa+(na+nb)) ->
   St r κ a₀ (SortSt.mk' (kindOf st) xs (pre++(sa,na+nb,pa) :: post).toArray g (failedOf st)) (pre++(sa,na+nb,pa) :: post) lo:=fun xs g hp ho hu =>
  ⟨H.kind,H.failed,hp.trans H.perm,rfl,Runs.append.mpr ⟨sa,hr1.congr fun k _ hk=>ho k (.inl hk),rfl,by walk_at "s4",hu,by
   rw [show sa+(na+nb)=sa+na+nb by exact (xbO ..).symm]
   exact hr3.congr fun k hk _=>ho k (.inr hk)⟩⟩
 have len:(pre++(sa,na+nb,pa) :: post).length+1=(pre++(sa,na,pa) :: (sa+na,nb,pb) :: post).length:=by simp; exact xbO ..
 have e0:(pendingOf st)[i]? = some (sa,na,pa):=by rw [H.pend,<- hpre]; simp
 have e1:(pendingOf st)[i+1]? = some (sa+na,nb,pb):=by rw [H.pend,<- hpre]; simp
 refine wpS_bind (wpS_get ?_)
 rw [e0,e1]
 dsimp only
 refine wpS_bind (wpS_modify (f:=fun _=>SortSt.mk' (kindOf st) (arrOf st) (((pendingOf st).setIfInBounds i (sa,na+nb,pa)).eraseIdxIfInBounds (i+1)) (gallopOf st) (failedOf st)) ?_)
 rw [epend]
 refine wpS_bind (aL (xs:=arrOf st) (by lia) fun kb ekb=>wpS_bind (cW (arr:=arrOf st) C H.kind hP' (hP'.at ekb) (by lia) (by assumption) u1 fun k hk1 hk2 hk3=>?_))
 have rkb:=R_at (r:=r) ekb
 dsimp only
 by_cases z:na - k=0
 ·rw [if_pos (by simpa using z)]
  refine wpS_pure (h _ _ (new (arrOf st) (gallopOf st) (Array.Perm.refl _) (fun _ _=>rfl) ?_) len (by simp) fun _ _=>rfl)
  rw [show sa+(na+nb)=sa+na+nb by exact (xbO ..).symm]
  refine u1.glue u2 fun i j h1 h2 h3 h4=>?_
  have:=vX (hk2 (i - sa) (by lia))
  rw [show sa+(i - sa)=i by exact xaN ‹_›] at this
  have:=u2 (sa+na) j (xag _) h3 h4
  lia
 ·rw [if_neg (by simpa using z)]
  refine wpS_bind (aL (xs:=arrOf st) (by lia) fun ka eka=>wpS_bind (cW (arr:=arrOf st) C H.kind hP' (hP'.at eka) (by lia) (by exact xbQ ‹_› xbJ) u2 fun l hl1 hl2 hl3=>?_))
  have rka:=R_at (r:=r) eka
  rw [show sa+k+(na - k) - 1=sa+na - 1 by lia] at rka
  dsimp only
  by_cases z2:l=0
  ·rw [if_pos (by simpa using z2)]
   refine wpS_pure (h _ _ (new (arrOf st) (gallopOf st) (Array.Perm.refl _) (fun _ _=>rfl) ?_) len (by simp) fun _ _=>rfl)
   rw [show sa+(na+nb)=sa+na+nb by exact (xbO ..).symm]
   refine u1.glue u2 fun i j h1 h2 h3 h4=>?_
   have:=qK (hl3 (j - (sa+na)) (by lia) (by lia))
   rw [show sa+na+(j - (sa+na))=j by exact xaN ‹_›] at this
   have:=u1 i (sa+na - 1) h1 (by lia) (by lia)
   lia
  ·rw [if_neg (by simpa using z2)]
   have lo1:∀ i,i<k->R r (arrOf st) (sa+i)<=R r (arrOf st) (sa+na):=fun i hi=>by have:=vX (hk2 i hi); lia
   have lo2:R r (arrOf st) (sa+na)<R r (arrOf st) (sa+k):=by have:=vm (hk3 k (xag _) (by lia)); lia
   have hi1:∀ i,i<l->R r (arrOf st) (sa+na+i)<R r (arrOf st) (sa+na - 1):=fun i hi=>by have:=zX (hl2 i hi); lia
   have hi2:∀ i,l<=i->i<nb->R r (arrOf st) (sa+na - 1)<=R r (arrOf st) (sa+na+i):=fun i h1 h2=>by have:=qK (hl3 i h1 h2); lia
   have sx:((arrOf st).extract (sa+k) (sa+na)).size=na - k:=by simp only [xbl]; lia
   have sy:((arrOf st).extract (sa+na) (sa+na+l)).size=l:=by simp only [xbl]; lia
   have ux:Up r ((arrOf st).extract (sa+k) (sa+na)) 0 ((arrOf st).extract (sa+k) (sa+na)).size:=Up.extract (fun i j h1 h2 h3=>u1 i j (by lia) h2 h3) (by lia) (by lia)
   have uy:Up r ((arrOf st).extract (sa+na) (sa+na+l)) 0 ((arrOf st).extract (sa+na) (sa+na+l)).size:=Up.extract (fun i j h1 h2 h3=>u2 i j h1 h2 (by walk_at "s4")) (by exact xaU _ _) (by lia)
   have h00:R r ((arrOf st).extract (sa+na) (sa+na+l)) 0<=R r ((arrOf st).extract (sa+k) (sa+na)) 0:=by
    rw [dR (by lia) (by lia),dR (by lia) (by lia)]
    exact xbf lo2
   have hgg:∀ j,j<((arrOf st).extract (sa+na) (sa+na+l)).size->R r ((arrOf st).extract (sa+na) (sa+na+l)) j<=R r ((arrOf st).extract (sa+k) (sa+na)) (((arrOf st).extract (sa+k) (sa+na)).size - 1):=fun j hj=>by
    rw [sx,dR (by lia) (by lia),dR (by lia) (by lia),show sa+k+(na - k - 1)=sa+na - 1 by lia]
    exact xbf (hi1 j (by lia))
   have fin:∀ out st',cB r ((arrOf st).extract (sa+k) (sa+na)) ((arrOf st).extract (sa+na) (sa+na+l)) out->Mg (SortSt.mk' (kindOf st) (arrOf st) (pre++(sa,na+nb,pa) :: post).toArray (gallopOf st) (failedOf st)) st' ->
     Q true (SortSt.mk' (kindOf st') (wr (sa+k) out.toList 0 (arrOf st')) (pendingOf st') (gallopOf st') (failedOf st')):=fun out st' hm hg=>by
    obtain ⟨g,rfl⟩:=hg
    obtain ⟨m1,m2,m3⟩:=tD (by lia) (by lia) hl1 u1 u2 lo1 lo2 hi1 hi2 hm
    exact h _ _ (new _ g m2 m3 (by rw [show sa+(na+nb)=sa+na+nb by exact (xbO ..).symm]; exact m1)) len (by simp) fun k hk=>m3 k (.inr (by lia))
   have fin2:∀ out st',cB r ((arrOf st).extract (sa+k) (sa+na)) ((arrOf st).extract (sa+na) (sa+na+l)) out->Mg (SortSt.mk' (kindOf st) (arrOf st) (pre++(sa,na+nb,pa) :: post).toArray (gallopOf st) (failedOf st)) st' ->
     failedOf st'=none:=fun out st' _ hg=>by
    obtain ⟨g,rfl⟩:=hg
    exact H.failed
   by_cases z3:na - k<=l
   ·rw [if_pos z3]
    refine wpS_bind (pO (a:=(arrOf st).extract (sa+k) (sa+na)) (b:=(arrOf st).extract (sa+na) (sa+na+l)) C H.kind (hP'.extract _ _) (hP'.extract _ _) ux uy (by lia) (by lia) h00 hgg fun out st' hm hg=>?_)
    refine wpS_bind (wpS_modify (wpS_bind (wpS_get ?_)))
    have f:=fin out st' hm hg
    have f2:=fin2 out st' hm hg
    refine wpS_pure ?_
    show Q (failedOf st').isNone _
    rw [f2]
    exact f
   ·rw [if_neg z3]
    refine wpS_bind (pW (a:=(arrOf st).extract (sa+k) (sa+na)) (b:=(arrOf st).extract (sa+na) (sa+na+l)) C H.kind (hP'.extract _ _) (hP'.extract _ _) ux uy (by lia) (by lia) h00 hgg fun out st' hm hg=>?_)
    refine wpS_bind (wpS_modify (wpS_bind (wpS_get ?_)))
    have f:=fin out st' hm hg
    have f2:=fin2 out st' hm hg
    refine wpS_pure ?_
    show Q (failedOf st').isNone _
    rw [f2]
    exact f
end
section
variable {prog:Program} {w:World} {A:Around} {E:Value->Shared->Prop} {s:Shared} {κ:SortKind} {r:Value->Int} {P:Value->Prop}
theorem Runs.modify {xs:Array Keyed} {f:Nat × Nat × Nat->Nat × Nat × Nat} (hf:∀ x,(f x).1=x.1/\(f x).2.1=x.2.1):∀ {ps:List (Nat × Nat × Nat)} {i a b:Nat},Runs r xs ps a b->Runs r xs (ps.modify i f) a b
 | [],_,_,_,h=>by simpa using h
 | (s,n,p) :: rest,0,a,b,h=>by
  obtain ⟨h1,h2⟩:=hf (s,n,p)
  rw [List.modify_zero_cons]
  have e:f (s,n,p)=(s,n,(f (s,n,p)).2.2):=Prod.ext h1 (Prod.ext h2 rfl)
  rw [e]
  exact h
 | (s,n,p) :: rest,i+1,a,b,h=>by
  rw [List.modify_succ_cons]
  obtain ⟨h1,h2,h3,h4⟩:=h
  exact ⟨h1,h2,h3,Runs.modify hf h4⟩
theorem St.win {a₀:Array Keyed} {st st':SortSt} {ps:List (Nat × Nat × Nat)} {lo hi:Nat} (H:St r κ a₀ st ps lo) (hw:Win lo hi st st'):St r κ a₀ st' ps lo :=
 ⟨hw.kind.trans H.kind,hw.failed.trans H.failed,hw.perm.trans H.perm,hw.pend.trans H.pend,H.runs.congr fun k _ hk=>hw.out k (.inl hk)⟩
theorem wpS_sortRuns {st:SortSt} {Q:Unit->SortSt->Prop} (C:Cmp prog w A s κ r P) (hk:kindOf st=κ) (hP:AllP P (arrOf st)) (hp:pendingOf st = #[]) (hf:failedOf st=none)
  (h:∀ st',(arrOf st').Perm (arrOf st)->failedOf st'=none->Up r (arrOf st') 0 (arrOf st).size->Q () st'):wpS (model prog w) A E s sortRuns' Q st:=by
 rw [sortRuns'_eq]
 refine wpS_bind (wpS_get ?_)
 dsimp only
 generalize ha:arrOf st=a₀ at *
 have H0:St r κ a₀ st [] 0:=⟨hk,hf,by rw [ha],by rw [hp],rfl⟩
 refine wpS_bind (wpS_mono (wpS_forRange (I:=fun x c st'=>∃ ps lo,c=(none,lo)/\St r κ a₀ st' ps lo/\lo<=a₀.size/\x<=lo)
  (Q:=fun c st'=>∃ ps,c=(none,a₀.size)/\St r κ a₀ st' ps a₀.size) ?step ?fin ⟨[],0,rfl,H0,xap _,xag _⟩) ?post)
 case fin =>
  rintro c st' ⟨ps,lo,rfl,H,h1,h2⟩
  have:lo=a₀.size:=by lia
  subst this
  exact ⟨ps,rfl,H⟩
 case post =>
  rintro c st' ⟨ps,rfl,H⟩
  dsimp only
  have l0:=H.runs.le
  refine wpS_bind (wpS_mono (wpS_forRange (I:=fun y c st'=>c=(none,())/\∃ ps',St r κ a₀ st' ps' a₀.size/\ps'.length+y<=a₀.size)
   (Q:=fun c st'=>c=(none,())/\∃ ps',St r κ a₀ st' ps' a₀.size/\ps'.length<=1) ?step3 ?fin3 ⟨rfl,ps,H,by lia⟩) ?post3)
  case fin3 =>
   rintro c st' ⟨rfl,ps',H',hl⟩
   exact ⟨rfl,ps',H',by lia⟩
  case post3 =>
   rintro c st' ⟨rfl,ps',H',hl⟩
   refine wpS_pure (h st' H'.perm H'.failed ?_)
   have q:=H'.runs
   match ps',hl,q with
   | [],_,q =>
    have q:0=a₀.size:=q
    intro i j _ _ hj
    lia
   | [(s',n',p')],_,q =>
    obtain ⟨rfl,_,hu,e⟩:=q
    have e:0+n'=a₀.size:=e
    rw [<- e]
    exact hu
  case step3 =>
   rintro y c st1 _ hy ⟨rfl,ps',H',hl⟩
   refine wpS_bind (wpS_get ?_)
   have ep:(pendingOf st1).size=ps'.length:=by rw [H'.pend]; simp
   by_cases z:(pendingOf st1).size<=1
   ·rw [if_pos z]
    exact wpS_pure ⟨rfl,ps',H',by lia⟩
   ·rw [if_neg z]
    refine wpS_bind (jP C hP H' (xag _) (by (repeat' split) <;> lia) fun st2 ps2 H2 hlen _ _=>?_)
    rw [if_neg (by simp)]
    exact wpS_pure ⟨rfl,ps2,H2,by lia⟩
 case step =>
  rintro x c st1 _ hx ⟨ps,lo,rfl,H,h1,h2⟩
  dsimp only
  by_cases z:lo >= a₀.size
  ·rw [if_pos z]
   have:lo=a₀.size:=by lia
   subst this
   exact wpS_pure ⟨ps,rfl,H⟩
  ·rw [if_neg z]
   have hz:=H.size
   refine wpS_bind (wpS_countRun C H.kind (hP.perm H.perm) (by lia) (by lia) fun m st2 hw hm1 hm2 hu=>?_)
   have H2:=H.win hw
   dsimp only
   refine zH (K:=?K) ?pk fun key=>?main
   case main =>
    by_cases z2:m<minRun' a₀.size a₀.size 0
    ·rw [if_pos z2]
     refine wpS_bind (wpS_lift (wpAny_rule ⟨rfl,?_⟩))
     refine wpS_bind (wpS_binarySort C H2.kind (hP.perm H2.perm) (by clear key; have:=H2.size; lia) (by clear key; lia) hu fun st3 hw3 hu3=>?_)
     have H3:=H2.win hw3
     rw [if_neg (by simp)]
     have b1:1<=min (a₀.size - lo) (minRun' a₀.size a₀.size 0):=by clear key; lia
     have b2:lo+min (a₀.size - lo) (minRun' a₀.size a₀.size 0)<=a₀.size:=by clear key; lia
     clear hw3
     generalize min (a₀.size - lo) (minRun' a₀.size a₀.size 0)=nn at *
     revert nn st3
     exact key
    ·rw [if_neg z2]
     exact key _ H2 _ hu hm1 (by lia)
   intro st3 H3 nn hu3 b1 b2
   refine wpS_bind (wpS_get ?_)
   have push:∀ (st':SortSt) (ps':List (Nat × Nat × Nat)),St r κ a₀ st' ps' lo->Up r (arrOf st') lo (lo+nn)->∃ ps lo',((none:Option Unit),lo+nn)=(none,lo')/\St r κ a₀ (setPending st' ((pendingOf st').push (lo,nn,0))) ps lo'/\lo'<=a₀.size/\x+1<=lo':=fun st' ps' G u =>
    ⟨ps'++[(lo,nn,0)],lo+nn,rfl,⟨G.kind,G.failed,G.perm,by show (pendingOf st').push _=_; rw [G.pend]; simp,Runs.append.mpr ⟨lo,G.runs,rfl,b1,u,rfl⟩⟩,b2,by lia⟩
   cases hb:(pendingOf st3).back? with
   | none =>
    dsimp only
    exact wpS_bind (wpS_modify (wpS_pure (push st3 ps H3 hu3)))
   | some t =>
    obtain ⟨s1,n1,p1⟩:=t
    dsimp only
    generalize power' a₀.size (2 * s1+n1) (2 * s1+n1+n1+nn) a₀.size=pw
    refine wpS_bind (wpS_mono (wpS_forRange (I:=fun y c st'=>c=(none,())/\∃ ps',St r κ a₀ st' ps' lo/\Up r (arrOf st') lo (lo+nn))
     (Q:=fun c st'=>c=(none,())/\∃ ps',St r κ a₀ st' ps' lo/\Up r (arrOf st') lo (lo+nn)) ?_ (fun _ _ q=>q) ⟨rfl,ps,H3,hu3⟩) ?_)
    ·rintro y c st4 _ hy ⟨rfl,ps',H4,hu4⟩
     refine wpS_bind (wpS_get ?_)
     have ep:(pendingOf st4).size=ps'.length:=by rw [H4.pend]; simp
     by_cases z3:(pendingOf st4).size>1
     ·rw [if_pos z3]
      have e4:(pendingOf st4)[(pendingOf st4).size - 2]? = some ((pendingOf st4)[(pendingOf st4).size - 2]'(by lia)):=getElem?_pos _ _ (by lia)
      rw [e4]
      generalize (pendingOf st4)[(pendingOf st4).size - 2]'(by lia)=tt
      obtain ⟨t1,t2,older⟩:=tt
      dsimp only
      by_cases z4:older<=pw
      ·rw [if_pos z4]
       exact wpS_pure ⟨rfl,ps',H4,hu4⟩
      ·rw [if_neg z4]
       refine wpS_bind (jP C hP H4 h1 (by lia) fun st5 ps5 H5 hlen _ hout=>?_)
       rw [if_neg (by simp)]
       exact wpS_pure ⟨rfl,ps5,H5,hu4.congr fun k hk _=>hout k hk⟩
     ·rw [if_neg z3]
      exact wpS_pure ⟨rfl,ps',H4,hu4⟩
    ·rintro c st4 ⟨rfl,ps',H4,hu4⟩
     dsimp only
     refine wpS_bind (wpS_modify (wpS_bind (wpS_modify (wpS_pure ?_))))
     refine push _ (ps'.modify (ps'.length - 1) fun x=>(x.1,x.2.1,pw)) ⟨H4.kind,H4.failed,H4.perm,?_,Runs.modify (f:=fun x=>(x.1,x.2.1,pw)) (fun _=>⟨rfl,rfl⟩) H4.runs⟩ hu4
     show (pendingOf st4).modify ((pendingOf st4).size - 1) (fun x=>(x.1,x.2.1,pw))=_
     rw [H4.pend]
     simp
end
section
variable {prog:Program} {w:World} {A:Around} {E:Value->Shared->Prop} {s:Shared} {κ:SortKind} {r:Value->Int} {P:Value->Prop}
def dZ (h:Heap) (a:Addr) (vs:List Value):Heap:=((h.update a (Obj.mapSeq fun _=>#[])).push (seqObj "tuple" vs.toArray 0)).push (seqObj "list" #[] 0)
theorem pX {h:Heap} {a b:Addr} {vs:List Value} (hb:b≠a) (hlt:b<h.objs.size):(dZ h a vs).get? b=h.get? b:=by
 unfold dZ
 rw [xbZ _ _ _ (by rw [size_push',xb9]; exact xaw (xbc hlt)),
  xbZ _ _ _ (by rw [xb9]; exact xaw hlt),Heap.get?_update_ne _ _ _ _ hb]
theorem pN {vs:List Value} {xs:Array Keyed} (hp:xs.Perm (pairsOf vs)) (hs:Up r xs 0 vs.length):(xs.map (·.2)).toList.Perm vs/\(xs.map (·.2)).toList.Pairwise fun x y=>r x<=r y:=by
 have hl:xs.toList.Perm (vs.zip vs):=by rw [<- pairsOf_toList]; exact xbN.mp hp
 have hmem:∀ p,p∈xs.toList->p.1=p.2:=fun p hp'=>(mem_zip_self (hl.mem_iff.mp hp')).1
 have e:(xs.map (·.2)).toList=xs.toList.map (·.1):=by
  rw [Array.toList_map]; exact xbo fun p hp'=>(hmem p hp').symm
 have hsz:xs.size=vs.length:=by rw [hp.size_eq,pairsOf_size]
 rw [e]
 refine ⟨?_,?_⟩
 ·have h1:=hl.map (·.1)
  rwa [xbG (xag _)] at h1
 ·rw [List.pairwise_iff_getElem]
  intro i j hi hj hij
  have hi':i<xs.size:=by simpa using hi
  have hj':j<xs.size:=by simpa using hj
  have h1:=hs i j (xap _) (xaK hij) (by lia)
  rw [Cj hi',Cj hj'] at h1
  simpa using h1
theorem o_ {a:Addr} {vs:List Value} {n:Nat} {F:PySem.Fin->Shared->Prop} (ho:s.heap.get? a=some (seqObj "list" vs.toArray n)) (hsz:vs.length<=sizeLine) (hP:∀ v∈vs,P v)
  (hk:2<=vs.length->∀ (Q:SortKind->Shared->Prop),Q κ { s with heap:=dZ s.heap a vs }->wpAny (model prog w) A (keyKind' vs.toArray) Q E { s with heap:=dZ s.heap a vs })
  (C:2<=vs.length->Cmp prog w A { s with heap:=dZ s.heap a vs } κ r P)
  (h:∀ out:Array Value,out.toList.Perm vs->(out.toList.Pairwise fun x y=>r x<=r y)->F (.done (.ret .none)) { s with heap:=sortedHeap s.heap a vs out }) :
  wpAny (model prog w) A (Builtin.«list.sort» ⟨[.ref a],[]⟩) F E s:=by
 rw [list_sort_plain]
 have ha:a<s.heap.objs.size:=xak ho
 refine xaa (listItems_at ho rfl ?_)
 refine xaa (listUpdate_at ho rfl ?_ (by simpa using hsz) (xap _))
 obtain ⟨e1,ho1⟩:∃ e1,(s.heap.update a (Obj.mapSeq fun _=>#[])).get? a=some (seqObj "list" #[] e1):=⟨_,get?_update_seq ho (fun _=>#[])⟩
 refine xaa (seqEpoch_at ho1 rfl ?_)
 refine xaa (wpAny_newTuple ?_ (by simpa using hsz))
 refine xaa (wpAny_newList ?_ (xap _))
 refine wpAny_holding ?_
 have ho6:(dZ s.heap a vs).get? a=some (seqObj "list" #[] e1):=by
  unfold dZ
  rw [xbZ _ _ _ (by rw [size_push',xb9]; exact xaw (xbc ha)),xbZ _ _ _ (by rw [xb9]; exact xaw ha)]
  exact ho1
 show wpAny (model prog w) A _ F E { s with heap:=dZ s.heap a vs }
 dsimp only
 have hvz:vs.toArray.size=vs.length:=by simp
 have fin:∀ st':SortSt,(arrOf st').Perm (pairsOf vs)->Up r (arrOf st') 0 vs.length->F (.done (.ret .none)) { s with heap:=sortedHeap s.heap a vs ((arrOf st').map (·.2)) }:=by
  intro st' hp hs
  obtain ⟨h1,h2⟩:=pN hp hs
  exact h _ h1 h2
 by_cases h2:vs.toArray.size<2
 ·rw [if_pos h2,if_pos h2]
  refine xaa (xaf ?_)
  rw [StateT.run_pure]
  refine xaa (xaf ?_)
  dsimp only
  refine xaa (seqEpoch_at ho6 rfl ?_)
  refine xaa (listUpdate_at ho6 rfl ?_ (xap _) (by rw [Array.size_map]; show (pairsOf vs).size<=_; rw [pairsOf_size]; exact xbY ‹_›))
  simp only [bne_self_eq_false,xaq,if_false]
  refine xaf (fin (SortSt.mk' general' (vs.toArray.zip vs.toArray) #[] 7 none) (Array.Perm.refl _) ?_)
  intro i j _ hij hj
  have:i=j:=by lia
  subst this; exact xbh _
 ·rw [if_neg h2,if_neg h2]
  refine xaa (hk (by exact xaM ‹_›) _ ?_)
  refine xaa (xaZ (wpS_sortRuns (st:=SortSt.mk' κ (vs.toArray.zip vs.toArray) #[] 7 none)
   (Q:=fun _ st'=>(arrOf st').Perm (pairsOf vs)/\failedOf st'=none/\Up r (arrOf st') 0 vs.length)
   (C (by exact xaM ‹_›)) rfl (fun p hp=>?_) rfl rfl fun st' a1 a2 a3=>⟨a1,a2,?_⟩) ?_ fun _ _ e=>e)
  ·have hp':p∈(pairsOf vs).toList:=hp
   rw [pairsOf_toList] at hp'
   exact hP _ (mem_zip_self hp').2
  ·have e:(arrOf (SortSt.mk' κ (vs.toArray.zip vs.toArray) #[] 7 none)).size=vs.length:=pairsOf_size vs
   rw [e] at a3
   exact a3
  ·rintro ⟨⟨⟩,st'⟩ s' ⟨rfl,hp,hf,hs⟩
   dsimp only
   refine xaa (seqEpoch_at ho6 rfl ?_)
   refine xaa (listUpdate_at ho6 rfl ?_ (xap _) (by refine xaB (xbK ((Array.size_map ..).trans (hp.size_eq.trans (pairsOf_size _)))) ?_; exact xbY ‹_›))
   rw [hf]
   simp only [bne_self_eq_false,xaq,if_false]
   exact xaf (fin st' hp hs)
end
end Tim
namespace L2
open PySem PySem.Spec PyProof.Rows
def lt1:Key->Key->Bool
 | .inl i,.inl j=>decide (i<j)
 | .inr x,.inr y=>ltS x y
 | _,_=>false
def ltK:List Key->List Key->Bool
 | a :: as,b :: bs=>if a=b then ltK as bs else lt1 a b
 | _,_=>false
def isI:Key->Bool
 | .inl _=>true
 | .inr _=>false
def shOf (k:List Key):List Bool:=k.map isI
theorem yJ (x:Str):ltS x x=false:=by unfold ltS; simp [List.lt_irrefl]
theorem BX {x y z:Str} (h:ltS x y=true) (g:ltS y z=true):ltS x z=true:=by
 unfold ltS at *
 simp only [decide_eq_true_eq] at *
 exact List.lt_trans h g
theorem tK {x y:Str} (h:x.cps.toList=y.cps.toList):x=y:=by
 cases x; cases y
 simp only at h
 rw [xb7.mp h]
theorem yI {x y:Str} (h:ltS x y=false) (g:ltS y x=false):x=y:=by
 unfold ltS at *
 simp only [decide_eq_false_iff_not] at *
 apply tK
 exact List.le_antisymm (List.not_lt.mp g) (List.not_lt.mp h)
theorem Aa (a:Key):lt1 a a=false:=by cases a with | inl i=>simp [lt1] | inr x=>exact yJ x
theorem Cr {a b c:Key} (h:lt1 a b=true) (g:lt1 b c=true):lt1 a c=true:=by
 cases a <;> cases b <;> cases c <;> simp only [lt1,decide_eq_true_eq] at * <;> first | lia | contradiction | exact BX h g
theorem zU {a b:Key} (e:isI a=isI b) (h:lt1 a b=false) (g:lt1 b a=false):a=b:=by
 cases a <;> cases b <;> simp only [lt1,isI,decide_eq_false_iff_not] at *
 ·congr 1; lia
 ·cases e
 ·cases e
 ·congr 1; exact yI h g
theorem tE:∀ a:List Key,ltK a a=false
 | []=>rfl
 | a :: as=>by unfold ltK; rw [if_pos rfl]; exact tE as
theorem uU:∀ {a b c:List Key},ltK a b=true->ltK b c=true->ltK a c=true
 | [],_,_,h,_=>by simp [ltK] at h
 | _ :: _,[],_,h,_=>by simp [ltK] at h
 | _ :: _,_ :: _,[],_,g=>by simp [ltK] at g
 | a :: as,b :: bs,c :: cs,h,g=>by
  unfold ltK at h g ⊢
  by_cases e1:a=b
  ·subst e1
   rw [if_pos rfl] at h
   by_cases e2:a=c
   ·subst e2
    rw [if_pos rfl] at g ⊢
    exact uU h g
   ·rw [if_neg e2] at g ⊢
    exact g
  ·rw [if_neg e1] at h
   by_cases e2:b=c
   ·subst e2
    rw [if_neg e1]
    exact h
   ·rw [if_neg e2] at g
    have t:=Cr h g
    have ne:a≠c:=fun e=>by subst e; rw [Aa] at t; cases t
    rw [if_neg ne]
    exact t
theorem mH:∀ {a b:List Key},shOf a=shOf b->ltK a b=false->ltK b a=false->a=b
 | [],[],_,_,_=>rfl
 | [],_ :: _,e,_,_=>by simp [shOf] at e
 | _ :: _,[],e,_,_=>by simp [shOf] at e
 | a :: as,b :: bs,e,h,g=>by
  simp only [shOf,xas,List.cons.injEq] at e
  unfold ltK at h g
  by_cases e1:a=b
  ·subst e1
   rw [if_pos rfl] at h g
   rw [mH (show shOf as=shOf bs from e.2) h g]
  ·rw [if_neg e1] at h
   rw [if_neg (Ne.symm e1)] at g
   exact absurd (zU e.1 h g) e1
theorem count_le {α:Type} (p q:α->Bool):∀ (l:List α),(∀ x∈l,p x=true->q x=true)->l.countP p<=l.countP q
 | [],_=>xag _
 | x :: l,h=>by
  have ih:=count_le p q l fun y hy=>h y (xac _ hy)
  have h1:=h x xad
  rw [xca,xca]
  cases hp:p x <;> cases hq:q x <;> simp_all <;> exact xbY ‹_›
theorem qR {α:Type} (p q:α->Bool) (a:α) (ha:p a=false) (hb:q a=true):∀ (l:List α),a∈l->(∀ x∈l,p x=true->q x=true)->l.countP p<l.countP q
 | [],m,_=>by cases m
 | x :: l,m,h=>by
  rw [xca,xca]
  rcases xaj.mp m with rfl | m
  ·have:=count_le p q l fun y hy=>h y (xac _ hy)
   rw [ha,hb]; simp; exact xbB ‹_›
  ·have ih:=qR p q a ha hb l m fun y hy=>h y (xac _ hy)
   have h1:=h x xad
   cases hp:p x <;> cases hq:q x <;> simp_all <;> exact xbc ‹_›
def rkK (L:List (List Key)) (k:List Key):Int:=(L.countP fun j=>ltK j k:Nat)
theorem xX {L:List (List Key)} {a b:List Key} (e:shOf a=shOf b) (ma:a∈L):decide (rkK L a<rkK L b)=ltK a b:=by
 unfold rkK
 cases h:ltK a b with
 | true =>
  have:=qR (fun j=>ltK j a) (fun j=>ltK j b) a (tE a) h L ma fun x _ hx=>uU hx h
  exact decide_eq_true (by lia)
 | false =>
  apply decide_eq_false
  cases g:ltK b a with
  | false=>rw [mH e h g]; lia
  | true =>
   have:=count_le (fun j=>ltK j b) (fun j=>ltK j a) L fun x _ hx=>uU hx g
   lia
def unV:V->Option Key
 | .int i=>some (.inl i)
 | .str x=>some (.inr x)
 | _=>none
theorem DW (k:Key):unV (kV k)=some k:=by cases k <;> rfl
theorem xH:∀ k:List Key,(k.map kV).filterMap unV=k
 | []=>rfl
 | a :: as=>by rw [xas,xaV,DW,xH as]
def qm (H:Hp):Value->List Key
 | .ref b=>match H b with
  | some (.tup xs)=>xs.filterMap unV
  | _=>[]
 | _=>[]
theorem fQ {H:Hp} {b:Addr} {k:List Key} (h:H b=some (.tup (k.map kV))):qm H (.ref b)=k:=by
 simp only [qm,h]; exact xH k
section
variable {prog:Program} {w:World} {A:Around} {E:Value->Shared->Prop} {s:Shared} {Q:Bool->Shared->Prop}
theorem BL {a b:Key} {u v:Value} (ru:RelV (kV a) u) (rv:RelV (kV b) v) (e:isI a=isI b) (q:Q (lt1 a b) s):wpAny (model prog w) A (oneLt' false u v) Q E s:=by
 refine PySem.W.kat_one u v ?_
 cases a with
 | inl i =>
  cases b with
  | inr x=>cases e
  | inl j =>
   obtain ⟨t,rfl⟩:=ru
   obtain ⟨t',rfl⟩:=rv
   exact lt_int q
 | inr x =>
  cases b with
  | inl j=>cases e
  | inr y =>
   obtain ⟨t,rfl⟩:=ru
   obtain ⟨t',rfl⟩:=rv
   exact PySem.P.lt_str q
theorem Cg {a b:Key} {u v:Value} (ru:RelV (kV a) u) (rv:RelV (kV b) v) (e:isI a=isI b) (q:Q (decide (a=b)) s):wpAny (model prog w) A (eqBool u v) Q E s:=by
 cases a with
 | inl i =>
  cases b with
  | inr x=>cases e
  | inl j =>
   obtain ⟨t,rfl⟩:=ru
   obtain ⟨t',rfl⟩:=rv
   refine wpAny_eqBool_int ?_
   rw [<- key_ll]; exact q
 | inr x =>
  cases b with
  | inl j=>cases e
  | inr y =>
   obtain ⟨t,rfl⟩:=ru
   obtain ⟨t',rfl⟩:=rv
   refine wpAny_eqBool_str ?_
   rw [<- key_rr]; exact q
theorem wM {fin:Bool} (k m:List Key) (us vs:List Value) (i:Nat) (ha:Vals (k.map kV) us) (hb:Vals (m.map kV) vs) (e:shOf k=shOf m) (hf:fin=false) (q:Q (ltK k m) s) :
  PySem.W.KatLex prog w A true fin Q (us.zip vs) i s:=by
 induction k generalizing m us vs i with
 | nil =>
  cases m with
  | cons b m=>simp [shOf] at e
  | nil =>
   rw [Paired.n0 ha,Paired.n0 hb]
   subst hf
   exact PySem.W.kat_nil q
 | cons a k ih =>
  cases m with
  | nil=>simp [shOf] at e
  | cons b m =>
   obtain ⟨u,us,rfl,ra,rk⟩:=Paired.c ha
   obtain ⟨v,vs,rfl,rb,rm⟩:=Paired.c hb
   simp only [shOf,xas,List.cons.injEq] at e
   rw [xa9]
   refine PySem.W.kat_cons (Cg ra rb e.1 (PySem.W.kat_go (fun h=>PySem.W.kat_yes ?_) (fun h=>PySem.W.kat_no ?_)))
   ·have h:=of_decide_eq_true h
    subst h
    unfold ltK at q
    rw [if_pos rfl] at q
    exact ih m _ _ (i+1) rk rm e.2 q
   ·have h:=of_decide_eq_false h
    unfold ltK at q
    rw [if_neg h] at q
    by_cases h0:i=0
    ·subst h0
     cases a with
     | inr x =>
      cases b with
      | inl j=>cases e.1
      | inr y =>
       obtain ⟨t,rfl⟩:=ra
       obtain ⟨t',rfl⟩:=rb
       exact oneLt_str q
     | inl i =>
      cases b with
      | inr x=>cases e.1
      | inl j =>
       obtain ⟨t,rfl⟩:=ra
       obtain ⟨t',rfl⟩:=rb
       exact oneLt_int q
    ·rw [show (true && i == 0)=false by simp [h0]]
     exact BL ra rb e.1 q
end
section
variable {X:Cx} {pins:List (Addr × Obj)} {σ:St} {H:Hp} {s:Shared}
theorem Inv.tup {b:Addr} {xs:List V} (I:Inv X pins σ H s) (h:H b=some (.tup xs)):∃ its:List Value,Vals xs its/\IsTup s.heap b its.toArray:=(I.hok b _ h).2
theorem vK (I:Inv X pins σ H s) {s':Shared} (kp:∀ b o,s.heap.get? b=some o->s'.heap.get? b=some o) {A:Around} {L:List (List Key)} {b0:Bool} {sh:List Bool} :
  Tim.Cmp X.prog X.w A s' (tuples' true) (fun v=>rkK L (qm H v)) (fun v=>∃ b k,v=.ref b/\H b=some (.tup (k.map kV))/\shOf k=b0 :: sh/\k∈L):=by
 rintro x y ⟨b,k,rfl,hb,hk,mk⟩ ⟨c,m,rfl,hc,hm,mm⟩ Q E q
 obtain ⟨us,ru,o,e1,c1,n1,d1⟩:=I.tup hb
 obtain ⟨vs,rv,o',e2,c2,n2,d2⟩:=I.tup hc
 have sh':shOf k=shOf m:=hk.trans hm.symm
 simp only [fQ hb,fQ hc] at q
 rw [xX sh' mk] at q
 refine PySem.W.kat_lt (kp _ _ e1) d1 (kp _ _ e2) d2 (wM k m us vs 0 ru rv sh' ?_ q)
 ·have h1:=ru.length
  have h2:=rv.length
  have h3:k.length=m.length:=by
   have:=congrArg List.length sh'
   simpa [shOf] using this
  simp only [xab] at h1 h2
  exact decide_eq_false (by simp only [xau]; lia)
theorem kat_tups (I:Inv X pins σ H s) {s':Shared} (kp:∀ b o,s.heap.get? b=some o->s'.heap.get? b=some o) {b0:Bool} {sh:List Bool} {ys:List V} {ks:List (List Key)} {vs:List Value} (ht:cT H ys ks) (hv:Vals ys vs) (hs:∀ k∈ks,shOf k=b0 :: sh) :
  ∃ fs:List Value,PySem.W.KatTups s'.heap vs fs/\fs.length=vs.length/\∀ f∈fs,(b0=true->∃ i t,f=Value.int i t)/\(b0=false->∃ x t,f=Value.str x t):=by
 induction ys generalizing ks vs with
 | nil =>
  rw [Paired.n0 hv]
  exact ⟨[],.nil,rfl,by simp⟩
 | cons y ys ih =>
  obtain ⟨k,ks,rfl,⟨b,rfl,hb⟩,t⟩:=Paired.c ht
  obtain ⟨v,vs,rfl,rfl,rs⟩:=Paired.c hv
  obtain ⟨fs,f1,f2,f3⟩:=ih t rs fun j hj=>hs j (xac _ hj)
  have hk:=hs k xad
  obtain ⟨us,ru,o,e1,c1,n1,d1⟩:=I.tup hb
  cases k with
  | nil=>simp [shOf] at hk
  | cons a k =>
   obtain ⟨u,us,rfl,ra,rr⟩:=Paired.c ru
   simp only [shOf,xas,List.cons.injEq] at hk
   refine ⟨u :: fs,.cons (kp _ _ e1) c1 d1 rfl f1,by simp [f2],fun f hf=>?_⟩
   rcases xaj.mp hf with rfl | hf
   ·cases a with
    | inr x =>
     obtain ⟨tk,rfl⟩:=ra
     exact ⟨(fun z=>by rw [<- hk.1] at z; cases z),fun _=>⟨_,_,rfl⟩⟩
    | inl i =>
     obtain ⟨tk,rfl⟩:=ra
     exact ⟨fun _=>⟨_,_,rfl⟩,fun z=>by rw [<- hk.1] at z; cases z⟩
   ·exact f3 f hf
end
theorem cT.mem {H:Hp} {ys:List V} {ks:List (List Key)} (h:cT H ys ks) (y:V) (hy:y∈ys):∃ b k,y=.ref b/\H b=some (.tup (k.map kV))/\k∈ks:=by
 induction ys generalizing ks with
 | nil=>cases hy
 | cons z ys ih =>
  obtain ⟨k,ks,rfl,⟨b,rfl,g⟩,t⟩:=Paired.c h
  rcases xaj.mp hy with rfl | hy
  ·exact ⟨b,_,rfl,g,xad⟩
  ·obtain ⟨b,k,e,g,m⟩:=ih t hy
   exact ⟨b,k,e,g,xac _ m⟩
theorem cT.keys {H:Hp} {ys:List V} {ks:List (List Key)} {vs:List Value} (h:cT H ys ks) (hv:Vals ys vs):vs.map (qm H)=ks/\∀ v∈vs,∃ b k,v=.ref b/\H b=some (.tup (k.map kV))/\k∈ks:=by
 induction ys generalizing ks vs with
 | nil=>rw [Paired.n0 hv,show ks=[] from Paired.n0 h]; exact ⟨rfl,by simp⟩
 | cons y ys ih =>
  obtain ⟨k,ks,rfl,⟨b,rfl,g⟩,t⟩:=Paired.c h
  obtain ⟨v,vs,rfl,rfl,rs⟩:=Paired.c hv
  obtain ⟨e,m⟩:=ih t rs
  refine ⟨by rw [xas,fQ g,e],fun v hv=>?_⟩
  rcases xaj.mp hv with rfl | hv
  ·exact ⟨b,k,rfl,g,xad⟩
  ·obtain ⟨b',k',e1,e2,e3⟩:=m v hv
   exact ⟨b',k',e1,e2,xac _ e3⟩
theorem cT.of {H:Hp} {ks:List (List Key)} (vs:List Value) (h:∀ v∈vs,∃ b k,v=Value.ref b/\H b=some (.tup (k.map kV))/\k∈ks):∃ zs,cT H zs (vs.map (qm H))/\Vals zs vs:=by
 induction vs with
 | nil=>exact ⟨[],.nil,.nil⟩
 | cons v vs ih =>
  obtain ⟨zs,a,c⟩:=ih fun u hu=>h u (xac _ hu)
  obtain ⟨b,k,rfl,e,_⟩:=h v xad
  exact ⟨.ref b :: zs,.cons ⟨b,rfl,by rw [fQ e]; exact e⟩ a,.cons rfl c⟩
end L2
namespace Tim
open PySem PyProof.Rows
section
variable {prog:Program} {w:World} {A:Around} {E:Value->Shared->Prop} {s:Shared} {κ:SortKind} {r:Value->Int} {P:Value->Prop}
theorem oR {T:String} {r d:Addr} {n:Nat} {P:Nat->Value->Prop} {OK:Heap->Prop} {R:Result->Shared->Prop} (K:PySem.W.KdlSrc prog w T r d n P OK) (hh:A.handled=none) (hok:OK s.heap) (hn:n<=sizeLine)
  (hR:∀ h' tk acc c,(∀ b o,s.heap.get? b=some o->h'.get? b=some o)->h'.get? s.heap.objs.size=some { cls:=.type "list",data:=.seq acc c }->ItemsOf P acc n->R (.ok (.ret (.ref s.heap.objs.size))) { s with heap:=h',toks:=tk }) :
  codeAny (model prog w) A (.builtin "proto.collect" ⟨[.ref r],[]⟩) R s:=by
 have hth:=K.there _ hok
 have hS:(s.heap.push { cls:=.type "list",data:=.seq ([]:List Value).toArray }).get? s.heap.objs.size=some { cls:=.type "list",data:=.seq ([]:List Value).toArray }:=xaC _ rfl
 refine codeAny_builtin F.entry_proto_collect ?_
 rw [Around.under_plainId F.plain_proto_collect _]
 show wpAny _ A.in1 (newList [] >>= fun l=>again (.builtin "list.__iadd__" ⟨[l,.ref r],[]⟩)) _ _ s
 refine xaa (wpAny_newObj_type ?_)
 refine xaf ⟨plainId_quiet F.plain_list_iadd _,codeAny_builtin F.entry_list_iadd ?_⟩
 rw [Around.under_plainId F.plain_list_iadd _]
 show wpAny _ A.in1 (Builtin.List.listExtendWith (.ref s.heap.objs.size) (.ref r) (.ref s.heap.objs.size)) _ _ _
 exact PySem.W.kdl_extend (R:=R) (s:={ s with heap:=s.heap.push { cls:=.type "list",data:=.seq ([]:List Value).toArray } }) K hh (K.keep _ _ hok fun b _ o e=>xal _ e) s.heap.objs.size (xbU hth.1) (xbU hth.2) _ 0 hS
  (fun h' tk acc' c' kp eo ia=>hR h' tk acc' c' (fun b o e=>kp b o (xaw (xak e)) (xal _ e)) eo ia) hn
theorem ql {T:String} {r d:Addr} {n:Nat} {P:Nat->Value->Prop} {OK:Heap->Prop} {Q:List Value->Shared->Prop} (K:PySem.W.KdlSrc prog w T r d n P OK) (hh:A.handled=none) (hok:OK s.heap) (hn:n<=sizeLine)
  (hQ:∀ h' tk acc,(∀ b o,s.heap.get? b=some o->h'.get? b=some o)->s.heap.objs.size<=h'.objs.size->ItemsOf P acc n->Q acc.toList { s with heap:=h',toks:=tk }):wpAny (model prog w) A (collect (.ref r)) Q E s:=by
 unfold collect
 refine xaa (wpAny_runValue (oR K hh hok hn fun h' tk acc c kp eo ia=>?_))
 show wpAny _ A (load s.heap.objs.size >>= _) _ _ { s with heap:=h',toks:=tk }
 refine xaa (wpAny_load eo ?_)
 exact xaf (hQ h' tk acc kp (xaK (xak eo)) ia)
theorem rW {v:Value} {R:List Value->Prop} {Q:Value->Shared->Prop}
  (hcol:∀ (A':Around) (E':Value->Shared->Prop) (Q':List Value->Shared->Prop),A'.handled=A.handled->(∀ vs h1 tk,R vs->(∀ b o,s.heap.get? b=some o->h1.get? b=some o)->s.heap.objs.size<=h1.objs.size->Q' vs { s with heap:=h1,toks:=tk })->wpAny (model prog w) A' (collect v) Q' E' s)
  (hsz:∀ vs,R vs->vs.length<=sizeLine) (hP:∀ vs,R vs->∀ v∈vs,P v)
  (hk:∀ vs,R vs->2<=vs.length->∀ (A':Around) (E':Value->Shared->Prop) (s':Shared),(∀ b o,s.heap.get? b=some o->s'.heap.get? b=some o)->∀ (Q:SortKind->Shared->Prop),Q κ s'->wpAny (model prog w) A' (keyKind' vs.toArray) Q E' s')
  (C:∀ (s':Shared),(∀ b o,s.heap.get? b=some o->s'.heap.get? b=some o)->Cmp prog w A.in1.in1 s' κ r P)
  (h:∀ (vs:List Value) (h':Heap) (a:Addr) (out:List Value) (n tk:Nat),R vs->out.Perm vs->(out.Pairwise fun x y=>r x<=r y)->(∀ b o,s.heap.get? b=some o->h'.get? b=some o)->s.heap.objs.size<=a->h'.get? a=some (seqObj "list" out.toArray n)->Q (.ref a) { s with heap:=h',toks:=tk }) :
  wpAny (model prog w) A (call (.builtin "sorted") [v]) Q E s:=by
 refine Calls.call_function_entry kind_sorted plain_sorted entry_sorted (args_sorted1 _) ?_
 unfold Builtin.«sorted»
 refine xaa (m:=checkCount "sorted" 1 1 _) (xaf ?_)
 refine xaa (hcol _ _ _ rfl fun vs h1 tk hR kp hz=>?_)
 have hsz':=hsz vs hR
 refine xaa (wpAny_newList ?_ (by simpa using hsz'))
 have hoL:(h1.push (seqObj "list" vs.toArray 0)).get? h1.objs.size=some (seqObj "list" vs.toArray 0):=xaC _ rfl
 have old:∀ b o,s.heap.get? b=some o->(dZ (h1.push (seqObj "list" vs.toArray 0)) h1.objs.size vs).get? b=some o:=fun b o e=>by
  have hlt:b<h1.objs.size:=xak (kp b o e)
  rw [pX (xaw hlt) (by rw [size_push']; exact xbc hlt)]
  exact xal _ (kp b o e)
 show wpAny _ _ _ _ _ { s with heap:=h1.push (seqObj "list" vs.toArray 0),toks:=tk }
 refine xaa (wpAny_holding (wpAny_call_entry slot_list_sort ⟨_,hoL,rfl⟩ entry_list_sort (o_ (r:=r) (s:={ s with heap:=h1.push (seqObj "list" vs.toArray 0),toks:=tk }) hoL hsz' (hP vs hR)
  (fun h2=>hk vs hR h2 _ _ _ old) (fun h2=>C _ old) fun out a1 a2=>⟨_,rfl,?_⟩) (args_list_sort _)))
 obtain ⟨n,e⟩:=sortedHeap_at (out:=out) hoL
 refine xaf ⟨_,rfl,h vs _ h1.objs.size out.toList n tk hR a1 a2 (fun b o e=>?_) hz (by rw [Array.toArray_toList]; exact e)⟩
 have hlt:b<h1.objs.size:=xak (kp b o e)
 rw [sortedHeap_old (xaw hlt) (by rw [size_push']; exact xbc hlt)]
 exact xal _ (kp b o e)
end
end Tim
namespace L2
open PySem PySem.Spec PyProof.Rows
def jf:HO->Prop
 | .dK _=>True
 | .dT _=>True
 | _=>False
section
variable {X:Cx} {pins:List (Addr × Obj)} {σ:St} {H:Hp} {s:Shared}
theorem Inv.nU {p:Addr} {u v:HO} (I:Inv X pins σ H s) (e:H p=some u) (nt:∀ xs,u≠.tup xs) (no:∀ y,u≠.own y) (nf:∀ o w,X.H₀ p≠some (.frz o w)) (nb:∀ ps,X.H₀ p≠some (.tbl ps)) (new:ObjOk X.prog X.w (upd H p v) s.heap p v):Inv X pins σ (upd H p v) s:=by
 have ne:∀ {b:Addr},H b=none->b≠p:=fun h z=>by subst z; rw [e] at h; cases h
 have ht:∀ b xs,H b=some (.tup xs)->upd H p v b=some (.tup xs):=fun b xs q=>by
  rw [upd_ne fun z=>by subst z; rw [e] at q; cases q; exact nt _ rfl]; exact q
 refine ⟨I.ok,I.os,I.bare,⟨I.base.keep,I.base.slot,fun b o q n hx=>?_,I.base.there,fun b xs q=>ht b xs (I.base.tups b xs q),fun b o w q=>?_,fun b ps q=>?_⟩,I.loc,I.cell,?_,fun x c q=>?_,fun q hq=>?_,fun b o q=>?_,I.len⟩
 ·have:=I.base.free b o q n hx
  rw [upd_ne (ne this)]; exact this
 ·rw [upd_ne fun z=>by subst z; exact nf _ _ q]; exact I.base.frzs b o w q
 ·rw [upd_ne fun z=>by subst z; exact nb _ q]; exact I.base.tbls b ps q
 ·rw [upd_ne (ne I.free)]; exact I.free
 ·rw [upd_ne (ne (I.freeC x c q))]; exact I.freeC x c q
 ·obtain ⟨a,b,c⟩:=I.pin q hq
  exact ⟨a,by rw [upd_ne (ne b)]; exact b,c⟩
 ·by_cases z:b=p
  ·subst z; rw [upd_same] at q; cases q; exact new
  ·rw [upd_ne z] at q
   refine (I.hok b o q).stay (fun _ _ _ h=>h) (fun c h=>?_) ht
   rw [upd_ne fun z=>by subst z; rw [e] at h; cases h; exact no _ rfl]; exact h
theorem Inv.Ba {p:Addr} {u:HO} (I:Inv X pins σ H s) (e:H p=some u) (hu:jf u):(∀ o w,X.H₀ p≠some (.frz o w))/\∀ ps,X.H₀ p≠some (.tbl ps) :=
 ⟨fun o w z=>by have:=I.base.frzs p o w z; rw [e] at this; cases this; exact hu,fun ps z=>by obtain ⟨m,this⟩:=I.base.tbls p ps z; rw [e] at this; cases this; exact hu⟩
theorem Inv.freeze {p:Addr} {u:HO} {o:Obj} (I:Inv X pins σ H s) (e:H p=some u) (hu:jf u) (ho:s.heap.get? p=some o):Inv X pins σ (upd H p (.frz o u)) s:=by
 obtain ⟨nf,nb⟩:=I.Ba e hu
 refine I.nU e (fun xs z=>by subst z; exact hu) (fun y z=>by subst z; exact hu) nf nb ⟨ho,(I.hok p u e).stay (fun _ _ _ h=>h) (fun c h=>?_) fun c xs h=>?_⟩
 ·rw [upd_ne fun z=>by subst z; rw [e] at h; cases h; exact hu]; exact h
 ·rw [upd_ne fun z=>by subst z; rw [e] at h; cases h; exact hu]; exact h
theorem Inv.thaw {p:Addr} {u:HO} {o:Obj} (I:Inv X pins σ H s) (e:H p=some (.frz o u)) (nf:∀ o w,X.H₀ p≠some (.frz o w)) (nb:∀ ps,X.H₀ p≠some (.tbl ps)):Inv X pins σ (upd H p u) s:=by
 have ob:ObjOk X.prog X.w H s.heap p (.frz o u):=I.hok p _ e
 refine I.nU e (fun xs z=>nomatch z) (fun y z=>nomatch z) nf nb (ob.2.stay (fun _ _ _ h=>h) (fun c h=>?_) fun c xs h=>?_)
 ·rw [upd_ne fun z=>by subst z; rw [e] at h; cases h]; exact h
 ·rw [upd_ne fun z=>by subst z; rw [e] at h; cases h]; exact h
def thwN (X:Cx) (N:St->Hp->Prop):St->Hp->Prop:=fun σ H=>N σ H\/∃ p u o,H p=some (.frz o u)/\(∀ o w,X.H₀ p≠some (.frz o w))/\(∀ ps,X.H₀ p≠some (.tbl ps))/\N σ (upd H p u)
def thwR (X:Cx) (N:V->Hp->Prop):V->Hp->Prop:=fun v H=>N v H\/∃ p u o,H p=some (.frz o u)/\(∀ o w,X.H₀ p≠some (.frz o w))/\(∀ ps,X.H₀ p≠some (.tbl ps))/\N v (upd H p u)
theorem yz {st:Stmt} {t:TS} (h:PS X st t):PS X st (fun D σ H=>t { D with nx:=thwN X D.nx,bk:=thwN X D.bk,ct:=thwN X D.ct,rt:=thwR X D.rt } σ H):=by
 intro pins s σ H D I q
 refine thn (h pins s σ H _ I q) fun f s1 z=>?_
 cases f with
 | next =>
  obtain ⟨σ1,H1,I1,n | ⟨p,u,o,e,nf,nb,n⟩⟩:=z
  ·exact ⟨σ1,H1,I1,n⟩
  ·exact ⟨σ1,_,I1.thaw e nf nb,n⟩
 | cont =>
  obtain ⟨σ1,H1,I1,n | ⟨p,u,o,e,nf,nb,n⟩⟩:=z
  ·exact ⟨σ1,H1,I1,n⟩
  ·exact ⟨σ1,_,I1.thaw e nf nb,n⟩
 | brk =>
  obtain ⟨σ1,H1,I1,n | ⟨p,u,o,e,nf,nb,n⟩⟩:=z
  ·exact ⟨σ1,H1,I1,n⟩
  ·exact ⟨σ1,_,I1.thaw e nf nb,n⟩
 | ret v =>
  obtain ⟨x1,σ1,H1,I1,r1,n | ⟨p,u,o,e,nf,nb,n⟩⟩:=z
  ·exact ⟨x1,σ1,H1,I1,r1,n⟩
  ·exact ⟨x1,σ1,_,I1.thaw e nf nb,r1,n⟩
end
def Itd (p:Addr) (o:Obj) (ks:List V):It :=
 ⟨fun i H=>i<ks.length/\∃ u,H p=some (.frz o u),fun i H x H'=>H'=H/\ks[i]? = some x,fun i H=>i=ks.length/\∃ u,H p=some (.frz o u)⟩
theorem uJ {P:Program} {w:World} {K:PySem.W.Frag} {tg:Expr} (p it:Addr) {o:Obj} {es:Ents} {ep:Nat} {ks:List V} (hx:o.ExactDict) (hd:o.data=.dict es ep) (hl:es.size=ks.length)
  (hk:∀ (i:Nat) x,ks[i]? = some x->∃ e,es[i]? = some e/\RelV x e.key):Turn P w K tg (Itd p o ks) [it] it (fun i h=>h.IsKeyIter it p i es.size ep) where
 mem:=by simp
 obj:=fun i h st b hb=>by
  have e:b=it:=by simpa using hb
  subst e
  obtain ⟨o,e,c,d⟩:=st
  exact ⟨o,e,fun v z=>by rw [d] at z; cases z⟩
 keep:=fun i h h' st k=>st.at fun o e=>k it (by simp) o e
 item:=by
  intro X hP hw hK hc i pins s σ H E I hf st hg
  subst hP hw hK
  obtain ⟨hi,u,hfz⟩:=hg
  have ob:ObjOk X.prog X.w H s.heap p (.frz o u):=I.hok p _ hfz
  obtain ⟨e,he,rk⟩:=hk i ks[i] (xaX hi)
  obtain ⟨f0,f1,f2,f3,f4,f5⟩:=hf it (by simp)
  have hi':i<es.size:=by lia
  have he':es[i]=e:=by rw [xbj hi'] at he; exact Option.some.inj he
  refine qw st ⟨o,ob.1,hx,hd⟩ hi' fun h' st' sb=>?_
  have I1:Inv X pins σ H { s with heap:=h' }:=I.turned (t':=s.toks) (fun b o hb e=>(sb.2 b hb).trans e) f0 f1 f3 f4 f5
  obtain ⟨o2,e2,c2,d2⟩:=id st'
  exact ⟨_,rfl,go_of (s:={ s with heap:=h' }) e2 c2 d2 (by decide) ⟨ks[i],H,I1,by rw [he']; exact rk,⟨rfl,xaX hi⟩,st',fun b hb=>(hf b hb).1⟩⟩
 done:=by
  intro X hP hw hK hc i pins s σ H E I hf st hg
  subst hP hw hK
  obtain ⟨hi,u,hfz⟩:=hg
  have ob:ObjOk X.prog X.w H s.heap p (.frz o u):=I.hok p _ hfz
  obtain ⟨f0,f1,f2,f3,f4,f5⟩:=hf it (by simp)
  have hi':i=es.size:=by lia
  subst hi'
  exact qT (I.ok.hd hc) st ⟨o,ob.1,hx,hd⟩ fun h' eb=>⟨rfl,I.turned (t':=s.toks) (fun b o hb e=>eb b o hb e) f0 f1 f3 f4 f5⟩
 self:=fun _ _ _ _ _ st h=>wpAny_pyIter_keyiter st h
theorem sO {prog:Program} {w:World}:∀ {el:List DictEntry} {vs:List (Key × Value)},Pairs (mixKind prog w) el vs->∀ {kvs:List (Key × V)},KV kvs vs->el.length=kvs.length/\∀ (i:Nat) x,(kvs.map fun kv=>kV kv.1)[i]? = some x->∃ e,el[i]? = some e/\RelV x e.key:=by
 intro el vs h
 induction h with
 | nil =>
  intro kvs r
  cases r
  exact ⟨rfl,fun i x hx=>by simp at hx⟩
 | @cons e kv es vs hk hv _ ih =>
  intro kvs r
  cases r with
  | @cons p q l1 l2 r1 rs =>
   obtain ⟨a,b⟩:=ih rs
   refine ⟨by rw [xaL,xaL,a],fun i x hx=>?_⟩
   cases i with
   | zero =>
    simp only [xas,xbX,Option.some.injEq] at hx
    subst hx
    refine ⟨e,rfl,?_⟩
    rw [r1.1]
    rcases keyIs_shape hk with ⟨i,t,e1,e2⟩ | ⟨x,t,e1,e2⟩ <;> rw [e1,e2] <;> exact ⟨t,rfl⟩
   | succ i=>exact b i x (by simpa using hx)
def lM (H:Hp) (u:HO) (ks:List V):Prop:=match u with
 | .dK kvs=>ks=kvs.map fun kv=>kV kv.1
 | .dT kvs=>cT H ks (kvs.map (·.1))
 | _=>False
def D_ (X:Cx) (tl:TE):TI:=fun σ H R=>tl σ H fun x H1=>∃ p u,x=.ref p/\jf u /\
 ((H1 p=some u/\∀ o ks,(∀ o' w,X.H₀ p≠some (.frz o' w))->(∀ ps,X.H₀ p≠some (.tbl ps))->lM H1 u ks->R (Itd p o ks) (upd H1 p (.frz o u)))\/∃ o,H1 p=some (.frz o u)/\∀ ks,lM H1 u ks->R (Itd p o ks) H1)
theorem qy {P:Program} {w:World} {H:Hp} {h:Heap} {p:Addr} {u:HO} (hu:jf u) (ob:ObjOk P w H h p u):∃ o es ep ks,h.get? p=some o/\o.ExactDict/\o.data=.dict es ep/\(p == sysModules)=false/\es.size=ks.length/\(∀ (i:Nat) x,ks[i]? = some x->∃ e,es[i]? = some e/\RelV x e.key)/\lM H u ks:=by
 cases u with
 | dK kvs =>
  obtain ⟨z,y,vs,rel,o,es,ep,h1,h2,h3,h4,h5,h6⟩:=ob
  obtain ⟨a,b⟩:=sO h5 rel
  refine ⟨o,es,ep,_,h1,h2,h3,y,?_,fun i x hx=>?_,rfl⟩
  ·rw [xab,<- a,xaW]
  ·obtain ⟨e,he,r⟩:=b i x hx
   exact ⟨e,by rw [<- xaD]; exact he,r⟩
 | dT kvs =>
  obtain ⟨z,y,ps,rel,o,es,ep,h1,h2,h3,h4,h5⟩:=ob
  obtain ⟨ta,va⟩:=pL (prog:=P) (w:=w) rel
  refine ⟨o,es,ep,_,h1,h2,h3,y,?_,fun i x hx=>?_,ta⟩
  ·have:=congrArg List.length h4
   rw [xaW,xab] at this
   rw [this,xab]
  ·obtain ⟨w,hw,rw'⟩:=va.get hx
   rw [xaE,<- h4,xaD] at hw
   obtain ⟨e,he,rfl⟩:=xbp.mp hw
   exact ⟨e,he,rw'⟩
 | _=>exact hu.elim
theorem yu {X:Cx} {e tg:Expr} {tl:TE} (he:PE X e tl):PI X tg e (D_ X tl):=by
 intro pins s σ H R I h
 refine thn (he pins s σ H _ I h) fun v s1 hx5=>L2.ex2 hx5 fun x H1 I1 r1 q1=>?_
 obtain ⟨p,u,e,hu,q⟩:=q1
 subst e
 cases r1
 have fin:∀ {H2:Hp} {o:Obj} {es:Ents} {ep:Nat} {ks:List V},s1.heap.get? p=some o->o.ExactDict->o.data=.dict es ep->(p == sysModules)=false->es.size=ks.length->(∀ (i:Nat) x,ks[i]? = some x->∃ e,es[i]? = some e/\RelV x e.key)->Inv X pins σ H2 s1->R (Itd p o ks) H2 ->
   wpAny (model X.prog X.w) X.A (pyIter (.ref p)) (PIE X pins σ tg R) X.xe s1:=by
  intro H2 o es ep ks ho hx hd lo hl hk I2 q
  refine qU lo ⟨o,ho,hx,hd⟩ ?_
  refine ⟨s1.heap.objs.size,[s1.heap.objs.size],_,_,_,rfl,I2.kept (t':=s1.toks) fun b o e=>xal _ e,uJ p _ hx hd hl hk,⟨_,xaC _ rfl,rfl,rfl⟩,fun b hb=>?_,q⟩
  have e:b=s1.heap.objs.size:=by simpa using hb
  subst e
  exact I2.fpOk (xag _) (I2.hok.fresh (xag _))
 rcases q with ⟨hp,q⟩ | ⟨o,hp,q⟩
 ·obtain ⟨o,es,ep,ks,ho,hx,hd,lo,hl,hk,hks⟩:=qy hu (I1.hok p u hp)
  obtain ⟨nf,nb⟩:=I1.Ba hp hu
  exact fin ho hx hd lo hl hk (I1.freeze hp hu ho) (q o ks nf nb hks)
 ·have ob:ObjOk X.prog X.w H1 s1.heap p (.frz o u):=I1.hok p _ hp
  obtain ⟨o',es,ep,ks,ho,hx,hd,lo,hl,hk,hks⟩:=qy hu ob.2
  have e:o'=o:=by have:=ob.1; rw [ho] at this; exact Option.some.inj this
  subst e
  exact fin ho hx hd lo hl hk I1 (q ks hks)
end L2
namespace L2.Q
open PySem PySem.Spec PyProof.Rows
inductive D where
 | non | bl (b:Bool) | int (i:Int) | str (x:Str)
 | list (xs:List D) | tup (xs:List D) | dK (kvs:List (Key × D)) | dT (kvs:List (List Key × D))
mutual
/-- nothing in it can be changed -/
def D.flat:D->Bool
 | .list _=>false
 | .dK _=>false
 | .dT _=>false
 | .tup xs=>flats xs
 | _=>true
def flats:List D->Bool
 | []=>true
 | x :: xs=>x.flat && flats xs
end
theorem fu:∀ {xs:List D},flats xs=true↔∀ x∈xs,x.flat=true
 | []=>by simp [flats]
 | x :: xs=>by simp [flats,fu (xs:=xs)]
theorem iZ {xs ys:List D}:flats (xs++ys)=(flats xs && flats ys):=by
 induction xs with
 | nil=>simp [flats]
 | cons x xs ih=>simp [flats,ih,Bool.and_assoc]
def kOk:Key->Bool
 | .inl _=>true
 | .inr x=>decide (x.length<=sizeLine)
def KsOk (kvs:List (Key × D)):Prop:=kvs.length<=sizeLine/\∀ p∈kvs,kOk p.1=true
def KtOk (kvs:List (List Key × D)):Prop:=kvs.length<=sizeLine/\∀ p∈kvs,p.1.length<=sizeLine/\∀ k∈p.1,kOk k=true
mutual
inductive Rep (K:PySem.W.Frag) (H:Hp):D->V->Prop
 | non:Rep K H .non .non
 | bl (b:Bool):Rep K H (.bl b) (.bl b)
 | int (i:Int):Rep K H (.int i) (.int i)
 | str {x:Str}:x.length<=sizeLine->Rep K H (.str x) (.str x)
 | list {a:Addr} {vs:List V} {ds:List D}:vs.length<=sizeLine->SqL K H a vs->Reps K H ds vs->Rep K H (.list ds) (.ref a)
 | tup {a:Addr} {vs:List V} {ds:List D}:vs.length<=sizeLine->H a=some (.tup vs)->Reps K H ds vs->Rep K H (.tup ds) (.ref a)
 | dK {a:Addr} {vs:List V} {kvs:List (Key × D)}:KsOk kvs->Rd H a (.dK ((kvs.map (·.1)).zip vs))->Reps K H (kvs.map (·.2)) vs->Rep K H (.dK kvs) (.ref a)
 | dT {a:Addr} {vs:List V} {kvs:List (List Key × D)}:KtOk kvs->Rd H a (.dT ((kvs.map (·.1)).zip vs))->Reps K H (kvs.map (·.2)) vs->Rep K H (.dT kvs) (.ref a)
inductive Reps (K:PySem.W.Frag) (H:Hp):List D->List V->Prop
 | nil:Reps K H [] []
 | cons {d:D} {v:V} {ds:List D} {vs:List V}:Rep K H d v->Reps K H ds vs->Reps K H (d :: ds) (v :: vs)
end
theorem Rep.ind {K:PySem.W.Frag} {H:Hp} {m1:D->V->Prop} {m2:List D->List V->Prop} (h0:m1 .non .non) (hb:∀ b,m1 (.bl b) (.bl b)) (hi:∀ i,m1 (.int i) (.int i)) (hs:∀ x,x.length<=sizeLine->m1 (.str x) (.str x))
  (hl:∀ a vs ds,vs.length<=sizeLine->SqL K H a vs->Reps K H ds vs->m2 ds vs->m1 (.list ds) (.ref a)) (ht:∀ a vs ds,vs.length<=sizeLine->H a=some (.tup vs)->Reps K H ds vs->m2 ds vs->m1 (.tup ds) (.ref a))
  (hk:∀ a vs kvs,KsOk kvs->Rd H a (.dK ((kvs.map (·.1)).zip vs))->Reps K H (kvs.map (·.2)) vs->m2 (kvs.map (·.2)) vs->m1 (.dK kvs) (.ref a)) (hT:∀ a vs kvs,KtOk kvs->Rd H a (.dT ((kvs.map (·.1)).zip vs))->Reps K H (kvs.map (·.2)) vs->m2 (kvs.map (·.2)) vs->m1 (.dT kvs) (.ref a))
  (hn:m2 [] []) (hc:∀ d v ds vs,Rep K H d v->Reps K H ds vs->m1 d v->m2 ds vs->m2 (d :: ds) (v :: vs)):(∀ {d v},Rep K H d v->m1 d v)/\∀ {ds vs},Reps K H ds vs->m2 ds vs :=
 ⟨fun r=>Rep.rec (motive_1:=fun d v _=>m1 d v) (motive_2:=fun ds vs _=>m2 ds vs) h0 hb hi (fun h=>hs _ h) (fun z s r ih=>hl _ _ _ z s r ih) (fun z s r ih=>ht _ _ _ z s r ih) (fun z s r ih=>hk _ _ _ z s r ih) (fun z s r ih=>hT _ _ _ z s r ih) hn (fun r s a b=>hc _ _ _ _ r s a b) r,
  fun r=>Reps.rec (motive_1:=fun d v _=>m1 d v) (motive_2:=fun ds vs _=>m2 ds vs) h0 hb hi (fun h=>hs _ h) (fun z s r ih=>hl _ _ _ z s r ih) (fun z s r ih=>ht _ _ _ z s r ih) (fun z s r ih=>hk _ _ _ z s r ih) (fun z s r ih=>hT _ _ _ z s r ih) hn (fun r s a b=>hc _ _ _ _ r s a b) r⟩
theorem DGet.k' {H:Hp} {a:Addr} {kvs:List (Key × V)} {k:Key} (e:Rd H a (.dK kvs)):DGet H a (kV k) (valV kvs k):=.inl ⟨kvs,k,e,rfl,rfl⟩
theorem DGet.t' {H:Hp} {a b:Addr} {kvs:List (List Key × V)} {k:List Key} (e:Rd H a (.dT kvs)) (eb:H b=some (.tup (k.map kV))):DGet H a (.ref b) (valV kvs k):=.inr ⟨kvs,k,b,e,rfl,eb,rfl⟩
theorem Same.rd {H H':Hp} (s:Same H H') {a:Addr} {u:HO} (h:Rd H a u):Rd H' a u:=h.imp (s _ _) fun ⟨o,e⟩=>⟨o,s _ _ e⟩
theorem Rep.Aq {K:PySem.W.Frag} {H H':Hp} (s:Same H H'):(∀ {d:D} {v:V},Rep K H d v->Rep K H' d v)/\∀ {ds:List D} {vs:List V},Reps K H ds vs->Reps K H' ds vs :=
 Rep.ind .non .bl .int (fun _ h=>.str h) (fun _ _ _ z h _ ih=>.list z (s.lst h) ih) (fun _ _ _ z h _ ih=>.tup z (s _ _ h) ih) (fun _ _ _ kk h _ ih=>.dK kk (Same.rd s h) ih) (fun _ _ _ kk h _ ih=>.dT kk (Same.rd s h) ih) .nil fun _ _ _ _ _ _ a b=>.cons a b
theorem Rep.same {K:PySem.W.Frag} {H H':Hp} (s:Same H H') {d:D} {v:V} (r:Rep K H d v):Rep K H' d v:=(Rep.Aq s).1 r
theorem Reps.same {K:PySem.W.Frag} {H H':Hp} (s:Same H H') {ds:List D} {vs:List V} (r:Reps K H ds vs):Reps K H' ds vs:=(Rep.Aq s).2 r
theorem Reps.ind {K:PySem.W.Frag} {H:Hp} {m:List D->List V->Prop} (hn:m [] []) (hc:∀ d v ds vs,Rep K H d v->Reps K H ds vs->m ds vs->m (d :: ds) (v :: vs)):∀ {ds vs},Reps K H ds vs->m ds vs :=
 fun r=>(Rep.ind (m1:=fun _ _=>True) (m2:=m) trivial (fun _=>trivial) (fun _=>trivial) (fun _ _=>trivial) (fun _ _ _ _ _ _ _=>trivial) (fun _ _ _ _ _ _ _=>trivial) (fun _ _ _ _ _ _ _=>trivial) (fun _ _ _ _ _ _ _=>trivial) hn fun d v ds vs r s _ b=>hc d v ds vs r s b).2 r
theorem Reps.length {K:PySem.W.Frag} {H:Hp} {ds:List D} {vs:List V} (r:Reps K H ds vs):ds.length=vs.length :=
 Reps.ind (m:=fun ds vs=>ds.length=vs.length) rfl (fun _ _ _ _ _ _ ih=>by rw [xaL,xaL,ih]) r
theorem Reps.append {K:PySem.W.Frag} {H:Hp} {ds es:List D} {vs ws:List V} (r:Reps K H ds vs) (t:Reps K H es ws):Reps K H (ds++es) (vs++ws) :=
 Reps.ind (m:=fun ds vs=>Reps K H (ds++es) (vs++ws)) t (fun _ _ _ _ h _ ih=>.cons h ih) r
theorem Reps.get {K:PySem.W.Frag} {H:Hp} {ds:List D} {vs:List V} {i:Nat} {d:D} (r:Reps K H ds vs) (e:ds[i]? = some d):∃ v,vs[i]? = some v/\Rep K H d v :=
 Reps.ind (m:=fun ds vs=>∀ i d,ds[i]? = some d->∃ v,vs[i]? = some v/\Rep K H d v) (fun i d e=>by simp at e) (fun _ _ _ _ h _ ih i d e=>by
  cases i with
  | zero=>simp at e; subst e; exact ⟨_,rfl,h⟩
  | succ i =>
   obtain ⟨v,e1,r⟩:=ih i d (by simpa using e)
   exact ⟨v,by simpa using e1,r⟩) r i d e
theorem Reps.getV {K:PySem.W.Frag} {H:Hp} {ds:List D} {vs:List V} {i:Nat} {v:V} (r:Reps K H ds vs) (e:vs[i]? = some v):∃ d,ds[i]? = some d/\Rep K H d v :=
 Reps.ind (m:=fun ds vs=>∀ i v,vs[i]? = some v->∃ d,ds[i]? = some d/\Rep K H d v) (fun i d e=>by simp at e) (fun _ _ _ _ h _ ih i d e=>by
  cases i with
  | zero=>simp at e; subst e; exact ⟨_,rfl,h⟩
  | succ i =>
   obtain ⟨v,e1,r⟩:=ih i d (by simpa using e)
   exact ⟨v,by simpa using e1,r⟩) r i v e
theorem Reps.drop {K:PySem.W.Frag} {H:Hp} {ds:List D} {vs:List V} (n:Nat) (r:Reps K H ds vs):Reps K H (ds.drop n) (vs.drop n) :=
 Reps.ind (m:=fun ds vs=>∀ n,Reps K H (ds.drop n) (vs.drop n)) (fun n=>by rw [List.drop_nil,List.drop_nil]; exact .nil) (fun _ _ _ _ h hs ih n=>by
  cases n with
  | zero=>exact .cons h hs
  | succ n=>exact ih n) r n
theorem Reps.n0 {K:PySem.W.Frag} {H:Hp} {vs:List V} (h:Reps K H [] vs):vs=[]:=by cases h; rfl
theorem Reps.c {K:PySem.W.Frag} {H:Hp} {d:D} {ds:List D} {vs:List V} (h:Reps K H (d :: ds) vs):∃ u us,vs=u :: us/\Rep K H d u/\Reps K H ds us:=by
 cases h with
 | cons r rs=>exact ⟨_,_,rfl,r,rs⟩
theorem Reps.take {K:PySem.W.Frag} {H:Hp} {ds:List D} {vs:List V} (n:Nat) (r:Reps K H ds vs):Reps K H (ds.take n) (vs.take n) :=
 Reps.ind (m:=fun ds vs=>∀ n,Reps K H (ds.take n) (vs.take n)) (fun n=>by rw [List.take_nil,List.take_nil]; exact .nil) (fun _ _ _ _ h hs ih n=>by
  cases n with
  | zero=>exact .nil
  | succ n=>exact .cons h (ih n)) r n
mutual
/-- what is owned: a tree whose lists and dicts stand at As,nobody else's; its leaves shared (fl: and flat) -/
inductive RepO (K:PySem.W.Frag) (Hs H:Hp) (fl:Bool):D->V->List Addr->Prop
 | sh {d:D} {v:V}:(fl=true->d.flat=true)->Rep K Hs d v->RepO K Hs H fl d v []
 | list {a:Addr} {vs:List V} {ds:List D} {As:List Addr}:vs.length<=sizeLine->H a=some (.lst vs)->aB K Hs H fl ds vs As->RepO K Hs H fl (.list ds) (.ref a) (a :: As)
 | tup {a:Addr} {vs:List V} {ds:List D} {As:List Addr}:vs.length<=sizeLine->Hs a=some (.tup vs)->flats ds=false->aB K Hs H fl ds vs As->RepO K Hs H fl (.tup ds) (.ref a) As
 | dK {a:Addr} {vs:List V} {kvs:List (Key × D)} {As:List Addr}:KsOk kvs->H a=some (.dK ((kvs.map (·.1)).zip vs))->aB K Hs H fl (kvs.map (·.2)) vs As->RepO K Hs H fl (.dK kvs) (.ref a) (a :: As)
 | dT {a:Addr} {vs:List V} {kvs:List (List Key × D)} {As:List Addr}:KtOk kvs->H a=some (.dT ((kvs.map (·.1)).zip vs))->aB K Hs H fl (kvs.map (·.2)) vs As->RepO K Hs H fl (.dT kvs) (.ref a) (a :: As)
inductive aB (K:PySem.W.Frag) (Hs H:Hp) (fl:Bool):List D->List V->List Addr->Prop
 | nil:aB K Hs H fl [] [] []
 | cons {d:D} {v:V} {ds:List D} {vs:List V} {As Bs:List Addr}:RepO K Hs H fl d v As->aB K Hs H fl ds vs Bs->aB K Hs H fl (d :: ds) (v :: vs) (As++Bs)
end
def Own (H:Hp) (a:Addr):Prop:=(∃ vs,H a=some (.lst vs))\/(∃ kvs,H a=some (.dK kvs))\/∃ kvs,H a=some (.dT kvs)
section
variable {K:PySem.W.Frag} {Hs Hs' H H':Hp} {fl:Bool}
theorem Own.ne {a:Addr} (h:Own H a):H a≠none:=by
 rcases h with ⟨_,e⟩ | ⟨_,e⟩ | ⟨_,e⟩ <;> rw [e] <;> exact fun z=>nomatch z
theorem Own.xT {a:Addr} {vs:List V} (h:Own H a):H a≠some (.tup vs):=by
 rcases h with ⟨_,e⟩ | ⟨_,e⟩ | ⟨_,e⟩ <;> rw [e] <;> exact fun z=>nomatch z
theorem RepO.ind {m1:D->V->List Addr->Prop} {m2:List D->List V->List Addr->Prop} (hs:∀ d v,(fl=true->d.flat=true)->Rep K Hs d v->m1 d v [])
  (hl:∀ a vs ds As,vs.length<=sizeLine->H a=some (.lst vs)->aB K Hs H fl ds vs As->m2 ds vs As->m1 (.list ds) (.ref a) (a :: As)) (ht:∀ a vs ds As,vs.length<=sizeLine->Hs a=some (.tup vs)->flats ds=false->aB K Hs H fl ds vs As->m2 ds vs As->m1 (.tup ds) (.ref a) As)
  (hk:∀ a vs kvs As,KsOk kvs->H a=some (.dK ((kvs.map (·.1)).zip vs))->aB K Hs H fl (kvs.map (·.2)) vs As->m2 (kvs.map (·.2)) vs As->m1 (.dK kvs) (.ref a) (a :: As)) (hT:∀ a vs kvs As,KtOk kvs->H a=some (.dT ((kvs.map (·.1)).zip vs))->aB K Hs H fl (kvs.map (·.2)) vs As->m2 (kvs.map (·.2)) vs As->m1 (.dT kvs) (.ref a) (a :: As))
  (hn:m2 [] [] []) (hc:∀ d v ds vs As Bs,RepO K Hs H fl d v As->aB K Hs H fl ds vs Bs->m1 d v As->m2 ds vs Bs->m2 (d :: ds) (v :: vs) (As++Bs)):(∀ {d v As},RepO K Hs H fl d v As->m1 d v As)/\∀ {ds vs As},aB K Hs H fl ds vs As->m2 ds vs As :=
 ⟨fun r=>RepO.rec (motive_1:=fun d v As _=>m1 d v As) (motive_2:=fun ds vs As _=>m2 ds vs As) (fun f r=>hs _ _ f r) (fun z s r ih=>hl _ _ _ _ z s r ih) (fun z s n r ih=>ht _ _ _ _ z s n r ih) (fun z s r ih=>hk _ _ _ _ z s r ih) (fun z s r ih=>hT _ _ _ _ z s r ih) hn (fun r s a b=>hc _ _ _ _ _ _ r s a b) r,
  fun r=>aB.rec (motive_1:=fun d v As _=>m1 d v As) (motive_2:=fun ds vs As _=>m2 ds vs As) (fun f r=>hs _ _ f r) (fun z s r ih=>hl _ _ _ _ z s r ih) (fun z s n r ih=>ht _ _ _ _ z s n r ih) (fun z s r ih=>hk _ _ _ _ z s r ih) (fun z s r ih=>hT _ _ _ _ z s r ih) hn (fun r s a b=>hc _ _ _ _ _ _ r s a b) r⟩
theorem mem0 {a:Addr} {p:Prop} (h:a∈([]:List Addr)):p:=absurd h xbF
theorem RepO.own2:(∀ {d:D} {v:V} {As:List Addr},RepO K Hs H fl d v As->∀ a∈As,Own H a)/\∀ {ds:List D} {vs:List V} {As:List Addr},aB K Hs H fl ds vs As->∀ a∈As,Own H a :=
 RepO.ind (m1:=fun _ _ As=>∀ a∈As,Own H a) (m2:=fun _ _ As=>∀ a∈As,Own H a) (fun _ _ _ _ a h=>mem0 h) (fun _ _ _ _ _ e _ ih a h=>(xaj.mp h).elim (fun z=>z ▸ .inl ⟨_,e⟩) (ih a)) (fun _ _ _ _ _ _ _ _ ih=>ih)
  (fun _ _ _ _ _ e _ ih a h=>(xaj.mp h).elim (fun z=>z ▸ .inr (.inl ⟨_,e⟩)) (ih a)) (fun _ _ _ _ _ e _ ih a h=>(xaj.mp h).elim (fun z=>z ▸ .inr (.inr ⟨_,e⟩)) (ih a)) (fun a h=>mem0 h) fun _ _ _ _ _ _ _ _ i1 i2 a h=>(xah.mp h).elim (i1 a) (i2 a)
theorem RepO.own {d:D} {v:V} {As:List Addr} (r:RepO K Hs H fl d v As):∀ a∈As,Own H a:=RepO.own2.1 r
theorem aB.own {ds:List D} {vs:List V} {As:List Addr} (r:aB K Hs H fl ds vs As):∀ a∈As,Own H a:=RepO.own2.2 r
theorem RepO.Bj (s:Same Hs Hs'):(∀ {d:D} {v:V} {As:List Addr},RepO K Hs H fl d v As->(∀ a∈As,H' a=H a)->RepO K Hs' H' fl d v As)/\∀ {ds:List D} {vs:List V} {As:List Addr},aB K Hs H fl ds vs As->(∀ a∈As,H' a=H a)->aB K Hs' H' fl ds vs As :=
 RepO.ind (m1:=fun d v As=>(∀ a∈As,H' a=H a)->RepO K Hs' H' fl d v As) (m2:=fun ds vs As=>(∀ a∈As,H' a=H a)->aB K Hs' H' fl ds vs As) (fun _ _ f r _=>.sh f (r.same s))
  (fun _ _ _ _ z e _ ih k=>.list z ((k _ xad).trans e) (ih fun a h=>k a (xac _ h))) (fun _ _ _ _ z e n _ ih k=>.tup z (s _ _ e) n (ih k)) (fun _ _ _ _ z e _ ih k=>.dK z ((k _ xad).trans e) (ih fun a h=>k a (xac _ h)))
  (fun _ _ _ _ z e _ ih k=>.dT z ((k _ xad).trans e) (ih fun a h=>k a (xac _ h))) (fun _=>.nil) fun _ _ _ _ _ _ _ _ i1 i2 k=>.cons (i1 fun a h=>k a (xai _ h)) (i2 fun a h=>k a (xae _ h))
theorem RepO.stay (s:Same Hs Hs') {d:D} {v:V} {As:List Addr} (r:RepO K Hs H fl d v As) (k:∀ a∈As,H' a=H a):RepO K Hs' H' fl d v As:=(RepO.Bj s).1 r k
theorem aB.stay (s:Same Hs Hs') {ds:List D} {vs:List V} {As:List Addr} (r:aB K Hs H fl ds vs As) (k:∀ a∈As,H' a=H a):aB K Hs' H' fl ds vs As:=(RepO.Bj s).2 r k
theorem RepO.grow {d:D} {v:V} {As:List Addr} (s:Same Hs Hs') (t:Same H H') (r:RepO K Hs H fl d v As):RepO K Hs' H' fl d v As :=
 r.stay s fun a h=>by
  cases e:H a with
  | none=>exact absurd e (r.own a h).ne
  | some o=>exact t a o e
theorem aB.grow {ds:List D} {vs:List V} {As:List Addr} (s:Same Hs Hs') (t:Same H H') (r:aB K Hs H fl ds vs As):aB K Hs' H' fl ds vs As :=
 r.stay s fun a h=>by
  cases e:H a with
  | none=>exact absurd e (r.own a h).ne
  | some o=>exact t a o e
theorem RepO.rep2 {G:Hp} (s:Same Hs G):(∀ {d:D} {v:V} {As:List Addr},RepO K Hs H fl d v As->(∀ a∈As,G a=H a)->Rep K G d v)/\∀ {ds:List D} {vs:List V} {As:List Addr},aB K Hs H fl ds vs As->(∀ a∈As,G a=H a)->Reps K G ds vs :=
 RepO.ind (m1:=fun d v As=>(∀ a∈As,G a=H a)->Rep K G d v) (m2:=fun ds vs As=>(∀ a∈As,G a=H a)->Reps K G ds vs) (fun _ _ _ r _=>r.same s)
  (fun _ _ _ _ z e _ ih k=>.list z (.inl (.inl ((k _ xad).trans e))) (ih fun a h=>k a (xac _ h))) (fun _ _ _ _ z e n _ ih k=>.tup z (s _ _ e) (ih k)) (fun _ _ _ _ z e _ ih k=>.dK z (.inl ((k _ xad).trans e)) (ih fun a h=>k a (xac _ h)))
  (fun _ _ _ _ z e _ ih k=>.dT z (.inl ((k _ xad).trans e)) (ih fun a h=>k a (xac _ h))) (fun _=>.nil) fun _ _ _ _ _ _ _ _ i1 i2 k=>.cons (i1 fun a h=>k a (xai _ h)) (i2 fun a h=>k a (xae _ h))
theorem RepO.rep {G:Hp} (s:Same Hs G) {d:D} {v:V} {As:List Addr} (r:RepO K Hs H fl d v As) (k:∀ a∈As,G a=H a):Rep K G d v:=(RepO.rep2 s).1 r k
theorem aB.reps {G:Hp} (s:Same Hs G) {ds:List D} {vs:List V} {As:List Addr} (r:aB K Hs H fl ds vs As) (k:∀ a∈As,G a=H a):Reps K G ds vs:=(RepO.rep2 s).2 r k
theorem Rep.uM {G:Hp} (t:∀ a vs,H a=some (.tup vs)->G a=some (.tup vs)):(∀ {d:D} {v:V},Rep K H d v->d.flat=true->Rep K G d v)/\∀ {ds:List D} {vs:List V},Reps K H ds vs->flats ds=true->Reps K G ds vs :=
 Rep.ind (m1:=fun d v=>d.flat=true->Rep K G d v) (m2:=fun ds vs=>flats ds=true->Reps K G ds vs) (fun _=>.non) (fun b _=>.bl b) (fun i _=>.int i) (fun _ h _=>.str h) (fun _ _ _ _ _ _ _ f=>by simp [D.flat] at f) (fun _ _ _ z e _ ih f=>.tup z (t _ _ e) (ih (by simpa [D.flat] using f)))
  (fun _ _ _ _ _ _ _ f=>by simp [D.flat] at f) (fun _ _ _ _ _ _ _ f=>by simp [D.flat] at f) (fun _=>.nil) fun _ _ _ _ _ _ i1 i2 f=>by
   simp only [flats,xaG] at f
   exact .cons (i1 f.1) (i2 f.2)
theorem Rep.iU {G:Hp} (t:∀ a vs,H a=some (.tup vs)->G a=some (.tup vs)) {d:D} {v:V} (r:Rep K H d v) (f:d.flat=true):Rep K G d v:=(Rep.uM t).1 r f
theorem Reps.iU {G:Hp} (t:∀ a vs,H a=some (.tup vs)->G a=some (.tup vs)) {ds:List D} {vs:List V} (r:Reps K H ds vs) (f:flats ds=true):Reps K G ds vs:=(Rep.uM t).2 r f
theorem Reps.owned {ds:List D} {vs:List V} (r:Reps K Hs ds vs) (f:flats ds=true):aB K Hs H fl ds vs [] :=
 Reps.ind (m:=fun ds vs=>flats ds=true->aB K Hs H fl ds vs []) (fun _=>.nil) (fun _ _ _ _ h _ ih f=>by
  simp only [flats,xaG] at f
  exact .cons (As:=[]) (.sh (fun _=>f.1) h) (ih f.2)) r f
theorem Reps.Az {ds:List D} {vs:List V} (r:Reps K Hs ds vs):aB K Hs H false ds vs [] :=
 Reps.ind (m:=fun ds vs=>aB K Hs H false ds vs []) .nil (fun _ _ _ _ h _ ih=>.cons (As:=[]) (.sh (fun z=>Bool.noConfusion z) h) ih) r
theorem RepO.fls2:(∀ {d:D} {v:V} {As:List Addr},RepO K Hs H fl d v As->RepO K Hs H false d v As)/\∀ {ds:List D} {vs:List V} {As:List Addr},aB K Hs H fl ds vs As->aB K Hs H false ds vs As :=
 RepO.ind (fun _ _ _ r=>.sh (fun z=>Bool.noConfusion z) r) (fun _ _ _ _ z e _ ih=>.list z e ih) (fun _ _ _ _ z e n _ ih=>.tup z e n ih) (fun _ _ _ _ z e _ ih=>.dK z e ih) (fun _ _ _ _ z e _ ih=>.dT z e ih) .nil fun _ _ _ _ _ _ _ _ a b=>.cons a b
theorem RepO.fls {d:D} {v:V} {As:List Addr} (r:RepO K Hs H fl d v As):RepO K Hs H false d v As:=RepO.fls2.1 r
theorem aB.fls {ds:List D} {vs:List V} {As:List Addr} (r:aB K Hs H fl ds vs As):aB K Hs H false ds vs As:=RepO.fls2.2 r
theorem RepO.yO {G:Hp} (t:∀ a vs,Hs a=some (.tup vs)->G a=some (.tup vs)):(∀ {d:D} {v:V} {As:List Addr},RepO K Hs H true d v As->RepO K G H true d v As)/\∀ {ds:List D} {vs:List V} {As:List Addr},aB K Hs H true ds vs As->aB K G H true ds vs As :=
 RepO.ind (fun _ _ f r=>.sh f (r.iU t (f rfl))) (fun _ _ _ _ z e _ ih=>.list z e ih) (fun _ _ _ _ z e n _ ih=>.tup z (t _ _ e) n ih) (fun _ _ _ _ z e _ ih=>.dK z e ih) (fun _ _ _ _ z e _ ih=>.dT z e ih) .nil fun _ _ _ _ _ _ _ _ a b=>.cons a b
theorem RepO.leaves {G:Hp} (t:∀ a vs,Hs a=some (.tup vs)->G a=some (.tup vs)) {d:D} {v:V} {As:List Addr} (r:RepO K Hs H true d v As):RepO K G H true d v As:=(RepO.yO t).1 r
theorem aB.ind {m:List D->List V->List Addr->Prop} (hn:m [] [] []) (hc:∀ d v ds vs As Bs,RepO K Hs H fl d v As->aB K Hs H fl ds vs Bs->m ds vs Bs->m (d :: ds) (v :: vs) (As++Bs)):∀ {ds vs As},aB K Hs H fl ds vs As->m ds vs As :=
 fun r=>(RepO.ind (m1:=fun _ _ _=>True) (m2:=m) (fun _ _ _ _=>trivial) (fun _ _ _ _ _ _ _ _=>trivial) (fun _ _ _ _ _ _ _ _ _=>trivial) (fun _ _ _ _ _ _ _ _=>trivial) (fun _ _ _ _ _ _ _ _=>trivial) hn fun d v ds vs As Bs r s _ b=>hc d v ds vs As Bs r s b).2 r
theorem aB.append {ds es:List D} {vs ws:List V} {As Bs:List Addr} (r:aB K Hs H fl ds vs As) (t:aB K Hs H fl es ws Bs):aB K Hs H fl (ds++es) (vs++ws) (As++Bs) :=
 aB.ind (m:=fun ds vs As=>aB K Hs H fl (ds++es) (vs++ws) (As++Bs)) t (fun _ _ _ _ _ _ h _ ih=>by
  rw [xa2]
  exact .cons h ih) r
theorem aB.n0 {vs:List V} {As:List Addr} (h:aB K Hs H fl [] vs As):vs=[]/\As=[]:=by cases h; exact ⟨rfl,rfl⟩
theorem aB.c {d:D} {ds:List D} {vs:List V} {As:List Addr} (h:aB K Hs H fl (d :: ds) vs As):∃ u us A B,vs=u :: us/\As=A++B/\RepO K Hs H fl d u A/\aB K Hs H fl ds us B:=by
 cases h with
 | cons r rs=>exact ⟨_,_,_,_,rfl,rfl,r,rs⟩
theorem aB.length {ds:List D} {vs:List V} {As:List Addr} (r:aB K Hs H fl ds vs As):ds.length=vs.length :=
 aB.ind (m:=fun ds vs _=>ds.length=vs.length) rfl (fun _ _ _ _ _ _ _ _ ih=>by rw [xaL,xaL,ih]) r
end
inductive Sl where
 /-- shared; owned; owned and walked by a loop just now (at a) -/
 | sh (d:D) | ow (fl:Bool) (d:D) | lk (a:Addr) (fl:Bool) (d:D)
 /-- an exception,at a -/
 | xc (a:Addr)
abbrev Env:=List (Option Sl)
inductive SR (K:PySem.W.Frag) (Hs H:Hp):Env->St->List Addr->Prop
 | nil:SR K Hs H [] [] []
 | non {ρ:Env} {σ:St} {tot:List Addr} {o:Option V}:SR K Hs H ρ σ tot->SR K Hs H (none :: ρ) (o :: σ) tot
 | sh {ρ:Env} {σ:St} {tot:List Addr} {d:D} {v:V}:Rep K Hs d v->SR K Hs H ρ σ tot->SR K Hs H (some (.sh d) :: ρ) (some v :: σ) tot
 | xc {ρ:Env} {σ:St} {tot:List Addr} {a:Addr}:SR K Hs H ρ σ tot->SR K Hs H (some (.xc a) :: ρ) (some (.ref a) :: σ) tot
 | ow {ρ:Env} {σ:St} {tot As:List Addr} {fl:Bool} {d:D} {v:V}:As≠[]->RepO K Hs H fl d v As->SR K Hs H ρ σ tot->SR K Hs H (some (.ow fl d) :: ρ) (some v :: σ) (As++tot)
 | lk {ρ:Env} {σ:St} {tot As:List Addr} {a:Addr} {fl:Bool} {d:D}:As≠[]->RepO K Hs H fl d (.ref a) As->SR K Hs H ρ σ tot->SR K Hs H (some (.lk a fl d) :: ρ) (some (.ref a) :: σ) (As++tot)
structure Wf (Hs H:Hp):Prop where
 sub:Same Hs H
 tups:∀ a vs,H a=some (.tup vs)->Hs a=some (.tup vs)
structure SRel (K:PySem.W.Frag) (Hs:Hp) (ρ:Env) (σ:St) (H:Hp) (tot:List Addr):Prop where
 sr:SR K Hs H ρ σ tot
 wf:Wf Hs H
 nod:tot.Nodup
 own:∀ a∈tot,Hs a=none
structure Grow (Hs H Hs' H':Hp):Prop where
 all:Same H H'
 sh:Same Hs Hs'
 wf:Wf Hs' H'
 new:∀ a,Hs' a≠none->Hs a≠none\/H a=none
section
variable {K:PySem.W.Frag} {Hs H Hs' H' Hs'' H'':Hp}
theorem Grow.refl (w:Wf Hs H):Grow Hs H Hs H:=⟨Same.refl _,Same.refl _,w,fun _ h=>.inl h⟩
theorem Grow.trans (a:Grow Hs H Hs' H') (b:Grow Hs' H' Hs'' H''):Grow Hs H Hs'' H'' :=
 ⟨a.all.trans b.all,a.sh.trans b.sh,b.wf,fun c h=>by
  rcases b.new c h with h | h
  ·exact a.new c h
  ·exact .inr (a.all.free h)⟩
theorem Grow.hsn (g:Grow Hs H Hs' H') {a:Addr} (h:Hs a=none) (h':H a≠none):Hs' a=none:=by
 cases e:Hs' a with
 | none=>rfl
 | some o =>
  rcases g.new a (by rw [e]; exact fun z=>nomatch z) with z | z
  ·exact absurd h z
  ·exact absurd z h'
theorem SR.own {ρ:Env} {σ:St} {tot:List Addr} (s:SR K Hs H ρ σ tot):∀ a∈tot,Own H a:=by
 induction s with
 | nil=>exact fun a h=>mem0 h
 | non _ ih=>exact ih
 | sh _ _ ih=>exact ih
 | xc _ ih=>exact ih
 | ow _ r _ ih=>exact fun a h=>(xah.mp h).elim (r.own a) (ih a)
 | lk _ r _ ih=>exact fun a h=>(xah.mp h).elim (r.own a) (ih a)
theorem SR.stay (s:Same Hs Hs') {ρ:Env} {σ:St} {tot:List Addr} (r:SR K Hs H ρ σ tot):(∀ a∈tot,H' a=H a)->SR K Hs' H' ρ σ tot:=by
 induction r with
 | nil=>exact fun _=>.nil
 | non _ ih=>exact fun k=>.non (ih k)
 | sh h _ ih=>exact fun k=>.sh (h.same s) (ih k)
 | xc _ ih=>exact fun k=>.xc (ih k)
 | ow ne h _ ih=>exact fun k=>.ow ne (h.stay s fun a m=>k a (xai _ m)) (ih fun a m=>k a (xae _ m))
 | lk ne h _ ih=>exact fun k=>.lk ne (h.stay s fun a m=>k a (xai _ m)) (ih fun a m=>k a (xae _ m))
theorem SRel.grow {ρ:Env} {σ:St} {tot:List Addr} (r:SRel K Hs ρ σ H tot) (g:Grow Hs H Hs' H'):SRel K Hs' ρ σ H' tot :=
 ⟨r.sr.stay g.sh fun a h=>by
  cases e:H a with
  | none=>exact absurd e (r.sr.own a h).ne
  | some o=>exact g.all a o e,g.wf,r.nod,fun a h=>g.hsn (r.own a h) (r.sr.own a h).ne⟩
theorem SR.length {ρ:Env} {σ:St} {tot:List Addr} (s:SR K Hs H ρ σ tot):ρ.length=σ.length:=by
 induction s with
 | nil=>rfl
 | non _ ih=>exact congrArg (· + 1) ih
 | sh _ _ ih=>exact congrArg (· + 1) ih
 | xc _ ih=>exact congrArg (· + 1) ih
 | ow _ _ _ ih=>exact congrArg (· + 1) ih
 | lk _ _ _ ih=>exact congrArg (· + 1) ih
def wO (K:PySem.W.Frag) (Hs H:Hp) (tot:List Addr) (sl:Sl) (v:V):Prop:=match sl with
 | .sh d=>Rep K Hs d v
 | .ow fl d=>∃ As,As≠[]/\RepO K Hs H fl d v As/\∀ a∈As,a∈tot
 | .lk a fl d=>∃ As,As≠[]/\RepO K Hs H fl d v As/\v=.ref a/\∀ a∈As,a∈tot
 | .xc a=>v=.ref a
theorem wO.mono {tot tot':List Addr} {sl:Sl} {v:V} (h:wO K Hs H tot sl v) (m:∀ a∈tot,a∈tot'):wO K Hs H tot' sl v:=by
 cases sl with
 | sh d=>exact h
 | xc a=>exact h
 | ow fl d =>
  obtain ⟨As,ne,r,q⟩:=h
  exact ⟨As,ne,r,fun a ha=>m a (q a ha)⟩
 | lk a fl d =>
  obtain ⟨As,ne,r,e,q⟩:=h
  exact ⟨As,ne,r,e,fun a ha=>m a (q a ha)⟩
theorem SR.get {ρ:Env} {σ:St} {tot:List Addr} {i:Nat} {sl:Sl} (s:SR K Hs H ρ σ tot) (e:ρ[i]? = some (some sl)):∃ v,σ[i]? = some (some v)/\wO K Hs H tot sl v:=by
 induction s generalizing i with
 | nil=>simp at e
 | non s ih =>
  cases i with
  | zero=>simp at e
  | succ i=>exact ih e
 | sh r s ih =>
  cases i with
  | zero=>simp at e; subst e; exact ⟨_,rfl,r⟩
  | succ i=>exact ih e
 | xc s ih =>
  cases i with
  | zero=>simp at e; subst e; exact ⟨_,rfl,rfl⟩
  | succ i=>exact ih e
 | ow ne r s ih =>
  cases i with
  | zero=>simp at e; subst e; exact ⟨_,rfl,_,ne,r,fun a m=>xai _ m⟩
  | succ i =>
   obtain ⟨v,e1,h⟩:=ih e
   exact ⟨v,e1,h.mono fun a m=>xae _ m⟩
 | lk ne r s ih =>
  cases i with
  | zero=>simp at e; subst e; exact ⟨_,rfl,_,ne,r,rfl,fun a m=>xai _ m⟩
  | succ i =>
   obtain ⟨v,e1,h⟩:=ih e
   exact ⟨v,e1,h.mono fun a m=>xae _ m⟩
end
inductive Md where
 | sh | ow (fl:Bool) | bo
def RM (K:PySem.W.Frag) (Hs H:Hp):Md->D->V->List Addr->Prop
 | .sh,d,v,As=>As=[]/\Rep K Hs d v
 | .ow fl,d,v,As=>RepO K Hs H fl d v As/\As≠[]
 | .bo,d,v,As=>As=[]/\Rep K H d v
inductive RMs (K:PySem.W.Frag) (Hs H:Hp):List (Md × D)->List V->List Addr->Prop
 | nil:RMs K Hs H [] [] []
 | cons {m:Md} {d:D} {v:V} {ps:List (Md × D)} {vs:List V} {As Bs:List Addr}:RM K Hs H m d v As->RMs K Hs H ps vs Bs->RMs K Hs H ((m,d) :: ps) (v :: vs) (As++Bs)
section
variable {K:PySem.W.Frag} {Hs H Hs' H':Hp}
theorem RM.own {m:Md} {d:D} {v:V} {As:List Addr} (r:RM K Hs H m d v As):∀ a∈As,Own H a:=by
 cases m with
 | sh=>obtain ⟨rfl,_⟩:=r; exact fun a h=>mem0 h
 | ow fl=>exact RepO.own r.1
 | bo=>obtain ⟨rfl,_⟩:=r; exact fun a h=>mem0 h
theorem RM.grow {m:Md} {d:D} {v:V} {As:List Addr} (r:RM K Hs H m d v As) (g:Grow Hs H Hs' H'):RM K Hs' H' m d v As:=by
 cases m with
 | sh=>exact ⟨r.1,r.2.same g.sh⟩
 | ow fl=>exact ⟨RepO.grow g.sh g.all r.1,r.2⟩
 | bo=>exact ⟨r.1,r.2.same g.all⟩
theorem RM.rep {m:Md} {d:D} {v:V} {As:List Addr} (w:Wf Hs H) (r:RM K Hs H m d v As):Rep K H d v:=by
 cases m with
 | sh=>exact r.2.same w.sub
 | ow fl=>exact RepO.rep w.sub r.1 fun _ _=>rfl
 | bo=>exact r.2
theorem RM.flat {m:Md} {d:D} {v:V} {As:List Addr} (w:Wf Hs H) (r:RM K Hs H m d v As) (f:d.flat=true):Rep K Hs d v:=(r.rep w).iU w.tups f
theorem RMs.own {ps:List (Md × D)} {vs:List V} {As:List Addr} (r:RMs K Hs H ps vs As):∀ a∈As,Own H a:=by
 induction r with
 | nil=>exact fun a h=>mem0 h
 | cons r _ ih=>exact fun a h=>(xah.mp h).elim (r.own a) (ih a)
theorem RMs.grow (g:Grow Hs H Hs' H') {ps:List (Md × D)} {vs:List V} {As:List Addr} (r:RMs K Hs H ps vs As):RMs K Hs' H' ps vs As:=by
 induction r with
 | nil=>exact .nil
 | cons r _ ih=>exact .cons (r.grow g) ih
theorem RMs.reps (w:Wf Hs H) {ps:List (Md × D)} {vs:List V} {As:List Addr} (r:RMs K Hs H ps vs As):Reps K H (ps.map (·.2)) vs:=by
 induction r with
 | nil=>exact .nil
 | cons r _ ih=>exact .cons (r.rep w) ih
end
abbrev WE:=Env->(Md->D->Prop)->Prop
abbrev WT:=Env->(Bool->Prop)->Prop
abbrev WA:=Env->(List (Md × D)->Prop)->Prop
structure iD where
 nx:Env->Prop
 rt:Md->D->Prop
 bk:Env->Prop:=fun _=>False
 ct:Env->Prop:=fun _=>False
abbrev WS:=iD->Env->Prop
def cM (Hs' H:Hp) (As:List Addr):Prop:=As.Nodup/\∀ a∈As,Hs' a=none/\H a=none
def tpE (K:PySem.W.Frag) (t:WE):TE:=fun σ H Qv=>∃ Hs ρ tot Q,SRel K Hs ρ σ H tot/\t ρ Q /\
 ∀ v H' Hs' m d As,Grow Hs H Hs' H'->RM K Hs' H' m d v As->cM Hs' H As->Q m d->Qv v H'
def tpT (K:PySem.W.Frag) (t:WT):TT:=fun σ H Qv=>∃ Hs ρ tot Q,SRel K Hs ρ σ H tot/\t ρ Q/\∀ b H' Hs',Grow Hs H Hs' H'->Q b->Qv b H'
def tpA (K:PySem.W.Frag) (t:WA):TA:=fun σ H Qv=>∃ Hs ρ tot Q,SRel K Hs ρ σ H tot/\t ρ Q /\
 ∀ vs H' Hs' ps As,Grow Hs H Hs' H'->RMs K Hs' H' ps vs As->cM Hs' H As->Q ps->Qv vs H'
def tpS (K:PySem.W.Frag) (L:Str->Hp->Prop) (t:WS):TS:=fun D σ H=>∃ Hs ρ tot E,SRel K Hs ρ σ H tot/\t E ρ /\
 (∀ σ' H' Hs' ρ' tot',Same Hs Hs'->SRel K Hs' ρ' σ' H' tot'->E.nx ρ'->D.nx σ' H') /\
 (∀ σ' H' Hs' ρ' tot',Same Hs Hs'->SRel K Hs' ρ' σ' H' tot'->E.bk ρ'->D.bk σ' H') /\
 (∀ σ' H' Hs' ρ' tot',Same Hs Hs'->SRel K Hs' ρ' σ' H' tot'->E.ct ρ'->D.ct σ' H') /\
 (∀ v H' Hs' m d As,Same Hs Hs'->Wf Hs' H'->RM K Hs' H' m d v As->As.Nodup->(∀ a∈As,Hs' a=none)->E.rt m d->D.rt v H') /\
 ∀ n H',Same Hs H'->E.rt (.ow false) (.str n)->L n H'
theorem gB {K:PySem.W.Frag} {L:Str->Hp->Prop} {t:WS} {D:Ends} {σ:St} {H:Hp} {G:Prop} (x:tpS K L t D σ H) (k:∀ Hs ρ tot E,SRel K Hs ρ σ H tot->t E ρ ->
 (∀ σ' H' Hs' ρ' tot',Same Hs Hs'->SRel K Hs' ρ' σ' H' tot'->E.nx ρ'->D.nx σ' H') ->
 (∀ σ' H' Hs' ρ' tot',Same Hs Hs'->SRel K Hs' ρ' σ' H' tot'->E.bk ρ'->D.bk σ' H') ->
 (∀ σ' H' Hs' ρ' tot',Same Hs Hs'->SRel K Hs' ρ' σ' H' tot'->E.ct ρ'->D.ct σ' H') ->
 (∀ v H' Hs' m d As,Same Hs Hs'->Wf Hs' H'->RM K Hs' H' m d v As->As.Nodup->(∀ a∈As,Hs' a=none)->E.rt m d->D.rt v H') ->
 (∀ n H',Same Hs H'->E.rt (.ow false) (.str n)->L n H')->G):G :=
 by
 obtain ⟨Hs,ρ,tot,E,sr,h,k1,k2,k3,k4,kx⟩:=x
 exact k Hs ρ tot E sr h k1 k2 k3 k4 kx
theorem gj {K:PySem.W.Frag} {L:Str->Hp->Prop} {t:WS} {D:Ends} {σ:St} {H:Hp} {G:Prop} (x:tpS K L t D σ H) (k:∀ Hs ρ tot E,SRel K Hs ρ σ H tot->t E ρ ->
 (∀ σ' H' Hs' ρ' tot',Same Hs Hs'->SRel K Hs' ρ' σ' H' tot'->E.nx ρ'->D.nx σ' H') ->
 (∀ σ' H' Hs' ρ' tot',Same Hs Hs'->SRel K Hs' ρ' σ' H' tot'->E.bk ρ'->D.bk σ' H') ->
 (∀ σ' H' Hs' ρ' tot',Same Hs Hs'->SRel K Hs' ρ' σ' H' tot'->E.ct ρ'->D.ct σ' H') ->
 (∀ v H' Hs' m d As,Same Hs Hs'->Wf Hs' H'->RM K Hs' H' m d v As->As.Nodup->(∀ a∈As,Hs' a=none)->E.rt m d->D.rt v H')->G):G :=
 gB x fun Hs ρ tot E sr h k1 k2 k3 k4 _=>k Hs ρ tot E sr h k1 k2 k3 k4
theorem ex4 {α β γ δ:Type _} {A B C:α->β->γ->δ->Prop} {G:Prop} (x:∃ a b c d,A a b c d/\B a b c d/\C a b c d) (k:∀ a b c d,A a b c d->B a b c d->C a b c d->G):G :=
 by
 obtain ⟨a,b,c,d,p,q,r⟩:=x
 exact k a b c d p q r
abbrev QE (X:Cx) (K:PySem.W.Frag) (e:Expr) (t:WE):Prop:=PE X e (tpE K t)
abbrev QT (X:Cx) (K:PySem.W.Frag) (e:Expr) (t:WT):Prop:=PT X e (tpT K t)
abbrev QW (X:Cx) (K:PySem.W.Frag) (e:Expr) (t:WT):Prop:=PW X e (tpT K t)
abbrev QA (X:Cx) (K:PySem.W.Frag) (es:List Expr) (t:WA):Prop:=PA X es (tpA K t)
abbrev QS (X:Cx) (K:PySem.W.Frag) (L:Str->Hp->Prop) (st:Stmt) (t:WS):Prop:=PS X st (tpS K L t)
abbrev QSs (X:Cx) (K:PySem.W.Frag) (L:Str->Hp->Prop) (st:List Stmt) (t:WS):Prop:=PSs X st (tpS K L t)
abbrev L0:Str->Hp->Prop:=fun _ _=>True
end L2.Q
namespace L2.Q
open PySem PySem.Spec PyProof.Rows
structure Kt {α:Type} (f:α->Prop):Type where
def onK {α:Type} (a:α) {f:α->Prop} (_:Kt f):Prop:=f a
mutual
def D.py:D->PyData
 | .non=>.none
 | .bl b=>.bool b
 | .int i=>.int i
 | .str x=>.str x
 | .list xs=>.list (pys xs)
 | .tup xs=>.tuple (pys xs)
 | .dK _=>.none
 | .dT _=>.none
def pys:List D->List PyData
 | []=>[]
 | x :: xs=>x.py :: pys xs
end
def okD:Nat->D->Bool
 | _,.non=>true
 | _,.bl _=>true
 | _,.int _=>true
 | _,.str x=>PyData.strOk x
 | n+1,.list xs=>xs.all (okD n)
 | n+1,.tup xs=>xs.all (okD n)
 | _,_=>false
def eqD (x y:D):Bool:=PyData.eqv x.py y.py
def D.ty:D->String
 | .non => "NoneType"
 | .bl _ => "bool"
 | .int _ => "int"
 | .str _ => "str"
 | .list _ => "list"
 | .tup _ => "tuple"
 | .dK _ => "dict"
 | .dT _ => "dict"
def D.key1:D->Option Key
 | .int i=>some (.inl i)
 | .str x=>some (.inr x)
 | _=>none
def dq:List D->Option (List Key)
 | []=>some []
 | x :: xs=>match x.key1,dq xs with
  | some k,some ks=>some (k :: ks)
  | _,_=>none
section
variable {κ:Type} [DecidableEq κ] {β:Type}
def getG (kvs:List (κ × β)) (k:κ):Option β:=(kvs.find? fun kv=>decide (kv.1=k)).map (·.2)
def putG (kvs:List (κ × β)) (k:κ) (v:β):List (κ × β) :=
 if (kvs.any fun kv=>decide (kv.1=k))=true then kvs.map (fun kv=>if kv.1=k then (kv.1,v) else kv) else kvs++[(k,v)]
end
theorem Rep.l22 {K:PySem.W.Frag} {H:Hp}:(∀ {d:D} {v:V},Rep K H d v->∀ n,okD n d=true->L2.Rep K H d.py v)/\∀ {ds:List D} {vs:List V},Reps K H ds vs->∀ n,(∀ d∈ds,okD n d=true)->L2.Reps K H (pys ds) vs :=
 Rep.ind (m1:=fun d v=>∀ n,okD n d=true->L2.Rep K H d.py v) (m2:=fun ds vs=>∀ n,(∀ d∈ds,okD n d=true)->L2.Reps K H (pys ds) vs) (fun _ _=>.none) (fun b _ _=>.bool b) (fun i _ _=>.int i) (fun _ _ _ _=>.str _)
  (fun _ _ _ _ h _ ih n o=>by
   cases n with
   | zero=>simp [okD] at o
   | succ n=>exact .list h (ih n (by simpa [okD] using o)))
  (fun _ _ _ _ h _ ih n o=>by
   cases n with
   | zero=>simp [okD] at o
   | succ n=>exact .tuple (.inl (.inl h)) (ih n (by simpa [okD] using o)))
  (fun _ _ _ _ _ _ _ n o=>by cases n <;> simp [okD] at o) (fun _ _ _ _ _ _ _ n o=>by cases n <;> simp [okD] at o) (fun _ _=>.nil)
  fun _ _ _ _ _ _ i1 i2 n o=>.cons (i1 n (o _ xad)) (i2 n fun d m=>o d (xac _ m))
theorem Rep.l2 {K:PySem.W.Frag} {H:Hp} {n:Nat} {d:D} {v:V} (r:Rep K H d v) (o:okD n d=true):L2.Rep K H d.py v:=Rep.l22.1 r n o
theorem uv {n:Nat} (ih:∀ d,okD n d=true->d.py.canLay0=true/\d.py.depth<=n) (xs:List D) (h:∀ x∈xs,okD n x=true):PyData.canLayAll0 (pys xs)=true/\PyData.depthAll (pys xs)<=n:=by
 induction xs with
 | nil=>exact ⟨rfl,xap _⟩
 | cons x xs ih2 =>
  have h1:=ih x (h x xad)
  have h2:=ih2 fun y hy=>h y (xac _ hy)
  simp only [pys,PyData.canLayAll0,PyData.depthAll,h1.1,h2.1,Bool.and_self,true_and]
  lia
theorem rE (n:Nat):∀ (d:D),okD n d=true->d.py.canLay0=true/\d.py.depth<=n:=by
 have st:∀ (n:Nat) (x:Str),okD n (.str x)=true->(D.str x).py.canLay0=true/\(D.str x).py.depth<=n:=fun n x h=>by
  have h:PyData.strOk x=true:=by cases n <;> simpa [okD] using h
  exact ⟨by simpa [D.py,PyData.canLay0] using h,xap _⟩
 induction n with
 | zero =>
  intro d h
  cases d with
  | str x=>exact st _ x h
  | non=>exact ⟨rfl,xap _⟩
  | bl _=>exact ⟨rfl,xap _⟩
  | int _=>exact ⟨rfl,xap _⟩
  | _=>simp [okD] at h
 | succ n ih =>
  intro d h
  cases d with
  | str x=>exact st _ x h
  | non=>exact ⟨rfl,xap _⟩
  | bl _=>exact ⟨rfl,xap _⟩
  | int _=>exact ⟨rfl,xap _⟩
  | list xs =>
   have h:∀ x∈xs,okD n x=true:=by simpa [okD] using h
   have:=uv ih xs h
   simp only [D.py,PyData.canLay0,PyData.depth]
   exact ⟨this.1,by lia⟩
  | tup xs =>
   have h:∀ x∈xs,okD n x=true:=by simpa [okD] using h
   have:=uv ih xs h
   simp only [D.py,PyData.canLay0,PyData.depth]
   exact ⟨this.1,by lia⟩
  | dK _=>simp [okD] at h
  | dT _=>simp [okD] at h
mutual
def D.nb:D->Bool
 | .bl _=>false
 | .list xs=>nbs xs
 | .tup xs=>nbs xs
 | .dK _=>false
 | .dT _=>false
 | _=>true
def nbs:List D->Bool
 | []=>true
 | x :: xs=>x.nb && nbs xs
end
mutual
theorem tZ:∀ (x y:D),x.nb=true->y.nb=true->(eqD x y=true↔x=y)
 | .non,y,_,hy=>by cases y <;> simp_all [eqD,D.py,PyData.eqv,D.nb]
 | .bl _,y,hx,_=>by simp [D.nb] at hx
 | .int i,y,_,hy=>by cases y <;> simp_all [eqD,D.py,PyData.eqv,D.nb]
 | .str i,y,_,hy=>by cases y <;> simp_all [eqD,D.py,PyData.eqv,D.nb]
 | .dK _,y,hx,_=>by simp [D.nb] at hx
 | .dT _,y,hx,_=>by simp [D.nb] at hx
 | .list xs,y,hx,hy=>by
  cases y with
  | list ys =>
   have:=mF xs ys (by simpa [D.nb] using hx) (by simpa [D.nb] using hy)
   simp only [eqD,D.py,PyData.eqv,D.list.injEq]
   exact this
  | _=>simp_all [eqD,D.py,PyData.eqv,D.nb]
 | .tup xs,y,hx,hy=>by
  cases y with
  | tup ys =>
   have:=mF xs ys (by simpa [D.nb] using hx) (by simpa [D.nb] using hy)
   simp only [eqD,D.py,PyData.eqv,D.tup.injEq]
   exact this
  | _=>simp_all [eqD,D.py,PyData.eqv,D.nb]
theorem mF:∀ (xs ys:List D),nbs xs=true->nbs ys=true->(PyData.eqvAll (pys xs) (pys ys)=true↔xs=ys)
 | [],[],_,_=>by simp [pys,PyData.eqvAll]
 | [],_ :: _,_,_=>by simp [pys,PyData.eqvAll]
 | _ :: _,[],_,_=>by simp [pys,PyData.eqvAll]
 | x :: xs,y :: ys,hx,hy=>by
  simp only [nbs,xaG] at hx hy
  have h1:=tZ x y hx.1 hy.1
  have h2:=mF xs ys hx.2 hy.2
  simp only [pys,PyData.eqvAll,xaG,List.cons.injEq]
  exact and_congr h1 h2
end
section
variable {K:PySem.W.Frag} {H:Hp}
theorem Rep.key {d:D} {v:V} {k:Key} (r:Rep K H d v) (h:d.key1=some k):v=kV k:=by
 cases r <;> simp [D.key1] at h <;> subst h <;> rfl
theorem Reps.keys {ds:List D} {vs:List V} {ks:List Key} (r:Reps K H ds vs) (h:dq ds=some ks):vs=ks.map kV:=by
 induction ds generalizing vs ks with
 | nil=>simp [dq] at h; subst h; exact r.n0
 | cons d ds ih =>
  obtain ⟨u,us,rfl,r,rs⟩:=r.c
  unfold dq at h
  cases e1:d.key1 with
  | none=>rw [e1] at h; simp at h
  | some k =>
   cases e2:dq ds with
   | none=>rw [e1,e2] at h; simp at h
   | some ks' =>
    rw [e1,e2] at h
    simp at h
    subst h
    rw [xas,r.key e1,ih rs e2]
theorem Rep.keyT {ds:List D} {v:V} {ks:List Key} (r:Rep K H (.tup ds) v) (h:dq ds=some ks):∃ b,v=.ref b/\H b=some (.tup (ks.map kV)):=by
 cases r with
 | tup _ e rs=>exact ⟨_,rfl,by rw [e,rs.keys h]⟩
end
section
variable {κ:Type} [DecidableEq κ] {K:PySem.W.Frag} {H:Hp}
theorem zip_get {k:κ} {kvs:List (κ × D)} {vs:List V} (h:Reps K H (kvs.map (·.2)) vs):match getG kvs k with
  | some d=>∃ v,valV ((kvs.map (·.1)).zip vs) k=some v/\Rep K H d v
  | none=>valV ((kvs.map (·.1)).zip vs) k=none:=by
 induction kvs generalizing vs with
 | nil=>rfl
 | cons p kvs ih =>
  obtain ⟨u,us,rfl,r,rs⟩:=Reps.c (d:=p.2) h
  by_cases e:p.1=k
  ·have e1:getG (p :: kvs) k=some p.2:=by simp [getG,e]
   rw [e1]
   exact ⟨_,by simp only [xas,xa9]; exact valV_pos e,r⟩
  ·have e1:getG (p :: kvs) k=getG kvs k:=by simp [getG,e]
   rw [e1]
   have:=ih rs
   simp only [xas,xa9,valV_neg (p:=(p.1,_)) e]
   exact this
theorem Ab {k:κ} {kvs:List (κ × D)} {vs:List V} (h:kvs.length=vs.length):((kvs.map (·.1)).zip vs).any (fun kv=>decide (kv.1=k))=kvs.any fun kv=>decide (kv.1=k):=by
 induction kvs generalizing vs with
 | nil=>rfl
 | cons p kvs ih =>
  cases vs with
  | nil=>simp at h
  | cons v vs =>
   simp only [xas,xa9,xby]
   rw [ih (vs:=vs) (by simpa using h)]
end
section
variable {K:PySem.W.Frag} {Hs H:Hp}
theorem newL {p:Addr} {o:HO} (w:Wf Hs H) (hp:H p=none) (ho:∀ vs,o≠.tup vs):Grow Hs H Hs (upd H p o) :=
 ⟨(Same.refl H).upd hp,Same.refl _,⟨w.sub.upd hp,fun a vs e=>by
  by_cases h:a=p
  ·subst h; rw [upd_same] at e; exact absurd (Option.some.inj e) (ho vs)
  ·rw [upd_ne h] at e; exact w.tups a vs e⟩,fun _ h=>.inl h⟩
theorem newT {p:Addr} {vs:List V} (w:Wf Hs H) (hp:H p=none):Grow Hs H (upd Hs p (.tup vs)) (upd H p (.tup vs)) :=
 ⟨(Same.refl H).upd hp,(Same.refl Hs).upd (w.sub.free hp),⟨fun a o e=>by
  by_cases h:a=p
  ·subst h; rw [upd_same] at e ⊢; exact e
  ·rw [upd_ne h] at e ⊢; exact w.sub a o e,fun a vs e=>by
  by_cases h:a=p
  ·subst h; rw [upd_same] at e ⊢; exact e
  ·rw [upd_ne h] at e ⊢; exact w.tups a vs e⟩,fun a h=>by
  by_cases e:a=p
  ·subst e; exact .inr hp
  ·rw [upd_ne e] at h; exact .inl h⟩
theorem cM.nil:cM Hs H []:=⟨xaO,fun a h=>nomatch h⟩
theorem cM.of {H':Hp} {As:List Addr} (s:Same H H') (f:cM Hs H' As):cM Hs H As:=⟨f.1,fun a h=>⟨(f.2 a h).1,s.free (f.2 a h).2⟩⟩
abbrev Fin (K:PySem.W.Frag) (Hs H:Hp) (Qd:Md->D->Prop) (Qv:VK):Prop:=∀ v H' Hs' m d As,Grow Hs H Hs' H'->RM K Hs' H' m d v As->cM Hs' H As->Qd m d->Qv v H'
theorem Fin.after {Hs' H':Hp} {Qd:Md->D->Prop} {Qv:VK} (f:Fin K Hs H Qd Qv) (g:Grow Hs H Hs' H'):Fin K Hs' H' Qd Qv:=fun v H2 Hs2 m d As g2 r fr q=>f v H2 Hs2 m d As (g.trans g2) r (fr.of g.all) q
theorem Fin.sh {Qd:Md->D->Prop} {Qv:VK} {d:D} {v:V} (f:Fin K Hs H Qd Qv) (w:Wf Hs H) (r:Rep K Hs d v) (q:Qd .sh d):Qv v H:=f v H Hs .sh d [] (Grow.refl w) ⟨rfl,r⟩ cM.nil q
theorem Fin.flat {Qd:Md->D->Prop} {Qv:VK} {d:D} {v:V} (f:Fin K Hs H Qd Qv) (w:Wf Hs H) (r:Rep K H d v) (hf:d.flat=true) (q:Qd .sh d):Qv v H:=f.sh w (r.iU w.tups hf) q
theorem Fin.bo {Qd:Md->D->Prop} {Qv:VK} {d:D} {v:V} (f:Fin K Hs H Qd Qv) (w:Wf Hs H) (r:Rep K H d v) (q:Qd .bo d):Qv v H:=f v H Hs .bo d [] (Grow.refl w) ⟨rfl,r⟩ cM.nil q
def itm (m:Md) (d:D):Md:=match m with
 | .sh=>.sh
 | _=>bif d.flat then .sh else .bo
theorem Fin.itm {Qd:Md->D->Prop} {Qv:VK} {m:Md} {d:D} {v:V} (f:Fin K Hs H Qd Qv) (w:Wf Hs H) (r:Rep K H d v) (rs:m=.sh->Rep K Hs d v) (q:Qd (itm m d) d):Qv v H:=by
 cases m with
 | sh=>exact f.sh w (rs rfl) q
 | ow fl =>
  cases hf:d.flat with
  | true=>exact f.flat w r hf (by simpa [Q.itm,hf] using q)
  | false=>exact f.bo w r (by simpa [Q.itm,hf] using q)
 | bo =>
  cases hf:d.flat with
  | true=>exact f.flat w r hf (by simpa [Q.itm,hf] using q)
  | false=>exact f.bo w r (by simpa [Q.itm,hf] using q)
theorem Fin.lst {Qd:Md->D->Prop} {Qv:VK} {ds:List D} {vs:List V} (f:Fin K Hs H Qd Qv) (w:Wf Hs H) (hz:ds.length<=sizeLine) (r:Reps K H ds vs) (hf:flats ds=true) (q:Qd (.ow true) (.list ds)):∀ p,H p=none->Qv (.ref p) (upd H p (.lst vs)):=fun p hp =>
 f _ _ Hs (.ow true) (.list ds) [p] (newL w hp fun _ z=>nomatch z) ⟨.list (by rw [<- r.length]; exact hz) upd_same ((r.iU w.tups hf).owned hf),by simp⟩ ⟨by simp,fun a h=>by
  obtain rfl:a=p:=by simpa using h
  exact ⟨w.sub.free hp,hp⟩⟩ q
theorem Fin.lstS {Qd:Md->D->Prop} {Qv:VK} {ds:List D} {vs:List V} (f:Fin K Hs H Qd Qv) (w:Wf Hs H) (hz:ds.length<=sizeLine) (r:Reps K Hs ds vs) (q:Qd (.ow false) (.list ds)):∀ p,H p=none->Qv (.ref p) (upd H p (.lst vs)):=fun p hp =>
 f _ _ Hs (.ow false) (.list ds) [p] (newL w hp fun _ z=>nomatch z) ⟨.list (by rw [<- r.length]; exact hz) upd_same r.Az,by simp⟩ ⟨by simp,fun a h=>by
  obtain rfl:a=p:=by simpa using h
  exact ⟨w.sub.free hp,hp⟩⟩ q
theorem Fin.tup {Qd:Md->D->Prop} {Qv:VK} {ds:List D} {vs:List V} (f:Fin K Hs H Qd Qv) (w:Wf Hs H) (hz:ds.length<=sizeLine) (r:Reps K H ds vs) (hf:flats ds=true) (q:Qd .sh (.tup ds)):∀ p,H p=none->Qv (.ref p) (upd H p (.tup vs)):=fun p hp =>
 f _ _ (upd Hs p (.tup vs)) .sh (.tup ds) [] (newT w hp) ⟨rfl,.tup (by rw [<- r.length]; exact hz) upd_same ((r.iU w.tups hf).same ((Same.refl Hs).upd (w.sub.free hp)))⟩ cM.nil q
end
section
variable {X:Cx} {K:PySem.W.Frag}
theorem PE.imp {e:Expr} {te te':TE} (h:PE X e te) (i:∀ σ H Q,te' σ H Q->te σ H Q):PE X e te':=fun pins s σ H Q I q=>h pins s σ H Q I (i σ H Q q)
theorem PT.imp {e:Expr} {te te':TT} (h:PT X e te) (i:∀ σ H Q,te' σ H Q->te σ H Q):PT X e te':=fun pins s σ H Q I q=>h pins s σ H Q I (i σ H Q q)
theorem PW.imp {e:Expr} {te te':TT} (h:PW X e te) (i:∀ σ H Q,te' σ H Q->te σ H Q):PW X e te':=fun wh pins s σ H Q I q=>h wh pins s σ H Q I (i σ H Q q)
theorem PA.imp {e:List Expr} {te te':TA} (h:PA X e te) (i:∀ σ H Q,te' σ H Q->te σ H Q):PA X e te':=fun p pins s σ H Q I q=>h p pins s σ H Q I (i σ H Q q)
def useS:Option (Option Sl)->(Md->D->Prop)->Prop
 | some (some (.sh d)),Q=>Q .sh d
 | some (some (.ow _ d)),Q=>Q .bo d
 | some (some (.lk _ _ d)),Q=>Q .bo d
 | _,_=>False
def wVar (i:Nat):WE:=fun ρ Q=>useS ρ[i]? Q
theorem Fo {i:Nat} {e:Expr} (h:PE X e (tVar i)):QE X K e (wVar i):=by
 refine PE.imp h fun σ H Qv hx=>ex4 hx fun Hs ρ tot Q sr h f=>?_
 unfold wVar at h
 cases e:ρ[i]? with
 | none=>rw [e] at h; exact h.elim
 | some o =>
  cases o with
  | none=>rw [e] at h; exact h.elim
  | some sl =>
   obtain ⟨v,e1,r⟩:=sr.sr.get e
   rw [e] at h
   cases sl with
   | sh d=>exact ⟨v,e1,Fin.sh f sr.wf r h⟩
   | xc a=>exact h.elim
   | ow fl d =>
    obtain ⟨As,_,r,_⟩:=r
    exact ⟨v,e1,Fin.bo f sr.wf (r.rep sr.wf.sub fun _ _=>rfl) h⟩
   | lk a fl d =>
    obtain ⟨As,_,r,_⟩:=r
    exact ⟨v,e1,Fin.bo f sr.wf (r.rep sr.wf.sub fun _ _=>rfl) h⟩
theorem qv (i:Nat) {x:Str} {pos:Pos} (hN:X.N[i]? = some x:=by rfl) (hv:Vis X.env.scope x:=by first | exact Or.inl rfl | exact Or.inr (Or.inl rfl) | exact Or.inr (Or.inr rfl)) (hd:(x == ("__debug__" : Str))=false:=by decide)
  (hcd:(x == ("__classdict__" : Str))=false:=by decide):QE X K (.Name x pos) (wVar i):=Fo (pe_var hN hv hd hcd)
def wC (d:D):WE:=fun _ Q=>Q .sh d
theorem vU {e:Expr} {v:V} {d:D} (h:PE X e (tC v)) (r:∀ H,Rep K H d v):QE X K e (wC d) :=
 PE.imp h fun σ H Qv hx=>ex4 hx fun Hs ρ tot Q sr h f=>Fin.sh f sr.wf (r _) h
theorem aq {i j pos}:QE X K (.Constant (.int i) j pos) (wC (.int i)):=vU pe_int fun _=>.int i
theorem pZ {i j pos} (h:i.length<=sizeLine:=by decide):QE X K (.Constant (.str i) j pos) (wC (.str i)):=vU pe_str fun _=>.str h
theorem q_bl {i j pos}:QE X K (.Constant (.bool i) j pos) (wC (.bl i)):=vU pe_bl fun _=>.bl i
theorem Ey {j pos}:QE X K (.Constant .none j pos) (wC .non):=vU pe_non fun _=>.non
abbrev W2:=Md->D->Md->D->(Md->D->Prop)->Prop
abbrev W1:=Md->D->(Md->D->Prop)->Prop
def Br2 (K:PySem.W.Frag) (r:R2) (f:W2):Prop:=∀ Hs H m x v As n y u Bs Qd Qv,Wf Hs H->RM K Hs H m x v As->RM K Hs H n y u Bs->f m x n y Qd->Fin K Hs H Qd Qv->r v u H Qv
def Br1 (K:PySem.W.Frag) (r:V->Hp->VK->Prop) (f:W1):Prop:=∀ Hs H m x v As Qd Qv,Wf Hs H->RM K Hs H m x v As->f m x Qd->Fin K Hs H Qd Qv->r v H Qv
def wOp (f:W2) (ta tb:WE):WE:=fun ρ Q=>ta ρ fun m x=>tb ρ fun n y=>f m x n y Q
def wUn (f:W1) (ta:WE):WE:=fun ρ Q=>ta ρ fun m x=>f m x Q
variable {a b:Expr} {ta tb tc:WE} {pos:Pos}
theorem jU {r:R2} {f:W2} (br:Br2 K r f) (σ:St) (H:Hp) (Qv:VK) (h:tpE K (wOp f ta tb) σ H Qv):tOp r (tpE K ta) (tpE K tb) σ H Qv:=by
 obtain ⟨Hs,ρ,tot,Q,sr,h,fin⟩:=h
 refine ⟨Hs,ρ,tot,_,sr,h,fun v H1 Hs1 m x As g1 r1 f1 q1=>⟨Hs1,ρ,tot,_,sr.grow g1,q1,fun u H2 Hs2 n y Bs g2 r2 f2 q2=>?_⟩⟩
 exact br Hs2 H2 m x v As n y u Bs Q Qv g2.wf (r1.grow g2) r2 q2 (Fin.after fin (g1.trans g2))
theorem q_op {op:Operator} {r:R2} {f:W2} (ho:OpR X (binaryOp op) r) (br:Br2 K r f) (ha:QE X K a ta) (hb:QE X K b tb):QE X K (.BinOp a op b pos) (wOp f ta tb):=PE.imp (pe_op ho ha hb) (jU br)
theorem q_un {op:UnaryOp} {r:V->Hp->VK->Prop} {f:W1} (ho:UnR X (unaryOp op) r) (br:Br1 K r f) (ha:QE X K a ta):QE X K (.UnaryOp op a pos) (wUn f ta):=by
 refine PE.imp (pe_un ho ha) fun σ H Qv hx=>ex4 hx fun Hs ρ tot Q sr h fin=>?_
 exact ⟨Hs,ρ,tot,_,sr,h,fun v H1 Hs1 m x As g1 r1 f1 q1=>br Hs1 H1 m x v As Q Qv g1.wf r1 q1 (Fin.after fin g1)⟩
theorem qj {op:CmpOp} {r:R2} {f:W2} (ho:OpR X (compareOp op) r) (br:Br2 K r f) (ha:QE X K a ta) (hb:QE X K b tb) (hm:behindInMarks op b=false):QE X K (.Compare a [op] [b] pos) (wOp f ta tb):=PE.imp (pe_cmpR ho ha hb hm) (jU br)
def wB (t:WE):WT:=fun ρ Q=>t ρ fun _ x=>match x with
 | .bl b=>Q b
 | _=>False
theorem wD {t:WE} (σ:St) (H:Hp) (Qv:Bool->Hp->Prop) (h:tpT K (wB t) σ H Qv):tTest (tpE K t) σ H Qv:=by
 obtain ⟨Hs,ρ,tot,Q,sr,h,fin⟩:=h
 refine ⟨Hs,ρ,tot,_,sr,h,fun v H1 Hs1 m x As g1 r1 f1 q1=>?_⟩
 have r:=r1.rep g1.wf
 cases r with
 | bl b=>exact ⟨b,rfl,fin b H1 Hs1 g1 q1⟩
 | _=>exact q1.elim
theorem cR {op:CmpOp} {r:R2} {f:W2} (ho:OpR X (compareOp op) r) (br:Br2 K r f) (ha:QE X K a ta) (hb:QE X K b tb) (hm:behindInMarks op b=false):QT X K (.Compare a [op] [b] pos) (wB (wOp f ta tb)):=by
 refine PT.imp (pt_cmpR ho ha hb hm) fun σ H Qv h=>?_
 obtain ⟨Hs,ρ,tot,Q,sr,h,fin⟩:=h
 refine jU br σ H _ ⟨Hs,ρ,tot,_,sr,h,fun v H1 Hs1 m x As g1 r1 f1 q1=>?_⟩
 have r:=r1.rep g1.wf
 cases r with
 | bl b=>exact ⟨b,rfl,fin b H1 Hs1 g1 q1⟩
 | _=>exact q1.elim
theorem jX {t:WE} (h:QE X K a t) (he:∀ whole,isTrue a X.env whole=(do let v <- whole; standAt a.pos; holding [v] (truthy v)):=by intro _; rfl):QT X K a (wB t):=PT.imp (pt_val h he) wD
def nW (f g:W2) (ta tb tc:WE):WE:=fun ρ Q=>ta ρ fun m x=>tb ρ fun n y=>f m x n y fun _ z=>match z with
 | .bl k=>if k=true then tc ρ fun l w=>g n y l w Q else Q .sh (.bl false)
 | _=>False
end
end L2.Q
namespace L2.Q
open PySem PySem.Spec PyProof.Rows
section
variable {X:Cx} {K:PySem.W.Frag} {a b c:Expr} {ta tb tc:WE} {pos:Pos}
theorem rK {r r':R2} {f g:W2} (br:Br2 K r f) (br':Br2 K r' g) (σ:St) (H:Hp) (Qv:VK) (h:tpE K (nW f g ta tb tc) σ H Qv):tChain r r' (tpE K ta) (tpE K tb) (tpE K tc) σ H Qv:=by
 obtain ⟨Hs,ρ,tot,Q,sr,h,fin⟩:=h
 refine ⟨Hs,ρ,tot,_,sr,h,fun v H1 Hs1 m x As g1 r1 f1 q1=>⟨Hs1,ρ,tot,_,sr.grow g1,q1,fun u H2 Hs2 n y Bs g2 r2 f2 q2=>?_⟩⟩
 refine br Hs2 H2 m x v As n y u Bs _ _ g2.wf (r1.grow g2) r2 q2 fun z H3 Hs3 m3 d3 As3 g3 r3 f3 q3=>?_
 have rr:=r3.rep g3.wf
 cases rr with
 | bl k =>
  refine ⟨k,rfl,?_⟩
  have fin3:Fin K Hs3 H3 Q Qv:=Fin.after fin ((g1.trans g2).trans g3)
  cases k with
  | false=>exact fin3.sh g3.wf (.bl false) q3
  | true =>
   refine ⟨Hs3,ρ,tot,_,((sr.grow g1).grow g2).grow g3,q3,fun w H4 Hs4 l z As4 g4 r4 f4 q4=>?_⟩
   exact br' Hs4 H4 n y u Bs l z w As4 Q Qv g4.wf ((r2.grow g3).grow g4) r4 q4 (Fin.after fin3 g4)
 | _=>exact q3.elim
theorem xj {op op':CmpOp} {r r':R2} {f g:W2} (ho:OpR X (compareOp op) r) (ho':OpR X (compareOp op') r') (br:Br2 K r f) (br':Br2 K r' g) (ha:QE X K a ta) (hb:QE X K b tb) (hc:QE X K c tc)
  (hm:lastMarks [op,op'] [b,c]=false:=by with_unfolding_all rfl):QT X K (.Compare a [op,op'] [b,c] pos) (wB (nW f g ta tb tc)):=by
 refine PT.imp (pt_chain ho ho' ha hb hc hm) fun σ H Qv h=>?_
 obtain ⟨Hs,ρ,tot,Q,sr,h,fin⟩:=h
 refine rK br br' σ H _ ⟨Hs,ρ,tot,_,sr,h,fun v H1 Hs1 m x As g1 r1 f1 q1=>?_⟩
 have r:=r1.rep g1.wf
 cases r with
 | bl b=>exact ⟨b,rfl,fin b H1 Hs1 g1 q1⟩
 | _=>exact q1.elim
def wAnd (t u:WT):WT:=fun ρ Q=>t ρ fun c=>if c=true then u ρ Q else Q false
def wOr (t u:WT):WT:=fun ρ Q=>t ρ fun c=>if c=true then Q true else u ρ Q
def wNot (t:WT):WT:=fun ρ Q=>t ρ fun c=>Q (!c)
variable {tA tB:WT} {rest:List Expr}
theorem lU {t u:WT} {f:Bool->TT} {σ:St} {H:Hp} {Qv:Bool->Hp->Prop} {G:Bool->(Bool->Prop)->Env->Prop}
  (h:tpT K (fun ρ Q=>t ρ fun c=>G c Q ρ) σ H Qv)
  (i:∀ c H1 Hs1 ρ tot Q,SRel K Hs1 ρ σ H1 tot->G c Q ρ->(∀ b H' Hs',Grow Hs1 H1 Hs' H'->Q b->Qv b H')->f c σ H1 Qv):tpT K t σ H fun c H1=>f c σ H1 Qv:=by
 obtain ⟨Hs,ρ,tot,Q,sr,h,fin⟩:=h
 exact ⟨Hs,ρ,tot,_,sr,h,fun c H1 Hs1 g1 q1=>i c H1 Hs1 ρ tot Q (sr.grow g1) q1 fun b H' Hs' g2=>fin b H' Hs' (g1.trans g2)⟩
theorem zE (ha:QT X K a tA):QW X K (.BoolOp .And [a] pos) tA:=pw_and1 ha
theorem xQ (ha:QT X K a tA):QW X K (.BoolOp .Or [a] pos) tA:=pw_or1 ha
theorem Cw (ha:QT X K a tA) (hb:QW X K (.BoolOp .And (b :: rest) pos) tB):QW X K (.BoolOp .And (a :: b :: rest) pos) (wAnd tA tB):=by
 refine PW.imp (pw_and ha hb) fun σ H Qv h=>?_
 refine lU (u:=tB) (f:=fun c σ H1 Q=>if c=true then tpT K tB σ H1 Q else Q false H1) h fun c H1 Hs1 ρ tot Q sr q fin=>?_
 cases c with
 | true=>exact ⟨Hs1,ρ,tot,Q,sr,q,fin⟩
 | false=>exact fin false H1 Hs1 (Grow.refl sr.wf) q
theorem zY (ha:QT X K a tA) (hb:QW X K (.BoolOp .Or (b :: rest) pos) tB):QW X K (.BoolOp .Or (a :: b :: rest) pos) (wOr tA tB):=by
 refine PW.imp (pw_or ha hb) fun σ H Qv h=>?_
 refine lU (u:=tB) (f:=fun c σ H1 Q=>if c=true then Q true H1 else tpT K tB σ H1 Q) h fun c H1 Hs1 ρ tot Q sr q fin=>?_
 cases c with
 | true=>exact fin true H1 Hs1 (Grow.refl sr.wf) q
 | false=>exact ⟨Hs1,ρ,tot,Q,sr,q,fin⟩
theorem qt_w (h:QW X K a tA):QT X K a tA:=h _
theorem jM (ha:QT X K a tA):QT X K (.UnaryOp .Not a pos) (wNot tA):=by
 refine PT.imp (pt_not ha) fun σ H Qv h=>?_
 exact lU (u:=tA) (f:=fun c σ H1 Q=>Q (!c) H1) h fun c H1 Hs1 ρ tot Q sr q fin=>fin _ H1 Hs1 (Grow.refl sr.wf) q
def uG (ta tb:WE):WE:=fun ρ Q=>ta ρ fun _ x=>match x with
 | .bl c=>if c=true then tb ρ Q else Q .sh (.bl false)
 | _=>False
theorem Bl {op} (h:QE X K a ta):QE X K (.BoolOp op [a] pos) ta:=pe_one h
theorem Ao (ha:QE X K a ta) (hb:QE X K (.BoolOp .And (b :: rest) pos) tb):QE X K (.BoolOp .And (a :: b :: rest) pos) (uG ta tb):=by
 refine PE.imp (pe_and ha hb) fun σ H Qv hx=>ex4 hx fun Hs ρ tot Q sr h fin=>?_
 refine ⟨Hs,ρ,tot,_,sr,h,fun v H1 Hs1 m x As g1 r1 f1 q1=>?_⟩
 have r:=r1.rep g1.wf
 cases r with
 | bl c =>
  refine ⟨c,rfl,?_⟩
  cases c with
  | true=>exact ⟨Hs1,ρ,tot,Q,sr.grow g1,q1,Fin.after fin g1⟩
  | false=>exact Fin.sh (Fin.after fin g1) g1.wf (.bl false) q1
 | _=>exact q1.elim
def truD:D->Option Bool
 | .non=>some false
 | .bl b=>some b
 | .int i=>some (i != 0)
 | .str x=>some ((x.length:Int) != 0)
 | .list xs=>some !xs.isEmpty
 | .tup xs=>some !xs.isEmpty
 | .dK kvs=>none
 | .dT kvs=>none
end
def fAdd:W2:=fun m x n y Q=>match x,y with
 | .int i,.int j=>Q .sh (.int (i+j))
 | .str i,.str j=>i.length+j.length<=sizeLine/\Q .sh (.str (i++j))
 | .list xs,.list ys=>xs.length+ys.length<=sizeLine/\((flats xs=true/\flats ys=true/\Q (.ow true) (.list (xs++ys)))\/(m=.sh/\n=.sh/\Q (.ow false) (.list (xs++ys))))
 | .tup xs,.tup ys=>xs≠[]/\xs.length+ys.length<=sizeLine/\flats xs=true/\flats ys=true/\Q .sh (.tup (xs++ys))
 | _,_=>False
def int2 (P:Int->Int->(Md->D->Prop)->Prop):W2:=fun _ x _ y Q=>match x,y with
 | .int i,.int j=>P i j Q
 | _,_=>False
def is2 (P:Int->Int->(Md->D->Prop)->Prop) (S:Str->Str->(Md->D->Prop)->Prop):W2:=fun _ x _ y Q=>match x,y with
 | .int i,.int j=>P i j Q
 | .str i,.str j=>S i j Q
 | _,_=>False
def fSub:W2:=int2 fun i j Q=>Q .sh (.int (i - j))
def fMul:W2:=int2 fun i j Q=>CMul i j/\Q .sh (.int (i * j))
def fDiv:W2:=int2 fun i j Q=>(0<j/\j<1073741824)/\Q .sh (.int (i / j))
def fMod:W2:=int2 fun i j Q=>0<j/\Q .sh (.int (i % j))
def fPow:W2:=int2 fun i j Q=>CPow i j/\Q .sh (.int (i ^ j.toNat))
def fLt:W2:=is2 (fun i j Q=>Q .sh (.bl (decide (i<j)))) fun i j Q=>Q .sh (.bl (ltS i j))
def fLe:W2:=is2 (fun i j Q=>Q .sh (.bl (decide (i<=j)))) fun i j Q=>Q .sh (.bl (!ltS j i))
def fGt:W2:=int2 fun i j Q=>Q .sh (.bl (decide (j<i)))
def fEq:W2:=fun _ x _ y Q=>match x,y with
 | .int i,.int j=>Q .sh (.bl (decide (i=j)))
 | .str i,.str j=>Q .sh (.bl (decide (i=j)))
 | .bl i,.bl j=>Q .sh (.bl (decide (i=j)))
 | _,_=>okD 12 x=true/\okD 12 y=true/\Q .sh (.bl (eqD x y))
def fNe:W2:=fun _ x _ y Q=>match x,y with
 | .int i,.int j=>Q .sh (.bl (!decide (i=j)))
 | .str i,.str j=>Q .sh (.bl (!decide (i=j)))
 | .bl i,.bl j=>Q .sh (.bl (!decide (i=j)))
 | _,_=>okD 12 x=true/\okD 12 y=true/\Q .sh (.bl (!eqD x y))
def D.isN:D->Bool
 | .non=>true
 | _=>false
def fU:D->Bool
 | .non=>true
 | .bl _=>true
 | .int _=>true
 | .str _=>true
 | _=>false
def inD (x:D) (ys:List D):Bool:=ys.any fun y=>eqD y x
def fIn (neg:Bool):W2:=fun _ x _ y Q=>match y with
 | .str j=>match x with
  | .str i=>Q .sh (.bl (if neg then !inS i j else inS i j))
  | _=>False
 | .list ys=>fU x=true/\ys.all fU=true/\Q .sh (.bl (if neg then !inD x ys else inD x ys))
 | .tup ys=>fU x=true/\ys.all fU=true/\Q .sh (.bl (if neg then !inD x ys else inD x ys))
 | .dK kvs=>∃ k,x.key1=some k/\Q .sh (.bl (if neg then !(getG kvs k).isSome else (getG kvs k).isSome))
 | .dT kvs=>match x with
  | .tup xs=>∃ ks,dq xs=some ks/\Q .sh (.bl (if neg then !(getG kvs ks).isSome else (getG kvs ks).isSome))
  | _=>False
 | _=>False
section
variable {K:PySem.W.Frag}
theorem Br2.flatV {r:R2} {f:W2} (h:∀ Hs H m x v As n y u Bs Qd Qv,Wf Hs H->RM K Hs H m x v As->RM K Hs H n y u Bs->f m x n y Qd->Fin K Hs H Qd Qv->r v u H Qv):Br2 K r f:=h
theorem yC {Hs H:Hp} {Qd:Md->D->Prop} {Qv:VK} (f:Fin K Hs H Qd Qv) (w:Wf Hs H) {x:Str} (h:x.length<=sizeLine) (q:Qd .sh (.str x)):Qv (.str x) H:=f.sh w (.str h) q
theorem cX (i j:Str):(i++j).length=i.length+j.length:=by
 show ((i++j).cps.size)=_
 show (i.cps++j.cps).size=_
 simp [Str.length]
theorem BP:Br2 K (fun x y H Q=>v_ K x y H Q\/rCatT K x y H Q) fAdd:=by
 intro Hs H m x v As n y u Bs Qd Qv w rx ry h f
 have r1:=rx.rep w
 have r2:=ry.rep w
 unfold fAdd at h
 cases r1 with
 | int i=>cases r2 with
  | int j=>exact .inl (f.sh w (.int _) h)
  | _=>exact h.elim
 | str hi=>cases r2 with
  | str hj=>exact .inl ⟨h.1,yC f w (by rw [cX]; exact h.1) h.2⟩
  | _=>exact h.elim
 | list z1 s1 q1=>cases r2 with
  | list z2 s2 q2 =>
   have l1:=q1.length
   have l2:=q2.length
   have hz:=h.1
   rcases h.2 with ⟨f1,f2,q⟩ | ⟨rfl,rfl,q⟩
   ·refine .inl ⟨_,_,s1,s2,by lia,?_⟩
    exact f.lst w (by rw [xaA]; exact hz) (q1.append q2) (by rw [iZ,f1,f2]; rfl) q
   ·obtain ⟨_,rx⟩:=rx
    obtain ⟨_,ry⟩:=ry
    cases rx with
    | list z1' s1' q1'=>cases ry with
     | list z2' s2' q2' =>
      have l1:=q1'.length
      have l2:=q2'.length
      refine .inl ⟨_,_,Same.seq w.sub s1',Same.seq w.sub s2',by lia,?_⟩
      exact f.lstS w (by rw [xaA]; exact hz) (q1'.append q2') q
  | _=>exact h.elim
 | tup t1 s1 q1=>cases r2 with
  | tup t2 s2 q2 =>
   have l1:=q1.length
   have l2:=q2.length
   obtain ⟨hne,hz,f1,f2,q⟩:=h
   refine .inr ⟨_,_,_,_,rfl,rfl,.inl (.inl s1),.inl (.inl s2),?_,by lia,?_⟩
   ·intro e
    subst e
    exact hne (List.length_eq_zero_iff.mp l1)
   ·refine ⟨fun e=>?_,fun _=>f.tup w (by rw [xaA]; exact hz) (q1.append q2) (by rw [iZ,f1,f2]; rfl) q⟩
    subst e
    cases q2
    rw [xaI] at q
    exact f.flat w (.tup t1 s1 q1) (by simpa [D.flat] using f1) q
  | _=>exact h.elim
 | _=>exact h.elim
theorem xP {H:Hp} {x y:D} {v u:V} {m n:Md} {P:Int->Int->(Md->D->Prop)->Prop} {S:Str->Str->(Md->D->Prop)->Prop} {Q:Md->D->Prop} {G:Prop} (r1:Rep K H x v) (r2:Rep K H y u) (h:is2 P S m x n y Q) (k:∀ i j,v=.int i->u=.int j->P i j Q->G) (ks:∀ i j,v=.str i->u=.str j->S i j Q->G):G:=by
 cases r1 with
 | int i=>cases r2 with
  | int j=>exact k i j rfl rfl h
  | _=>exact h.elim
 | str hi=>cases r2 with
  | str hj=>exact ks _ _ rfl rfl h
  | _=>exact h.elim
 | _=>exact h.elim
theorem iG {H:Hp} {x y:D} {v u:V} {m n:Md} {P:Int->Int->(Md->D->Prop)->Prop} {Q:Md->D->Prop} {G:Prop} (r1:Rep K H x v) (r2:Rep K H y u) (h:int2 P m x n y Q) (k:∀ i j,v=.int i->u=.int j->P i j Q->G):G:=by
 cases r1 with
 | int i=>cases r2 with
  | int j=>exact k i j rfl rfl h
  | _=>exact h.elim
 | _=>exact h.elim
theorem Bf:Br2 K yh fSub:=by
 intro Hs H m x v As n y u Bs Qd Qv w rx ry h f
 exact iG (rx.rep w) (ry.rep w) h fun i j e1 e2 q=>by
  subst e1 e2
  exact f.sh w (.int _) q
theorem Cq:Br2 K yR fMul:=by
 intro Hs H m x v As n y u Bs Qd Qv w rx ry h f
 exact iG (rx.rep w) (ry.rep w) h fun i j e1 e2 q=>by
  subst e1 e2
  exact ⟨q.1,f.sh w (.int _) q.2⟩
theorem Aj:Br2 K yU fDiv:=by
 intro Hs H m x v As n y u Bs Qd Qv w rx ry h f
 exact iG (rx.rep w) (ry.rep w) h fun i j e1 e2 q=>by
  subst e1 e2
  exact ⟨q.1,f.sh w (.int _) q.2⟩
theorem Bv:Br2 K zP fMod:=by
 intro Hs H m x v As n y u Bs Qd Qv w rx ry h f
 exact iG (rx.rep w) (ry.rep w) h fun i j e1 e2 q=>by
  subst e1 e2
  exact ⟨q.1,f.sh w (.int _) q.2⟩
theorem Af:Br2 K yP fPow:=by
 intro Hs H m x v As n y u Bs Qd Qv w rx ry h f
 exact iG (rx.rep w) (ry.rep w) h fun i j e1 e2 q=>by
  subst e1 e2
  exact ⟨q.1,f.sh w (.int _) q.2⟩
theorem Fi:Br2 K rGtU fGt:=by
 intro Hs H m x v As n y u Bs Qd Qv w rx ry h f
 exact iG (rx.rep w) (ry.rep w) h fun i j e1 e2 q=>by
  subst e1 e2
  exact f.sh w (.bl _) q
theorem Ck:Br2 K rLtU fLt:=by
 intro Hs H m x v As n y u Bs Qd Qv w rx ry h f
 exact xP (rx.rep w) (ry.rep w) h (fun i j e1 e2 q=>by
  subst e1 e2
  exact f.sh w (.bl _) q) fun i j e1 e2 q=>by
  subst e1 e2
  exact f.sh w (.bl _) q
theorem Fy:Br2 K rLeU fLe:=by
 intro Hs H m x v As n y u Bs Qd Qv w rx ry h f
 exact xP (rx.rep w) (ry.rep w) h (fun i j e1 e2 q=>by
  subst e1 e2
  exact f.sh w (.bl _) q) fun i j e1 e2 q=>by
  subst e1 e2
  exact f.sh w (.bl _) q
theorem eq_data {Hs H:Hp} {x y:D} {v u:V} {Qd:Md->D->Prop} {Qv:VK} (w:Wf Hs H) (rx:Rep K H x v) (ry:Rep K H y u) (f:Fin K Hs H Qd Qv) (h:okD 12 x=true/\okD 12 y=true/\Qd .sh (.bl (eqD x y))):rEqD K v u H Qv:=by
 obtain ⟨h1,h2,q⟩:=h
 have l1:=rE 12 x h1
 have l2:=rE 12 y h2
 exact ⟨x.py,y.py,rx.l2 h1,ry.l2 h2,l1.1,l2.1,by lia,f.sh w (.bl _) q⟩
theorem ne_data {Hs H:Hp} {x y:D} {v u:V} {Qd:Md->D->Prop} {Qv:VK} (w:Wf Hs H) (rx:Rep K H x v) (ry:Rep K H y u) (f:Fin K Hs H Qd Qv) (h:okD 12 x=true/\okD 12 y=true/\Qd .sh (.bl (!eqD x y))):rNeD K v u H Qv:=by
 obtain ⟨h1,h2,q⟩:=h
 have l1:=rE 12 x h1
 have l2:=rE 12 y h2
 exact ⟨x.py,y.py,rx.l2 h1,ry.l2 h2,l1.1,l2.1,by lia,f.sh w (.bl _) q⟩
theorem gK:Br2 K (rEqU K) fEq:=by
 intro Hs H m x v As n y u Bs Qd Qv w rx ry h f
 have r1:=rx.rep w
 have r2:=ry.rep w
 have d:=fun h=>eq_data (Qd:=Qd) (Qv:=Qv) w r1 r2 f h
 cases r1 with
 | int i=>cases r2 with
  | int j=>exact f.sh w (.bl _) h
  | _=>exact d h
 | str i=>cases r2 with
  | str j=>exact f.sh w (.bl _) h
  | _=>exact d h
 | bl i=>cases r2 with
  | bl j=>exact f.sh w (.bl _) h
  | _=>exact d h
 | _=>exact d h
theorem CJ:Br2 K (rNeU K) fNe:=by
 intro Hs H m x v As n y u Bs Qd Qv w rx ry h f
 have r1:=rx.rep w
 have r2:=ry.rep w
 have d:=fun h=>ne_data (Qd:=Qd) (Qv:=Qv) w r1 r2 f h
 cases r1 with
 | int i=>cases r2 with
  | int j=>exact f.sh w (.bl _) h
  | _=>exact d h
 | str i=>cases r2 with
  | str j=>exact f.sh w (.bl _) h
  | _=>exact d h
 | bl i=>cases r2 with
  | bl j=>exact f.sh w (.bl _) h
  | _=>exact d h
 | _=>exact d h
theorem j_ {H:Hp} {x:D} {v:V} (r:Rep K H x v) (h:fU x=true):flatV v=true:=by
 cases r <;> first | rfl | (simp [fU] at h)
theorem zj {H:Hp} {x y:D} {v u:V} (r:Rep K H x v) (s:Rep K H y u) (h:fU x=true) (g:fU y=true):eqV v u=eqD x y:=by
 cases r <;> simp [fU] at h <;> cases s <;> simp [fU] at g <;> rfl
theorem Bc {H:Hp} {x:D} {v:V} (r:Rep K H x v) (h:fU x=true) {ys:List D} {us:List V} (rs:Reps K H ys us) (g:ys.all fU=true):us.all flatV=true/\inV v us=inD x ys:=by
 induction ys generalizing us with
 | nil=>rw [rs.n0]; exact ⟨rfl,rfl⟩
 | cons y ys ih =>
  obtain ⟨u,us,rfl,s,ss⟩:=rs.c
  simp only [xbx,xaG] at g
  obtain ⟨e1,e2⟩:=ih ss g.2
  refine ⟨by simp only [xbx,j_ s g.1,e1,Bool.and_self],?_⟩
  unfold inV inD at *
  rw [xby,xby,e2,zj s r g.1 h]
theorem oO {κ:Type} [DecidableEq κ] {H:Hp} {k:κ} {kvs:List (κ × D)} {vs:List V} (r:Reps K H (kvs.map (·.2)) vs):(valV ((kvs.map (·.1)).zip vs) k).isSome=(getG kvs k).isSome:=by
 have:=zip_get (k:=k) r
 split at this
 ·rename_i e
  obtain ⟨v,e1,_⟩:=this
  rw [e1,e]; rfl
 ·rename_i e
  rw [this,e]; rfl
theorem xm {neg:Bool}:Br2 K (rInU K neg) (fIn neg):=by
 intro Hs H m x v As n y u Bs Qd Qv w rx ry h f
 have r1:=rx.rep w
 have r2:=ry.rep w
 cases r2 with
 | str j=>cases r1 with
  | str i=>exact f.sh w (.bl _) h
  | _=>exact h.elim
 | list z s q =>
  obtain ⟨h1,h2,h3⟩:=h
  obtain ⟨e1,e2⟩:=Bc r1 h1 q h2
  have h4:=j_ r1 h1
  have g:rIn K neg v (.ref _) H Qv:=⟨_,_,rfl,.inl s,h4,e1,by rw [e2]; exact f.sh w (.bl _) h3⟩
  cases r1 <;> exact .inr g
 | tup _ s q =>
  obtain ⟨h1,h2,h3⟩:=h
  obtain ⟨e1,e2⟩:=Bc r1 h1 q h2
  have h4:=j_ r1 h1
  have g:rIn K neg v (.ref _) H Qv:=⟨_,_,rfl,.inr (.inl (.inl s)),h4,e1,by rw [e2]; exact f.sh w (.bl _) h3⟩
  cases r1 <;> exact .inr g
 | dK kk e q =>
  obtain ⟨k,hk,h3⟩:=h
  have ev:=r1.key hk
  subst ev
  have eg:=oO (k:=k) q
  cases k <;> exact .inl ⟨_,DGet.k' e,by rw [eg]; exact f.sh w (.bl _) h3⟩
 | dT kk e q =>
  cases r1 with
  | tup t1 e1 q1 =>
   obtain ⟨ks,hk,h3⟩:=h
   obtain ⟨b,eb,e2⟩:=Rep.keyT (.tup t1 e1 q1) hk
   cases eb
   have eg:=oO (k:=ks) q
   exact .inl ⟨_,DGet.t' e e2,by rw [eg]; exact f.sh w (.bl _) h3⟩
  | _=>exact h.elim
 | _=>exact h.elim
end
section
variable {X:Cx} {K:PySem.W.Frag} {a b:Expr} {ta tb:WE} {pos:Pos}
theorem Fz (hK:X.K=K:=by rfl):OpR X (binaryOp .Add) (fun x y H Q=>v_ K x y H Q\/rCatT K x y H Q):=by subst hK; exact yQ.or op_catT
theorem bf (ha:QE X K a ta) (hb:QE X K b tb) (hK:X.K=K:=by rfl):QE X K (.BinOp a .Add b pos) (wOp fAdd ta tb):=q_op (Fz hK) BP ha hb
theorem Cd (ha:QE X K a ta) (hb:QE X K b tb):QE X K (.BinOp a .Sub b pos) (wOp fSub ta tb):=q_op zW Bf ha hb
theorem gH (ha:QE X K a ta) (hb:QE X K b tb):QE X K (.BinOp a .Mult b pos) (wOp fMul ta tb):=q_op yK Cq ha hb
theorem rJ (ha:QE X K a ta) (hb:QE X K b tb):QE X K (.BinOp a .FloorDiv b pos) (wOp fDiv ta tb):=q_op yZ Aj ha hb
theorem iB (ha:QE X K a ta) (hb:QE X K b tb):QE X K (.BinOp a .Mod b pos) (wOp fMod ta tb):=q_op zx Bv ha hb
theorem Dw (ha:QE X K a ta) (hb:QE X K b tb):QE X K (.BinOp a .Pow b pos) (wOp fPow ta tb):=q_op z7 Af ha hb
def fNeg:W1:=fun _ x Q=>match x with
 | .int i=>Q .sh (.int (-i))
 | _=>False
theorem Ax:Br1 K (rU fun i=>.int (-i)) fNeg:=by
 intro Hs H m x v As Qd Qv w rx h f
 have r1:=rx.rep w
 cases r1 with
 | int i=>exact ⟨i,rfl,f.sh w (.int _) h⟩
 | _=>exact h.elim
theorem Av (ha:QE X K a ta):QE X K (.UnaryOp .USub a pos) (wUn fNeg ta):=q_un un_neg Ax ha
end
def wNil:WA:=fun _ Q=>Q []
def aj (te:WE) (t:WA):WA:=fun ρ Q=>te ρ fun m x=>t ρ fun ps=>Q ((m,x) :: ps)
def okSh:Md × D->Bool
 | (.sh,_)=>true
 | (_,d)=>d.flat
def okOw:Md × D->Bool
 | (.bo,d)=>d.flat
 | _=>true
def okFl:Md × D->Bool
 | (.ow true,_)=>true
 | (_,d)=>d.flat
def zb (ps:List (Md × D)):Md:=bif ps.all okSh then .sh else bif ps.all okOw then .ow (ps.all okFl) else .bo
def yo (ps:List (Md × D)):Md:=bif ps.all okOw then .ow (ps.all okFl) else .bo
def wTup (t:WA):WE:=fun ρ Q=>t ρ fun ps=>ps.length<=sizeLine/\Q (zb ps) (.tup (ps.map (·.2)))
def wLst (t:WA):WE:=fun ρ Q=>t ρ fun ps=>ps.length<=sizeLine/\Q (yo ps) (.list (ps.map (·.2)))
section
variable {X:Cx} {K:PySem.W.Frag} {e:Expr} {es:List Expr} {te:WE} {t:WA} {pos:Pos} {Hs H:Hp}
theorem ao:QA X K [] wNil:=PA.imp pa_nil fun σ H Qv hx=>ex4 hx fun Hs ρ tot Q sr h f=>f [] H Hs [] [] (Grow.refl sr.wf) .nil cM.nil h
theorem cM.app {Hs1 Hs2 H1:Hp} {As Bs:List Addr} (f1:cM Hs1 H As) (o:∀ a∈As,H1 a≠none) (f2:cM Hs2 H1 Bs) (s:Same H H1) (k:∀ a,Hs1 a=none->H1 a≠none->Hs2 a=none):cM Hs2 H (As++Bs) :=
 ⟨xam.mpr ⟨f1.1,f2.1,fun a ha b hb e=>by subst e; exact o a ha (f2.2 a hb).2⟩,fun a h=>by
  rcases xah.mp h with h | h
  ·exact ⟨k a (f1.2 a h).1 (o a h),(f1.2 a h).2⟩
  ·exact ⟨(f2.2 a h).1,s.free (f2.2 a h).2⟩⟩
theorem aa (ha:QE X K e te) (hr:QA X K es t) (hs:starEach (e :: es) X.env=(false,eval e X.env) :: starEach es X.env:=by rfl):QA X K (e :: es) (aj te t):=by
 refine PA.imp (pa_cons ha hr hs) fun σ H Qv hx=>ex4 hx fun Hs ρ tot Q sr h f=>?_
 refine ⟨Hs,ρ,tot,_,sr,h,fun v H1 Hs1 m x As g1 r1 f1 q1=>⟨Hs1,ρ,tot,_,sr.grow g1,q1,fun vs H2 Hs2 ps Bs g2 r2 f2 q2=>?_⟩⟩
 exact f (v :: vs) H2 Hs2 _ _ (g1.trans g2) (.cons (r1.grow g2) r2) (f1.app (fun a h=>(r1.own a h).ne) f2 g1.all fun a h1 h2=>g2.hsn h1 h2) q2
theorem RMs.sh (w:Wf Hs H) {ps:List (Md × D)} {vs:List V} {As:List Addr} (r:RMs K Hs H ps vs As):ps.all okSh=true->Reps K Hs (ps.map (·.2)) vs:=by
 induction r with
 | nil=>exact fun _=>.nil
 | @cons m d v ps vs As Bs r rs ih =>
  intro h
  simp only [xbx,xaG] at h
  refine .cons ?_ (ih h.2)
  cases m with
  | sh=>exact r.2
  | ow fl=>exact r.flat w h.1
  | bo=>exact r.flat w h.1
theorem RMs.ow {fl:Bool} (w:Wf Hs H) {ps:List (Md × D)} {vs:List V} {As:List Addr} (r:RMs K Hs H ps vs As):ps.all okOw=true->(fl=true->ps.all okFl=true)->∃ Bs,Bs.Sublist As/\(ps.all okSh=false->Bs≠[])/\aB K Hs H fl (ps.map (·.2)) vs Bs:=by
 induction r with
 | nil=>exact fun _ _=>⟨[],xbq _,(fun z=>Bool.noConfusion z),.nil⟩
 | @cons m d v ps vs A1 Cs r rs ih =>
  intro h hf
  simp only [xbx,xaG] at h hf
  obtain ⟨Bs,sb,ne,q⟩:=ih h.2 fun z=>(hf z).2
  have sk:([]++Bs).Sublist (A1++Cs):=by simpa using sb.trans (xar _ _)
  have flt:d.flat=true->okSh (m,d)=true->∃ Bs,Bs.Sublist (A1++Cs)/\(((m,d) :: ps).all okSh=false->Bs≠[])/\aB K Hs H fl (((m,d) :: ps).map (·.2)) (v :: vs) Bs:=fun hd ho =>
   ⟨[]++Bs,sk,fun z=>ne (by rw [xbx,ho] at z; simpa using z),.cons (.sh (fun _=>hd) (r.flat w hd)) q⟩
  cases m with
  | sh=>exact ⟨[]++Bs,sk,fun z=>ne (by simpa [okSh] using z),.cons (.sh (fun z=>(hf z).1) r.2) q⟩
  | bo=>exact flt h.1 h.1
  | ow b =>
   cases hd:d.flat with
   | true=>exact flt hd hd
   | false =>
    refine ⟨A1++Bs,sb.append_left _,fun _ z=>r.2 (xbr.mp z).1,.cons ?_ q⟩
    cases fl with
    | false=>exact RepO.fls r.1
    | true =>
     have:=(hf rfl).1
     cases b with
     | true=>exact r.1
     | false=>simp [okFl,hd] at this
theorem qN:∀ {ps:List (Md × D)},flats (ps.map (·.2))=true->ps.all okSh=true
 | [],_=>rfl
 | (m,d) :: ps,h=>by
  simp only [xas,flats,xaG] at h
  simp only [xbx,xaG]
  exact ⟨by cases m <;> simp [okSh,h.1],qN h.2⟩
theorem dH {x1} (h:QA X K es t):QE X K (.Tuple es x1 pos) (wTup t):=by
 refine PE.imp (pe_tup h) fun σ H Qv hx=>ex4 hx fun Hs ρ tot Q sr h f=>?_
 refine ⟨Hs,ρ,tot,_,sr,h,fun vs H1 Hs1 ps As g1 r1 f1 q1=>?_⟩
 obtain ⟨hz,q⟩:=q1
 have rl:=(r1.reps g1.wf)
 have hl:=rl.length
 rw [xab] at hl
 refine ⟨by lia,fun p hp=>?_⟩
 have g2:=newT (vs:=vs) g1.wf hp
 have fin:=Fin.after f g1
 unfold zb at q
 cases h1:ps.all okSh with
 | true =>
  rw [h1] at q
  exact fin _ _ _ .sh _ [] g2 ⟨rfl,.tup (by lia) upd_same ((r1.sh g1.wf h1).same g2.sh)⟩ cM.nil q
 | false =>
  rw [h1] at q
  cases h2:ps.all okOw with
  | false =>
   rw [h2] at q
   exact fin _ _ _ .bo _ [] g2 ⟨rfl,.tup (by lia) upd_same (rl.same g2.all)⟩ cM.nil q
  | true =>
   rw [h2] at q
   obtain ⟨Bs,sb,nz,ro⟩:=r1.ow (fl:=ps.all okFl) g1.wf h2 fun z=>z
   have hne:flats (ps.map (·.2))=false:=by
    cases hf:flats (ps.map (·.2)) with
    | false=>rfl
    | true=>rw [qN hf] at h1; cases h1
   have own:=ro.own
   refine f _ _ _ (.ow _) _ Bs (g1.trans g2) ⟨.tup (by lia) upd_same hne (ro.grow g2.sh g2.all),nz h1⟩ ⟨sb.nodup f1.1,fun a ha=>⟨?_,(f1.2 a (sb.subset ha)).2⟩⟩ q
   exact g2.hsn (f1.2 a (sb.subset ha)).1 (own a ha).ne
theorem gq (h:QA X K es t):QE X K (.List es pos) (wLst t):=by
 refine PE.imp (pe_lst h) fun σ H Qv hx=>ex4 hx fun Hs ρ tot Q sr h f=>?_
 refine ⟨Hs,ρ,tot,_,sr,h,fun vs H1 Hs1 ps As g1 r1 f1 q1=>?_⟩
 obtain ⟨hz,q⟩:=q1
 have rl:=(r1.reps g1.wf)
 have hl:=rl.length
 rw [xab] at hl
 refine ⟨by lia,fun p hp=>?_⟩
 have g2:=newL (o:=.lst vs) g1.wf hp fun _ z=>nomatch z
 have fin:=Fin.after f g1
 unfold yo at q
 cases h2:ps.all okOw with
 | false =>
  rw [h2] at q
  exact fin _ _ _ .bo _ [] g2 ⟨rfl,.list (by lia) (.inl (.inl upd_same)) (rl.same g2.all)⟩ cM.nil q
 | true =>
  rw [h2] at q
  obtain ⟨Bs,sb,nz,ro⟩:=r1.ow (fl:=ps.all okFl) g1.wf h2 fun z=>z
  have own:=ro.own
  refine f _ _ _ (.ow _) _ (p :: Bs) (g1.trans g2) ⟨.list (by lia) upd_same (ro.grow g2.sh g2.all),by simp⟩ ⟨xay.mpr ⟨fun m=>(own p m).ne hp,sb.nodup f1.1⟩,fun a ha=>?_⟩ q
  rcases xaj.mp ha with rfl | ha
  ·exact ⟨g1.wf.sub.free hp,g1.all.free hp⟩
  ·exact ⟨g2.hsn (f1.2 a (sb.subset ha)).1 (own a ha).ne,(f1.2 a (sb.subset ha)).2⟩
end
theorem Reps.atI {K:PySem.W.Frag} {H:Hp} {ds:List D} {vs:List V} {i:Int} {d:D} (r:Reps K H ds vs) (h:atI ds i=some d):∃ v,L2.atI vs i=some v/\Rep K H d v:=by
 unfold L2.atI at *
 rw [<- r.length]
 cases e:ixN ds.length i with
 | none=>rw [e] at h; cases h
 | some j =>
  rw [e] at h
  exact r.get h
def fIx:W2:=fun m x _ y Q=>match x with
 | .list xs=>match y with
  | .int i=>∃ d,atI xs i=some d/\onK d (f:=fun d=>Q (itm m d) d) ⟨⟩
  | _=>False
 | .tup xs=>match y with
  | .int i=>∃ d,atI xs i=some d/\onK d (f:=fun d=>Q (itm m d) d) ⟨⟩
  | _=>False
 | .str z=>match y with
  | .int i=>∃ c,atI z.cps.toList i=some c/\Q .sh (.str ⟨#[c]⟩)
  | _=>False
 | .dK kvs=>∃ k d,y.key1=some k/\getG kvs k=some d/\onK d (f:=fun d=>Q (itm m d) d) ⟨⟩
 | .dT kvs=>match y with
  | .tup ys=>∃ ks d,dq ys=some ks/\getG kvs ks=some d/\onK d (f:=fun d=>Q (itm m d) d) ⟨⟩
  | _=>False
 | _=>False
def rIxD (K:PySem.W.Frag):R2:=fun x y H Q=>rIxU K x y H Q\/∃ a v,x=.ref a/\DGet H a y (some v)/\Q v H
theorem yf (c:Nat):(⟨#[c]⟩:Str).length<=sizeLine:=by show 1<=sizeLine; decide
theorem RM.here {K:PySem.W.Frag} {Hs H:Hp} {m:Md} {d:D} {v:V} {As:List Addr} (w:Wf Hs H) (r:RM K Hs H m d v As):(m=.sh/\Rep K Hs d v)\/(m≠.sh/\Rep K H d v):=by
 cases m with
 | sh=>exact .inl ⟨rfl,r.2⟩
 | ow fl=>exact .inr ⟨(fun z=>nomatch z),r.rep w⟩
 | bo=>exact .inr ⟨(fun z=>nomatch z),r.2⟩
section
variable {X:Cx} {K:PySem.W.Frag}
theorem Dq:Br2 K (rIxD K) fIx:=by
 intro Hs H m x v As n y u Bs Qd Qv w rx ry h f
 have r2:=ry.rep w
 have core:∀ G:Hp,Same G H->(∀ d v,Rep K G d v->Rep K H d v/\(m=.sh->Rep K Hs d v))->Rep K G x v->rIxD K v u H Qv:=by
  intro G sg up r1
  cases r1 with
  | list z s q =>
   cases r2 with
   | int i =>
    obtain ⟨d,e,h⟩:=h
    obtain ⟨v',e',r'⟩:=q.atI e
    obtain ⟨u1,u2⟩:=up _ _ r'
    exact .inl (.inl ⟨_,v',Same.seq sg s,e',f.itm w u1 u2 h⟩)
   | _=>exact h.elim
  | tup _ s q =>
   cases r2 with
   | int i =>
    obtain ⟨d,e,h⟩:=h
    obtain ⟨v',e',r'⟩:=q.atI e
    obtain ⟨u1,u2⟩:=up _ _ r'
    exact .inl (.inr ⟨_,v',.inl (.inl (sg _ _ s)),e',f.itm w u1 u2 h⟩)
   | _=>exact h.elim
  | str hz =>
   cases r2 with
   | int i =>
    obtain ⟨c,e,h⟩:=h
    exact .inl ⟨hz,c,e,f.sh w (.str (yf c)) h⟩
   | _=>exact h.elim
  | dK kk s q =>
   obtain ⟨k,d,hk,hg,h⟩:=h
   have ev:=r2.key hk
   subst ev
   have z:=zip_get (k:=k) q
   rw [hg] at z
   obtain ⟨v',e',r'⟩:=z
   obtain ⟨u1,u2⟩:=up _ _ r'
   exact .inr ⟨_,v',rfl,by rw [<- e']; exact DGet.k' (Same.rd sg s),f.itm w u1 u2 h⟩
  | dT kk s q =>
   cases r2 with
   | tup t2 e2 q2 =>
    obtain ⟨ks,d,hk,hg,h⟩:=h
    obtain ⟨b,eb,e3⟩:=Rep.keyT (.tup t2 e2 q2) hk
    cases eb
    have z:=zip_get (k:=ks) q
    rw [hg] at z
    obtain ⟨v',e',r'⟩:=z
    obtain ⟨u1,u2⟩:=up _ _ r'
    exact .inr ⟨_,v',rfl,by rw [<- e']; exact DGet.t' (Same.rd sg s) e3,f.itm w u1 u2 h⟩
   | _=>exact h.elim
  | _=>exact h.elim
 rcases rx.here w with ⟨hm,r⟩ | ⟨hm,r⟩
 ·exact core Hs w.sub (fun d v q=>And.intro (q.same w.sub) fun _=>q) r
 ·exact core H (Same.refl H) (fun d v q=>And.intro q fun z=>absurd z hm) r
theorem kIxD (hu:X.A.units+64<cLine) (hK:X.K=K:=by rfl):IxR X (rIxD K):=by
 subst hK
 refine IxR.or CN ?_
 intro value slice pins s σ H x y v u Q I rx ry h hs
 obtain ⟨a,w,rfl,g,q⟩:=h
 cases rx
 exact tail_any (dict_typeIs I g) F.slot_dict_getitem.lookup (d_getItem (by lia) I g ry fun w' s3 I3 rw'=>⟨w,H,I3,rw',q⟩) hs
variable {a b:Expr} {ta tb:WE} {pos:Pos}
theorem q_ix (hu:X.A.units+64<cLine) (ha:QE X K a ta) (hb:QE X K b tb) (hs:PlainIx b:=by exact fun _ _=>rfl) (hK:X.K=K:=by rfl):QE X K (.Subscript a b pos) (wOp fIx ta tb):=PE.imp (pe_ix (kIxD hu hK) ha hb hs) (jU Dq)
end
def cutG {α:Type} (xs:List α) (lo hi:Option Int):List α:=(xs.drop (HT.sIx xs.length 0 lo)).take (HT.sIx xs.length xs.length hi - HT.sIx xs.length 0 lo)
abbrev WO:=Env->(Option Int->Prop)->Prop
def gw:WO:=fun _ Q=>Q none
def lA (t:WE):WO:=fun ρ Q=>t ρ fun _ x=>match x with
 | .int i=>Q (some i)
 | _=>False
def fSl (m:Md) (x:D) (lo hi:Option Int) (Q:Md->D->Prop):Prop:=match x with
 | .str z=>Q .sh (.str (cutS z lo hi))
 | .list xs=>(flats xs=true/\Q (.ow true) (.list (cutG xs lo hi)))\/(m=.sh/\Q (.ow false) (.list (cutG xs lo hi)))
 | .tup xs=>flats xs=true/\¬ (HT.sIx xs.length 0 lo=0/\HT.sIx xs.length xs.length hi=xs.length)/\Q .sh (.tup (cutG xs lo hi))
 | _=>False
def wSl (te:WE) (tl th:WO):WE:=fun ρ Q=>te ρ fun m x=>tl ρ fun lo=>th ρ fun hi=>fSl m x lo hi Q
def tpO (K:PySem.W.Frag) (t:WO):TO:=fun σ H Qv=>∃ Hs ρ tot Q,SRel K Hs ρ σ H tot/\t ρ Q/\∀ o H' Hs',Grow Hs H Hs' H'->Q o->Qv o H'
abbrev QO (X:Cx) (K:PySem.W.Frag) (e:Option Expr) (t:WO):Prop:=PO X e (tpO K t)
theorem wG (z:Str) (lo hi:Option Int):(cutS z lo hi).length<=z.length:=by
 unfold cutS Str.length
 simp only [xau,xax,xbi,xaW]
 lia
theorem dB {α:Type} (xs:List α) (lo hi:Option Int):(cutG xs lo hi).length<=xs.length:=by
 unfold cutG
 rw [xax,xbi]
 lia
theorem ou {xs:List D} {lo hi:Option Int} (h:flats xs=true):flats (cutG xs lo hi)=true:=by
 rw [fu] at *
 intro x hx
 exact h x (xbD (xbE hx))
section
variable {X:Cx} {K:PySem.W.Frag} {e:Expr} {lo hi:Option Expr} {te:WE} {tl th:WO} {pos p2:Pos}
theorem jT:QO X K none gw:=fun pins s σ H Q I h=>po_none pins s σ H Q I (by
 obtain ⟨Hs,ρ,tot,Qd,sr,h,f⟩:=h
 exact f none H Hs (Grow.refl sr.wf) h)
theorem gA (h:QE X K e te):QO X K (some e) (lA te):=fun pins s σ H Q I hh=>po_some h pins s σ H Q I (by
 obtain ⟨Hs,ρ,tot,Qd,sr,h,f⟩:=hh
 refine ⟨Hs,ρ,tot,_,sr,h,fun v H1 Hs1 m x As g1 r1 f1 q1=>?_⟩
 have r:=r1.rep g1.wf
 cases r with
 | int i=>exact ⟨i,rfl,f _ H1 Hs1 g1 q1⟩
 | _=>exact q1.elim)
theorem kO {H:Hp} {ds:List D} {vs:List V} {lo hi:Option Int} (r:Reps K H ds vs):Reps K H (cutG ds lo hi) (cutV vs lo hi):=by
 unfold cutG cutV
 rw [r.length]
 exact (r.drop _).take _
theorem kSl2 (hK:X.K=K:=by rfl):SlR X (fun x lo hi H Q=>rSlS K x lo hi H Q\/rSlT K x lo hi H Q):=by
 subst hK
 intro pins s σ H x v vl vu lo hi sl Q I rx hs pl pu h
 rcases h with h | h
 ·exact BK pins s σ H x v vl vu lo hi sl Q I rx hs pl pu h
 ·exact sl_tup pins s σ H x v vl vu lo hi sl Q I rx hs pl pu h
theorem iK (he:QE X K e te) (hl:QO X K lo tl) (hh:QO X K hi th) (hK:X.K=K:=by rfl):QE X K (.Subscript e (.Slice lo hi none p2) pos) (wSl te tl th):=by
 refine PE.imp (pe_slice (kSl2 hK) he hl hh) fun σ H Qv hx=>ex4 hx fun Hs ρ tot Q sr h f=>?_
 refine ⟨Hs,ρ,tot,_,sr,h,fun v H1 Hs1 m x As g1 r1 f1 q1=>⟨Hs1,ρ,tot,_,sr.grow g1,q1,fun l H2 Hs2 g2 q2=>⟨Hs2,ρ,tot,_,(sr.grow g1).grow g2,q2,fun u H3 Hs3 g3 q3=>?_⟩⟩⟩
 have r3:=(r1.grow g2).grow g3
 have fin:Fin K Hs3 H3 Q Qv:=Fin.after f ((g1.trans g2).trans g3)
 have rr:=r3.rep g3.wf
 cases rr with
 | str hz=>exact .inl ⟨hz,fin.sh g3.wf (.str (xaB (wG _ _ _) hz)) q3⟩
 | list z s q =>
  have hz:=q.length
  rcases q3 with ⟨hf,q3⟩ | ⟨rfl,q3⟩
  ·exact .inl ⟨_,s,fin.lst g3.wf (xaB (dB _ _ _) (by lia)) (kO q) (ou hf) q3⟩
  ·obtain ⟨_,r3⟩:=r3
   cases r3 with
   | list z' s' q' =>
    have hz:=q'.length
    exact .inl ⟨_,Same.seq g3.wf.sub s',fin.lstS g3.wf (xaB (dB _ _ _) (by lia)) (kO q') q3⟩
 | tup z s q =>
  have hz:=q.length
  obtain ⟨hf,hn,q3⟩:=q3
  exact .inr ⟨_,_,rfl,.inl (.inl s),by rw [<- hz]; exact hn,fin.tup g3.wf (xaB (dB _ _ _) (by lia)) (kO q) (ou hf) q3⟩
 | _=>exact q3.elim
end
def fLen:W1:=fun _ x Q=>match x with
 | .str z=>Q .sh (.int z.length)
 | .list xs=>Q .sh (.int xs.length)
 | .tup xs=>Q .sh (.int xs.length)
 | .dK kvs=>Q .sh (.int kvs.length)
 | .dT kvs=>Q .sh (.int kvs.length)
 | _=>False
def fIsi (T:String):W1:=fun _ x Q=>Q .sh (.bl (isiT x.ty T))
def BrC (K:PySem.W.Frag) (r:List V->Hp->VK->Prop) (f:W1):Prop:=∀ Hs H m x v As Qd Qv,Wf Hs H->RM K Hs H m x v As->f m x Qd->Fin K Hs H Qd Qv->r [v] H Qv
section
variable {X:Cx} {K:PySem.W.Frag} {e:Expr} {te:WE} {pos p:Pos} {x:Str} {id T:String}
theorem lH {r:List V->Hp->VK->Prop} {f:W1} (br:BrC K r f) (σ:St) (H:Hp) (Qv:VK) (h:tpE K (wUn f te) σ H Qv):tCB r (tCons (tpE K te) tNil) σ H Qv:=by
 obtain ⟨Hs,ρ,tot,Q,sr,h,fin⟩:=h
 exact ⟨Hs,ρ,tot,_,sr,h,fun v H1 Hs1 m x As g1 r1 f1 q1=>br Hs1 H1 m x v As Q Qv g1.wf r1 q1 (Fin.after fin g1)⟩
theorem d_ {r:List V->Hp->VK->Prop} {f:W1} (hc:CallR X (.builtin id) r) (br:BrC K r f) (hg:Gl X x) (hm:X.mg x=none) (hv:bootBuiltins x=some (.builtin id)) (he:QE X K e te)
  (hs:starEach [e] X.env=(false,eval e X.env) :: starEach [] X.env:=by rfl) (hn:x ≠ "__name__" := by decide) (hdb:(x == ("__debug__" : Str))=false:=by decide):QE X K (.Call (.Name x p) [e] [] pos) (wUn f te) :=
 PE.imp (pe_callB hc hg hm hv (pa_cons he pa_nil hs) hn hdb hs) (lH br)
theorem gP {r:List V->Hp->VK->Prop} {f:W1} (hc:CallR X (.type T) r) (br:BrC K r f) (hg:Gl X x) (hm:X.mg x=none) (hv:bootBuiltins x=some (.type T)) (he:QE X K e te)
  (hs:starEach [e] X.env=(false,eval e X.env) :: starEach [] X.env:=by rfl) (hn:x ≠ "__name__" := by decide) (hdb:(x == ("__debug__" : Str))=false:=by decide):QE X K (.Call (.Name x p) [e] [] pos) (wUn f te) :=
 PE.imp (pe_callTy hc hg hm hv (pa_cons he pa_nil hs) hn hdb hs) (lH br)
theorem yg {prog:Program} {w:World} {A:Around} {E:Value->Shared->Prop} {s:Shared} {d:Addr} {es:Ents} {ep:Nat} {Q:Value->Shared->Prop} (hd:(d == sysModules)=false) (x:RawD s.heap d es ep) (hfit:(es.size:Int)<2 ^ 63)
  (h:∀ t t',Q (.int es.size t) { s with toks:=t' }):wpAny (model prog w) A (call (.builtin "len") [.ref d]) Q E s:=by
 refine Calls.call_function_entry kind_len plain_len entry_len (args_len1 _) ?_
 have mt:MeetsIn prog w (Builtin.«dict.__len__» ⟨[.ref d],[]⟩) (fun _ R s=>RawD s.heap d es ep/\R (.ok (.ret (.int es.size s.toks))) { s with toks:=s.toks+1 }):=.of_wp fun A R s hx9=>by
  obtain ⟨hm,h⟩:=hx9
  obtain ⟨o,ho,hc,hdat⟩:=hm
  show wpAny _ _ (dictSize d >>= _) _ _ s
  unfold dictSize
  refine xaa (xaa (wpAny_dictEntries ho hdat (xaf ?_)))
  show wpAny _ _ (Builtin.Dict.pendingCount d >>= _) _ _ s
  refine xaa (wpAny_pendingCount_other hd ?_)
  refine wpAny_ret_mkInt ?_
  rw [xcu]; exact h
 unfold Builtin.«len»
 refine xaa (m:=oneArg "len" _) (xaf ?_)
 refine xaa (m:=callSpecial? (.ref d) (Str.ofString "__len__")) (wpAny_callSpecial?_slot (name:=Str.ofString "__len__") x.typ F.slot_dict_len
  (call_meetsIn F.slot_dict_len x.typ F.entry_dict_len (F.args_dict_len_1 _) mt ⟨x,?_⟩))
 show wpAny _ _ _ _ _ { s with toks:=s.toks+1 }
 refine xaa (wpAny_holding (xaf ?_))
 refine xaa (wpAny_letGo ?_)
 show wpAny _ _ (if ((es.size:Nat):Int)<0 then _ else _) _ _ _
 rw [if_neg (by lia)]
 show wpAny _ _ (if ((es.size:Nat):Int) >= 2 ^ 63 then _ else _) _ _ _
 rw [if_neg (by lia)]
 exact xaa (wpAny_mkInt (xaf ⟨_,rfl,h _ _⟩))
theorem fO (hK:X.K=K:=by rfl):CallR X (.builtin "len") (fun xs H Q=>rLen K xs H Q\/∃ a kvs,xs=[.ref a]/\Rd H a (.dT kvs)/\Q (.int kvs.length) H):=by
 subst hK
 intro pins s σ H xs us Q I r h
 rcases h with h | ⟨a,kvs,rfl,ha,q⟩
 ·exact sX pins s σ H xs us Q I r h
 ·obtain ⟨u,rfl,ru⟩:=Vals.one r
  cases ru
  obtain ⟨z,hd,ys,rel,o,es,ep,h1,h2,h3,h4,h5⟩:=(show ObjOk X.prog X.w H s.heap a (.dT kvs) from I.rd ha)
  have hl:es.size=kvs.length:=by
   have:=congrArg List.length h4
   rw [xaW,xab] at this
   rw [this]; exact rel.length.symm
  exact yg hd ⟨o,h1,h2,h3⟩ (by rw [sizeLine_eq] at z; lia) fun t t'=>⟨.int kvs.length,H,I.tok _,⟨t,by rw [hl]⟩,q⟩
theorem qx:BrC K (fun xs H Q=>rLen K xs H Q\/∃ a kvs,xs=[.ref a]/\Rd H a (.dT kvs)/\Q (.int kvs.length) H) fLen:=by
 intro Hs H m x v As Qd Qv w rx h f
 have r1:=rx.rep w
 cases r1 with
 | str hz=>exact .inl ⟨hz,f.sh w (.int _) h⟩
 | list z s q=>exact .inl (.inl ⟨_,s,by rw [<- q.length]; exact f.sh w (.int _) h⟩)
 | tup _ s q=>exact .inl (.inr (.inl ⟨_,.inl (.inl s),by rw [<- q.length]; exact f.sh w (.int _) h⟩))
 | dK kk s q=>exact .inl (.inr (.inr ⟨_,s,by
   have:=q.length
   rw [xab] at this
   rw [xbS,xab,<- this,xcj]
   exact f.sh w (.int _) h⟩))
 | dT kk s q=>exact .inr ⟨_,_,rfl,s,by
   have:=q.length
   rw [xab] at this
   rw [xbS,xab,<- this,xcj]
   exact f.sh w (.int _) h⟩
 | _=>exact h.elim
end
section
variable {X:Cx} {K:PySem.W.Frag} {e e2:Expr} {te:WE} {pos p:Pos} {T:String}
theorem ue (hK:X.K=K:=by rfl):CallR X (.builtin "isinstance") (fun xs H Q=>∃ x d T,xs=[x,.ty T]/\Rep K H d x/\okTy T=true/\Q (.bl (isiT d.ty T)) H):=by
 subst hK
 intro pins s σ H xs us Q I r h
 obtain ⟨x,d,T,rfl,rd,hT,q⟩:=h
 obtain ⟨u,v,rfl,ru,rv⟩:=Vals.two r
 obtain rfl:v=Value.type T:=rv
 have hb:T∈["str", "int", "bool", "list", "tuple", "dict"]:=by simpa [okTy] using hT
 have fin:∀ tk,EP X pins σ Q (.bool (isiT d.ty T)) { s with toks:=tk }:=fun tk=>⟨.bl (isiT d.ty T),H,I.tok tk,rfl,q⟩
 cases rd with
 | non=>exact isinst_ok I ru .non (iV X.K _ T (by simp) hb) fin
 | bl b=>exact isinst_ok I ru (.bl b) (iV X.K _ T (by simp) hb) fin
 | int i=>exact isinst_ok I ru (.int i) (iV X.K _ T (by simp) hb) fin
 | str y=>exact isinst_ok I ru (.str _) (iV X.K _ T (by simp) hb) fin
 | list z s' q' =>
  cases ru
  obtain ⟨its,_,pl,_⟩:=I.list s'
  obtain ⟨o,h1,h2,_⟩:=pl.isList
  exact PySem.W.kia_one PySem.W.kitx_list I.kIn ⟨o,h1,h2⟩ (iV X.K "list" T (by simp) hb) (fun z=>nomatch z) fin
 | tup _ s' q'=>exact isinst_ok I ru (.tup s') (iV X.K _ T (by simp) hb) fin
 | dK _ s' q' =>
  cases ru
  obtain ⟨_,_,vs,_,p⟩:=I.rd s'
  obtain ⟨o,es,ep,h1,h2,_⟩:=p
  exact PySem.W.kia_one PySem.W.kitx_dict I.kIn ⟨o,h1,h2.1⟩ (iV X.K "dict" T (by simp) hb) (fun z=>nomatch z) fin
 | dT _ s' q' =>
  cases ru
  obtain ⟨_,_,xs,_,o,es,ep,h1,h2,_⟩:=I.rd s'
  exact PySem.W.kia_one PySem.W.kitx_dict I.kIn ⟨o,h1,h2.1⟩ (iV X.K "dict" T (by simp) hb) (fun z=>nomatch z) fin
theorem Ed (hm:X.mg "isinstance" = none) (he:QE X K e te) (ht:PE X e2 (tC (.ty T))) (hT:okTy T=true:=by rfl) (hg:Gl X "isinstance" := by rfl) (hK:X.K=K:=by rfl)
  (hs:starEach (e :: [e2]) X.env=(false,eval e X.env) :: starEach [e2] X.env:=by rfl) (hs2:starEach (e2 :: []) X.env=(false,eval e2 X.env) :: starEach [] X.env:=by rfl) (hpl:(backTo pos (starEach [e2] X.env)).any (·.1)=false:=by rfl) :
  QE X K (.Call (.Name "isinstance" p) [e,e2] [] pos) (wUn (fIsi T) te):=by
 refine PE.imp (pe_callB (ue hK) hg hm g8 (pa_cons he (pa_cons ht pa_nil hs2) hs) (by decide) (by decide) hs hpl) fun σ H Qv hx=>ex4 hx fun Hs ρ tot Q sr h f=>?_
 refine ⟨Hs,ρ,tot,_,sr,h,fun v H1 Hs1 m x As g1 r1 f1 q1=>⟨v,x,T,rfl,r1.rep g1.wf,hT,Fin.sh (Fin.after f g1) g1.wf (.bl _) q1⟩⟩
end
def keyD:Key->D
 | .inl i=>.int i
 | .inr x=>.str x
def nR:W1:=fun m x Q=>match x with
 | .list xs=>(flats xs=true/\Q (.ow true) (.list xs))\/(m=.sh/\Q (.ow false) (.list xs))
 | .tup xs=>(flats xs=true/\Q (.ow true) (.list xs))\/(m=.sh/\Q (.ow false) (.list xs))
 | .dT kvs=>Q (.ow true) (.list (kvs.map fun kv=>.tup (kv.1.map keyD)))
 | _=>False
section
variable {X:Cx} {K:PySem.W.Frag}
theorem m9 {H:Hp}:∀ {ks:List Key},(∀ k∈ks,kOk k=true)->Reps K H (ks.map keyD) (ks.map kV)
 | [],_=>.nil
 | k :: ks,h=>by
  refine .cons ?_ (m9 fun j m=>h j (xac _ m))
  have:=h k xad
  cases k with
  | inl i=>exact .int i
  | inr x=>exact .str (by simpa [kOk] using this)
theorem oV:∀ (ks:List Key),flats (ks.map keyD)=true
 | []=>rfl
 | k :: ks=>by simp only [xas,flats,oV ks,Bool.and_true]; cases k <;> rfl
theorem mq {H:Hp} {ks:List (List Key)} {ys:List V} (t:cT H ys ks) (h:∀ l∈ks,l.length<=sizeLine/\∀ k∈l,kOk k=true):Reps K H (ks.map fun l=>.tup (l.map keyD)) ys:=by
 induction ys generalizing ks with
 | nil=>rw [show ks=[] from Paired.n0 t]; exact .nil
 | cons y ys ih =>
  obtain ⟨k,ks,rfl,⟨b,rfl,e⟩,t2⟩:=Paired.c t
  exact .cons (.tup (by rw [xab]; exact (h _ xad).1) e (m9 (h _ xad).2)) (ih t2 fun l m=>h l (xac _ m))
theorem gO:∀ (ks:List (List Key)),flats (ks.map fun l=>.tup (l.map keyD))=true
 | []=>rfl
 | l :: ks=>by simp only [xas,flats,gO ks,Bool.and_true,D.flat,oV]
theorem fJ (hc:X.calm=true:=by rfl) (hK:X.K=K:=by rfl):CallR X (.type "list") (fun xs H Q=>(∃ p ys,xs=[.ref p]/\(SqL K H p ys\/SqT K H p ys)/\∀ l,H l=none->Q (.ref l) (upd H l (.lst ys)))\/rB xs H Q):=by
 subst hK; exact call_list_of.or (rO hc)
theorem mV:BrC K (fun xs H Q=>(∃ p ys,xs=[.ref p]/\(SqL K H p ys\/SqT K H p ys)/\∀ l,H l=none->Q (.ref l) (upd H l (.lst ys)))\/rB xs H Q) nR:=by
 intro Hs H m x v As Qd Qv w rx h f
 have r1:=rx.rep w
 cases r1 with
 | list z s q =>
  have hl:=q.length
  rcases h with ⟨hf,h⟩ | ⟨rfl,h⟩
  ·exact .inl ⟨_,_,rfl,.inl s,f.lst w (by lia) q hf h⟩
  ·obtain ⟨_,rx⟩:=rx
   cases rx with
   | list z' s' q' =>
    have hl:=q'.length
    exact .inl ⟨_,_,rfl,.inl (Same.seq w.sub s'),f.lstS w (by lia) q' h⟩
 | tup z s q =>
  have hl:=q.length
  rcases h with ⟨hf,h⟩ | ⟨rfl,h⟩
  ·exact .inl ⟨_,_,rfl,.inr (.inl (.inl s)),f.lst w (by lia) q hf h⟩
  ·obtain ⟨_,rx⟩:=rx
   cases rx with
   | tup z' s' q' =>
    have hl:=q'.length
    exact .inl ⟨_,_,rfl,.inr (.inl (.inl (w.sub _ _ s'))),f.lstS w (by lia) q' h⟩
 | @dT _ vs kvs kk s q =>
  refine .inr ⟨_,s,fun ys l ht hl=>?_⟩
  have hlen:=q.length
  rw [xab] at hlen
  have e:((kvs.map (·.1)).zip vs).map (·.1)=kvs.map (·.1):=xbG (by rw [xab]; exact xbK hlen)
  rw [e] at ht
  have rr:=mq (K:=K) ht (fun l m=>by
   obtain ⟨p,hp,rfl⟩:=xao.mp m
   exact kk.2 p hp)
  have ff:=gO (kvs.map (·.1))
  rw [xaz] at rr ff
  exact f.lst w (by rw [xab]; exact kk.1) rr ff h l hl
 | _=>exact h.elim
end
section
variable {K:PySem.W.Frag} {Hs H:Hp}
theorem SR.xx {d:D} {v:V} (r:Rep K Hs d v) {ρ:Env} {σ:St} {tot:List Addr} (i:Nat) (s:SR K Hs H ρ σ tot):∃ tot',tot'.Sublist tot/\SR K Hs H (ρ.set i (some (.sh d))) (σ.set i (some v)) tot':=by
 induction s generalizing i with
 | nil=>exact ⟨[],xbq _,.nil⟩
 | non s ih =>
  cases i with
  | zero=>exact ⟨_,List.Sublist.refl _,.sh r s⟩
  | succ i=>obtain ⟨t,a,b⟩:=ih i; exact ⟨t,a,.non b⟩
 | sh q s ih =>
  cases i with
  | zero=>exact ⟨_,List.Sublist.refl _,.sh r s⟩
  | succ i=>obtain ⟨t,a,b⟩:=ih i; exact ⟨t,a,.sh q b⟩
 | xc s ih =>
  cases i with
  | zero=>exact ⟨_,List.Sublist.refl _,.sh r s⟩
  | succ i=>obtain ⟨t,a,b⟩:=ih i; exact ⟨t,a,.xc b⟩
 | ow ne q s ih =>
  cases i with
  | zero=>exact ⟨_,xar _ _,.sh r s⟩
  | succ i=>obtain ⟨t,a,b⟩:=ih i; exact ⟨_,a.append_left _,.ow ne q b⟩
 | lk ne q s ih =>
  cases i with
  | zero=>exact ⟨_,xar _ _,.sh r s⟩
  | succ i=>obtain ⟨t,a,b⟩:=ih i; exact ⟨_,a.append_left _,.lk ne q b⟩
theorem nT {As tot:List Addr} (nd:As.Nodup) (n:tot.Nodup) (dj:∀ a∈As,a∉tot):(As++tot).Nodup:=xam.mpr ⟨nd,n,fun a ha b hb e=>dj a ha (e ▸ hb)⟩
theorem fH {As tot B t:List Addr} (n:(B++tot).Nodup) (dj:∀ a∈As,a∉B++tot) (a:t.Nodup) (b:∀ x∈t,x∈tot\/x∈As):(B++t).Nodup/\∀ x∈B++t,x∈B++tot\/x∈As:=by
 obtain ⟨n1,n2,n3⟩:=xam.mp n
 refine ⟨xam.mpr ⟨n1,a,fun x hx y hy e=>?_⟩,fun x hx=>?_⟩
 ·subst e
  rcases b x hy with z | z
  ·exact n3 x hx x z rfl
  ·exact dj x z (xai _ hx)
 ·rcases xah.mp hx with z | z
  ·exact .inl (xai _ z)
  ·exact (b x z).imp (fun z=>xae _ z) fun z=>z
theorem SR.tG {d:D} {v:V} {fl:Bool} {As:List Addr} (ne:As≠[]) (r:RepO K Hs H fl d v As) (nd:As.Nodup) {ρ:Env} {σ:St} {tot:List Addr} (i:Nat) (s:SR K Hs H ρ σ tot):tot.Nodup->(∀ a∈As,a∉tot) ->
  ∃ tot',tot'.Nodup/\(∀ a∈tot',a∈tot\/a∈As)/\SR K Hs H (ρ.set i (some (.ow fl d))) (σ.set i (some v)) tot':=by
 induction s generalizing i with
 | nil=>exact fun n _=>⟨[],xaO,(fun a h=>mem0 h),.nil⟩
 | non s ih =>
  intro n dj
  cases i with
  | zero=>exact ⟨_,nT nd n dj,fun a h=>(xah.mp h).symm,.ow ne r s⟩
  | succ i=>obtain ⟨t,a,b,c⟩:=ih i n dj; exact ⟨t,a,b,.non c⟩
 | sh q s ih =>
  intro n dj
  cases i with
  | zero=>exact ⟨_,nT nd n dj,fun a h=>(xah.mp h).symm,.ow ne r s⟩
  | succ i=>obtain ⟨t,a,b,c⟩:=ih i n dj; exact ⟨t,a,b,.sh q c⟩
 | xc s ih =>
  intro n dj
  cases i with
  | zero=>exact ⟨_,nT nd n dj,fun a h=>(xah.mp h).symm,.ow ne r s⟩
  | succ i=>obtain ⟨t,a,b,c⟩:=ih i n dj; exact ⟨t,a,b,.xc c⟩
 | ow ne' q s ih =>
  intro n dj
  obtain ⟨n1,n2,n3⟩:=xam.mp n
  have dj':=fun a ha m=>dj a ha (xae _ m)
  cases i with
  | zero=>exact ⟨_,nT nd n2 dj',fun a h=>(xah.mp h).symm.imp (fun z=>xae _ z) fun z=>z,.ow ne r s⟩
  | succ i=>obtain ⟨t,a,b,c⟩:=ih i n2 dj'; exact ⟨_,(fH n dj a b).1,(fH n dj a b).2,.ow ne' q c⟩
 | lk ne' q s ih =>
  intro n dj
  obtain ⟨n1,n2,n3⟩:=xam.mp n
  have dj':=fun a ha m=>dj a ha (xae _ m)
  cases i with
  | zero=>exact ⟨_,nT nd n2 dj',fun a h=>(xah.mp h).symm.imp (fun z=>xae _ z) fun z=>z,.ow ne r s⟩
  | succ i=>obtain ⟨t,a,b,c⟩:=ih i n2 dj'; exact ⟨_,(fH n dj a b).1,(fH n dj a b).2,.lk ne' q c⟩
def asg:Md->D->Option Sl
 | .sh,d=>some (.sh d)
 | .ow fl,d=>some (.ow fl d)
 | .bo,d=>bif d.flat then some (.sh d) else none
theorem SRel.set {ρ:Env} {σ:St} {tot As:List Addr} {m:Md} {d:D} {v:V} {sl:Sl} (i:Nat) (s:SRel K Hs ρ σ H tot) (r:RM K Hs H m d v As) (nd:As.Nodup) (dj:∀ a∈As,Hs a=none/\a∉tot) (e:asg m d=some sl) :
  ∃ tot',SRel K Hs (ρ.set i (some sl)) (σ.set i (some v)) H tot':=by
 have shc:Rep K Hs d v->∃ tot',SRel K Hs (ρ.set i (some (.sh d))) (σ.set i (some v)) H tot':=fun r=>by
  obtain ⟨t,a,b⟩:=s.sr.xx r i
  exact ⟨t,b,s.wf,a.nodup s.nod,fun x hx=>s.own x (a.subset hx)⟩
 cases m with
 | sh=>cases e; exact shc r.2
 | ow fl =>
  cases e
  obtain ⟨t,a,b,c⟩:=SR.tG r.2 r.1 nd i s.sr s.nod fun a ha=>(dj a ha).2
  exact ⟨t,c,s.wf,a,fun x hx=>(b x hx).elim (s.own x) fun z=>(dj x z).1⟩
 | bo =>
  cases hf:d.flat with
  | true =>
   simp only [asg,hf,cond_true,Option.some.injEq] at e
   subst e
   exact shc (r.flat s.wf hf)
  | false=>simp [asg,hf] at e
end
section
variable {X:Cx} {K:PySem.W.Frag} {e c:Expr} {te:WE} {tc:WT} {pos:Pos} {st:Stmt} {a b rest:List Stmt} {t u:WS}
theorem PS.imp {te te':TS} (h:PS X st te) (i:∀ D σ H,te' D σ H->te D σ H):PS X st te':=fun pins s σ H D I q=>h pins s σ H D I (i D σ H q)
theorem PSs.imp {te te':TS} (h:PSs X a te) (i:∀ D σ H,te' D σ H->te D σ H):PSs X a te':=fun pins s σ H D I q=>h pins s σ H D I (i D σ H q)
def eU:WS:=fun E ρ=>E.nx ρ
def wSeq (t u:WS):WS:=fun E ρ=>t { E with nx:=u E } ρ
def wRet (te:WE):WS:=fun E ρ=>te ρ E.rt
def wSet (i:Nat) (te:WE):WS:=fun E ρ=>te ρ fun m d=>match asg m d with
 | some sl=>E.nx (ρ.set i (some sl))
 | none=>False
def wIfS (c:WT) (t u:WS):WS:=fun E ρ=>c ρ fun b=>if b=true then t E ρ else u E ρ
theorem bO:QSs X K L [] eU:=PSs.imp pss_nil fun D σ H hx=>gj hx fun Hs ρ tot E sr h k1 _ _ _=>k1 σ H Hs ρ tot (Same.refl _) sr h
theorem vY {D:Ends} {σ:St} {H:Hp} (h:tpS K L (wSeq t u) D σ H):tSeq (tpS K L t) (tpS K L u) D σ H:=by
 obtain ⟨Hs,ρ,tot,E,sr,h,k1,k2,k3,k4,kx⟩:=h
 refine ⟨Hs,ρ,tot,{ E with nx:=u E },sr,h,fun σ' H' Hs' ρ' tot' s sr' q=>?_,k2,k3,k4,kx⟩
 exact ⟨Hs',ρ',tot',E,sr',q,fun σ2 H2 Hs2 ρ2 tot2 s2=>k1 σ2 H2 Hs2 ρ2 tot2 (s.trans s2),fun σ2 H2 Hs2 ρ2 tot2 s2=>k2 σ2 H2 Hs2 ρ2 tot2 (s.trans s2),fun σ2 H2 Hs2 ρ2 tot2 s2=>k3 σ2 H2 Hs2 ρ2 tot2 (s.trans s2),
  fun v H2 Hs2 m d As s2=>k4 v H2 Hs2 m d As (s.trans s2),fun n H2 s2=>kx n H2 (s.trans s2)⟩
theorem ak (h1:QS X K L st t) (h2:QSs X K L rest u):QSs X K L (st :: rest) (wSeq t u):=PSs.imp (pss_cons h1 h2) fun D σ H h=>vY h
theorem au (h1:QS X K L st t):QSs X K L [st] t:=pss_one h1
theorem cz (he:QE X K e te):QS X K L (.Return (some e) pos) (wRet te):=PS.imp (ps_ret he) fun D σ H hx=>gj hx fun Hs ρ tot E sr h k1 k2 k3 k4 =>
 ⟨Hs,ρ,tot,_,sr,h,fun v H1 Hs1 m d As g1 r1 f1 q1=>k4 v H1 Hs1 m d As g1.sh g1.wf r1 f1.1 (fun a ha=>(f1.2 a ha).1) q1⟩
def rT (i:Nat):WS:=fun E ρ=>match ρ[i]? with
 | some (some (.sh d))=>E.rt .sh d
 | some (some (.ow fl d))=>E.rt (.ow fl) d
 | _=>False
theorem SR.at {ρ:Env} {σ:St} {tot:List Addr} {i:Nat} {fl:Bool} {d:D} {Hs H:Hp} (s:SR K Hs H ρ σ tot) (e:ρ[i]? = some (some (.ow fl d))):∃ v As,σ[i]? = some (some v)/\As≠[]/\RepO K Hs H fl d v As/\As.Sublist tot:=by
 induction s generalizing i with
 | nil=>simp at e
 | non s ih =>
  cases i with
  | zero=>simp at e
  | succ i=>exact ih e
 | sh r s ih =>
  cases i with
  | zero=>simp at e
  | succ i=>exact ih e
 | xc s ih =>
  cases i with
  | zero=>simp at e
  | succ i=>exact ih e
 | ow ne r s ih =>
  cases i with
  | zero=>simp at e; obtain ⟨rfl,rfl⟩:=e; exact ⟨_,_,rfl,ne,r,xa8 _ _⟩
  | succ i =>
   obtain ⟨v,As,a,b,c,d⟩:=ih e
   exact ⟨v,As,a,b,c,d.trans (xar _ _)⟩
 | lk ne r s ih =>
  cases i with
  | zero=>simp at e
  | succ i =>
   obtain ⟨v,As,a,b,c,d⟩:=ih e
   exact ⟨v,As,a,b,c,d.trans (xar _ _)⟩
theorem p_ {i:Nat} (he:PE X e (tVar i)):QS X K L (.Return (some e) pos) (rT i):=PS.imp (ps_ret he) fun D σ H hx=>gj hx fun Hs ρ tot E sr h k1 k2 k3 k4=>by
 unfold rT at h
 split at h
 ·rename_i d e1
  obtain ⟨v,e2,r⟩:=sr.sr.get e1
  exact ⟨v,e2,k4 v H Hs .sh d [] (Same.refl _) sr.wf ⟨rfl,r⟩ xaO (fun a ha=>nomatch ha) h⟩
 ·rename_i fl d e1
  obtain ⟨v,As,e2,ne,r,sb⟩:=sr.sr.at e1
  exact ⟨v,e2,k4 v H Hs (.ow fl) d As (Same.refl _) sr.wf ⟨r,ne⟩ (sb.nodup sr.nod) (fun a ha=>sr.own a (sb.subset ha)) h⟩
 ·exact h.elim
theorem aG {i:Nat} {x:Str} {pos':Pos} (hN:X.N.Nodup) (hi:X.N[i]? = some x) (hx:Loc X.env.scope x) (he:QE X K e te) (hs:swapsWith e (some (.Name x pos')) pos.line X.env=pure false:=by rfl)
  (hf:X.fn x=true\/X.env.scope.names.lookup x=some .local:=by first | exact .inl rfl | exact .inr rfl | assumption):QS X K L (.Assign [.Name x pos'] e pos) (wSet i te):=PS.imp (ps_set hN hi hx he hs hf) fun D σ H hx=>gj hx fun Hs ρ tot E sr h k1 k2 k3 k4=>by
 refine ⟨Hs,ρ,tot,_,sr,h,fun v H1 Hs1 m d As g1 r1 f1 q1=>?_⟩
 have q1:match asg m d with
  | some sl=>E.nx (ρ.set i (some sl))
  | none=>False:=q1
 cases e:asg m d with
 | none=>rw [e] at q1; exact q1.elim
 | some sl =>
  rw [e] at q1
  obtain ⟨tot',s'⟩:=(sr.grow g1).set i r1 f1.1 (fun a ha=>⟨(f1.2 a ha).1,fun m=>(sr.sr.own a m).ne (f1.2 a ha).2⟩) e
  exact k1 _ H1 Hs1 _ tot' g1.sh s' q1
theorem fW (hc:QT X K c tc) (ha:QSs X K L a t) (hb:QSs X K L b u):QS X K L (.If c a b pos) (wIfS tc t u):=PS.imp (ps_if hc ha hb) fun D σ H hx=>gB hx fun Hs ρ tot E sr h k1 k2 k3 k4 kx=>by
 refine ⟨Hs,ρ,tot,_,sr,h,fun k H1 Hs1 g1 q1=>?_⟩
 have k1':∀ σ' H' Hs' ρ' tot',Same Hs1 Hs'->SRel K Hs' ρ' σ' H' tot'->E.nx ρ'->D.nx σ' H':=fun σ2 H2 Hs2 ρ2 tot2 s2=>k1 σ2 H2 Hs2 ρ2 tot2 (g1.sh.trans s2)
 have k2':∀ σ' H' Hs' ρ' tot',Same Hs1 Hs'->SRel K Hs' ρ' σ' H' tot'->E.bk ρ'->D.bk σ' H':=fun σ2 H2 Hs2 ρ2 tot2 s2=>k2 σ2 H2 Hs2 ρ2 tot2 (g1.sh.trans s2)
 have k3':∀ σ' H' Hs' ρ' tot',Same Hs1 Hs'->SRel K Hs' ρ' σ' H' tot'->E.ct ρ'->D.ct σ' H':=fun σ2 H2 Hs2 ρ2 tot2 s2=>k3 σ2 H2 Hs2 ρ2 tot2 (g1.sh.trans s2)
 cases k with
 | true=>exact ⟨Hs1,ρ,tot,E,sr.grow g1,q1,k1',k2',k3',(fun v H2 Hs2 m d As s2=>k4 v H2 Hs2 m d As (g1.sh.trans s2)),fun n H2 s2=>kx n H2 (g1.sh.trans s2)⟩
 | false=>exact ⟨Hs1,ρ,tot,E,sr.grow g1,q1,k1',k2',k3',(fun v H2 Hs2 m d As s2=>k4 v H2 Hs2 m d As (g1.sh.trans s2)),fun n H2 s2=>kx n H2 (g1.sh.trans s2)⟩
def frzH (Hs H:Hp) (As:List Addr):Hp:=fun a=>if a∈As then H a else Hs a
theorem gW {Hs H:Hp} {As:List Addr} (n:∀ a∈As,Hs a=none):Same Hs (frzH Hs H As):=fun a o e=>by
 unfold frzH
 rw [if_neg fun m=>by rw [n a m] at e; cases e]
 exact e
theorem tR {Hs H:Hp} {As:List Addr} (w:Wf Hs H) (o:∀ a∈As,Own H a):Wf (frzH Hs H As) H:=⟨fun a u e=>by
  unfold frzH at e
  by_cases m:a∈As
  ·rw [if_pos m] at e; exact e
  ·rw [if_neg m] at e; exact w.sub a u e,fun a vs e=>by
  unfold frzH
  rw [if_neg fun m=>(o a m).xT e]
  exact w.tups a vs e⟩
def shS:Sl->Sl
 | .sh d=>.sh d
 | .ow _ d=>.sh d
 | .lk a fl d=>.lk a fl d
 | .xc a=>.xc a
def shC:Sl->Sl
 | .sh d=>.sh d
 | .ow _ d=>.sh d
 | .lk _ _ d=>.sh d
 | .xc a=>.xc a
def frzE (i:Nat) (ρ:Env):Env:=match ρ[i]? with
 | some (some sl)=>ρ.set i (some (shS sl))
 | _=>ρ
theorem nG {As tot B t:List Addr} (n:(B++tot).Nodup) (a:As.Sublist tot) (c:∀ x∈As,x∉t):∀ x∈As,x∉B++t:=fun x hx m=>by
 obtain ⟨n1,n2,n3⟩:=xam.mp n
 rcases xah.mp m with z | z
 ·exact n3 x z x (a.subset hx) rfl
 ·exact c x hx z
theorem SR.frz {Hs H:Hp} {ρ:Env} {σ:St} {tot:List Addr} (i:Nat) {fl:Bool} {d:D} (s:SR K Hs H ρ σ tot):ρ[i]? = some (some (.ow fl d))->tot.Nodup ->
  ∃ (As tot':List Addr),As.Sublist tot/\tot'.Sublist tot/\(∀ a∈As,a∉tot')/\∀ Hs',Same Hs Hs'->(∀ a∈As,Hs' a=H a)->SR K Hs' H (ρ.set i (some (.sh d))) σ tot':=by
 induction s generalizing i with
 | nil=>intro e; simp at e
 | non q ih =>
  intro e n
  cases i with
  | zero=>simp at e
  | succ i =>
   obtain ⟨As,t,a,b,c,d⟩:=ih i e n
   exact ⟨As,t,a,b,c,fun Hs' s k=>.non (d Hs' s k)⟩
 | sh r q ih =>
  intro e n
  cases i with
  | zero=>simp at e
  | succ i =>
   obtain ⟨As,t,a,b,c,d⟩:=ih i e n
   exact ⟨As,t,a,b,c,fun Hs' s k=>.sh (r.same s) (d Hs' s k)⟩
 | xc q ih =>
  intro e n
  cases i with
  | zero=>simp at e
  | succ i =>
   obtain ⟨As,t,a,b,c,d⟩:=ih i e n
   exact ⟨As,t,a,b,c,fun Hs' s k=>.xc (d Hs' s k)⟩
 | ow ne r q ih =>
  intro e n
  obtain ⟨n1,n2,n3⟩:=xam.mp n
  cases i with
  | zero =>
   simp at e
   obtain ⟨rfl,rfl⟩:=e
   exact ⟨_,_,xa8 _ _,xar _ _,fun a h m=>n3 a h a m rfl,fun Hs' s k=>.sh (r.rep s k) (q.stay s fun _ _=>rfl)⟩
  | succ i =>
   obtain ⟨As,t,a,b,c,d⟩:=ih i e n2
   exact ⟨As,_,a.trans (xar _ _),b.append_left _,nG n a c,fun Hs' s k=>.ow ne (r.stay s fun _ _=>rfl) (d Hs' s k)⟩
 | lk ne r q ih =>
  intro e n
  obtain ⟨n1,n2,n3⟩:=xam.mp n
  cases i with
  | zero=>simp at e
  | succ i =>
   obtain ⟨As,t,a,b,c,d⟩:=ih i e n2
   exact ⟨As,_,a.trans (xar _ _),b.append_left _,nG n a c,fun Hs' s k=>.lk ne (r.stay s fun _ _=>rfl) (d Hs' s k)⟩
theorem SRel.frz {ρ:Env} {σ:St} {tot:List Addr} {Hs H:Hp} (i:Nat) (s:SRel K Hs ρ σ H tot):∃ Hs' tot',Same Hs Hs'/\SRel K Hs' (frzE i ρ) σ H tot':=by
 unfold frzE
 split
 ·rename_i sl e
  have keep:shS sl=sl->∃ Hs' tot',Same Hs Hs'/\SRel K Hs' (ρ.set i (some (shS sl))) σ H tot':=fun hs=>by
   have e2:ρ.set i (some (shS sl))=ρ:=by
    apply xbA
    intro j
    rw [xcq]
    by_cases h:i=j
    ·subst h
     rw [if_pos rfl,e]
     have:i<ρ.length:=(xan.mp e).1
     simp [this,hs]
    ·rw [if_neg h]
   rw [e2]
   exact ⟨Hs,tot,Same.refl _,s⟩
  cases sl with
  | sh d=>exact keep rfl
  | xc a=>exact keep rfl
  | lk a fl d=>exact keep rfl
  | ow fl d =>
   obtain ⟨As,t,a,b,c,g⟩:=SR.frz i s.sr e s.nod
   have hn:∀ a∈As,Hs a=none:=fun x hx=>s.own x (a.subset hx)
   have ho:∀ a∈As,Own H a:=fun x hx=>s.sr.own x (a.subset hx)
   refine ⟨frzH Hs H As,t,gW hn,g _ (gW hn) fun x hx=>by unfold frzH; rw [if_pos hx],tR s.wf ho,b.nodup s.nod,fun x hx=>?_⟩
   unfold frzH
   rw [if_neg fun m=>c x m hx]
   exact s.own x (b.subset hx)
 ·exact ⟨Hs,tot,Same.refl _,s⟩
def wFrz (i:Nat) (t:WS):WS:=fun E ρ=>t E (frzE i ρ)
theorem vZ {i:Nat} {D:Ends} {σ:St} {H:Hp} (h:tpS K L (wFrz i t) D σ H):tpS K L t D σ H:=by
 obtain ⟨Hs,ρ,tot,E,sr,h,k1,k2,k3,k4,kx⟩:=h
 obtain ⟨Hs',tot',s,sr'⟩:=sr.frz i
 exact ⟨Hs',_,tot',E,sr',h,fun σ2 H2 Hs2 ρ2 tot2 s2=>k1 σ2 H2 Hs2 ρ2 tot2 (s.trans s2),fun σ2 H2 Hs2 ρ2 tot2 s2=>k2 σ2 H2 Hs2 ρ2 tot2 (s.trans s2),fun σ2 H2 Hs2 ρ2 tot2 s2=>k3 σ2 H2 Hs2 ρ2 tot2 (s.trans s2),
  fun v H2 Hs2 m d As s2=>k4 v H2 Hs2 m d As (s.trans s2),fun n H2 s2=>kx n H2 (s.trans s2)⟩
theorem aO (i:Nat) (h:QS X K L st t):QS X K L st (wFrz i t):=PS.imp h fun D σ H h=>vZ h
def jr (Hs1 H1 Hs' H':Hp):Hp:=fun a=>match H' a with
 | some (.tup vs)=>some (.tup vs)
 | _=>match H1 a with
  | none=>Hs' a
  | some _=>Hs1 a
theorem ie {Hs1 H1 Hs' H':Hp} (w:Wf Hs1 H1) (s:Same H1 Hs') (w':Wf Hs' H'):Grow Hs1 H1 (jr Hs1 H1 Hs' H') H':=by
 have sa:Same H1 H':=s.trans w'.sub
 have tp:∀ a vs,H' a=some (.tup vs)->jr Hs1 H1 Hs' H' a=some (.tup vs):=fun a vs e=>by unfold jr; rw [e]
 have nt:∀ a,(∀ vs,H' a≠some (.tup vs))->jr Hs1 H1 Hs' H' a=match H1 a with
  | none=>Hs' a
  | some _=>Hs1 a:=fun a h=>by
  unfold jr
  split
  ·rename_i vs e; exact absurd e (h vs)
  ·rfl
 refine ⟨sa,fun a o e=>?_,⟨fun a o e=>?_,tp⟩,fun a h=>?_⟩
 ·have e1:=w.sub a o e
  have e2:=sa a o e1
  by_cases ht:∃ vs,o=.tup vs
  ·obtain ⟨vs,rfl⟩:=ht
   exact tp a vs e2
  ·rw [nt a fun vs z=>ht ⟨vs,by rw [e2] at z; exact Option.some.inj z⟩,e1]
   exact e
 ·by_cases ht:∃ vs,H' a=some (.tup vs)
  ·obtain ⟨vs,z⟩:=ht
   rw [tp a vs z] at e
   rw [z]; exact e
  ·rw [nt a fun vs z=>ht ⟨vs,z⟩] at e
   cases q:H1 a with
   | none=>rw [q] at e; exact w'.sub a o e
   | some u =>
    rw [q] at e
    have:=w.sub a o e
    exact sa a o this
 ·cases q:H1 a with
  | none=>exact .inr rfl
  | some u =>
   refine .inl ?_
   by_cases ht:∃ vs,H' a=some (.tup vs)
   ·obtain ⟨vs,z⟩:=ht
    have:=sa a u q
    rw [z] at this
    cases this
    rw [w.tups a vs q]
    exact fun z=>nomatch z
   ·rw [nt a fun vs z=>ht ⟨vs,z⟩,q] at h
    exact h
theorem tO {Hs1 H1 Hs' H':Hp} {a:Addr} (s:Same H1 Hs') (h:Hs' a=none) (o:Own H' a):jr Hs1 H1 Hs' H' a=none/\H1 a=none:=by
 have h1:=s.free h
 refine ⟨?_,h1⟩
 unfold jr
 split
 ·rename_i vs e; exact absurd e o.xT
 ·rw [h1]; exact h
def retM:Md->D->Md
 | .ow true,_=>.ow true
 | _,d=>bif d.flat then .sh else .bo
theorem pH {Hs1 H1 Hs' H':Hp} {m:Md} {d:D} {v:V} {As:List Addr} (w:Wf Hs1 H1) (s:Same H1 Hs') (w':Wf Hs' H') (r:RM K Hs' H' m d v As) (nd:As.Nodup) (own:∀ a∈As,Hs' a=none) :
  ∃ As',RM K (jr Hs1 H1 Hs' H') H' (retM m d) d v As'/\cM (jr Hs1 H1 Hs' H') H1 As':=by
 have g:=ie w s w'
 have other:∃ As',RM K (jr Hs1 H1 Hs' H') H' (bif d.flat then .sh else .bo) d v As'/\cM (jr Hs1 H1 Hs' H') H1 As':=by
  cases hf:d.flat with
  | true=>exact ⟨[],⟨rfl,(r.rep w').iU g.wf.tups hf⟩,cM.nil⟩
  | false=>exact ⟨[],⟨rfl,r.rep w'⟩,cM.nil⟩
 cases m with
 | sh=>exact other
 | bo=>exact other
 | ow fl =>
  cases fl with
  | false=>exact other
  | true=>exact ⟨As,⟨RepO.leaves (fun a vs e=>g.wf.tups a vs (w'.sub _ _ e)) r.1,r.2⟩,nd,fun a h=>tO s (own a h) (r.own a h)⟩
abbrev SpD:=List D->(Md->D->Prop)->Prop
def aD (K:PySem.W.Frag) (sp:SpD):Sp:=fun vs H Qv _=>∃ ds Qd,Reps K H ds vs/\sp ds Qd /\
 ∀ v H' Hs' m d As,Same H Hs'->Wf Hs' H'->RM K Hs' H' m d v As->As.Nodup->(∀ a∈As,Hs' a=none)->Qd m d->Qv v H'
def bC (n:Nat) (ds:List D):Env:=ds.map (fun d=>some (.sh d))++List.replicate (n - ds.length) none
theorem SR.start {H:Hp} {ds:List D} {vs:List V} {n:Nat} (r:Reps K H ds vs):SR K H H (ds.map (fun d=>some (.sh d))++List.replicate n none) (vs.map some++List.replicate n none) []:=by
 induction ds generalizing vs with
 | nil =>
  rw [r.n0]
  induction n with
  | zero=>exact .nil
  | succ n ih=>exact .non ih
 | cons d ds ih =>
  obtain ⟨u,us,rfl,r,rs⟩:=r.c
  exact .sh r (ih rs)
theorem t_ {sp:SpD} {N:List Str} {vs:List V} {H:Hp} {Qv:VK} {E:XK} (h:aD K sp vs H Qv E) (hp:∀ ds Q,sp ds Q->t { nx:=fun _=>Q .sh .non,rt:=Q } (bC N.length ds)) :
  tpS K L0 t { nx:=fun _ H'=>Qv .non H',rt:=Qv } (start N vs) H:=by
 obtain ⟨ds,Qd,rs,hs,fin⟩:=h
 have hl:=rs.length
 refine ⟨H,bC N.length ds,[],{ nx:=fun _=>Qd .sh .non,rt:=Qd },⟨?_,⟨Same.refl _,fun _ _ e=>e⟩,xaO,fun a h=>nomatch h⟩,hp ds Qd hs,?_,?_,?_,?_,fun _ _ _ _=>trivial⟩
 ·unfold bC start
  rw [hl]
  exact SR.start rs
 ·exact fun σ' H' Hs' ρ' tot' s sr q=>fin .non H' Hs' .sh .non [] s sr.wf ⟨rfl,.non⟩ xaO (fun a h=>nomatch h) q
 ·exact fun σ' H' Hs' ρ' tot' s sr q=>q.elim
 ·exact fun σ' H' Hs' ρ' tot' s sr q=>q.elim
 ·exact fun v H' Hs' m d As s w r nd own q=>fin v H' Hs' m d As s w r nd own q
theorem FunQ.ok {P:Program} {w:World} {mg:Str->Option Value} {base:Heap} {x qual:Str} {st:Stmt} {f:Addr} {fd:FuncData} {N ps:List Str} {k:Nat} {sp:SpD} {t:WS} (F:Fun K x qual st f fd) (S:FnScope N ps (defScope st)) (len:∀ ds Q,sp ds Q->ds.length=ps.length)
  (hbody:∀ (cdv:Value) (A:Around) (outer:List PySem.Env) (s:Shared) (H:Hp) (E:XK),Room k (A.deeper (envOfC qual (defScope st) s.heap.objs.size f cdv))->QSs (cxOf CX0 P w K mg base N qual (defScope st) f cdv A outer s H E).nox K L0 (defBody st) t)
  (hp:∀ ds Q,sp ds Q->t { nx:=fun _=>Q .sh .non,rt:=Q } (bC N.length ds)):FnOk P w K mg base CX0 (k+1) f fd ps (aD K sp) :=
 F.ok S (fun vs H Q E ⟨ds,Qd,rs,hs,_⟩=>by rw [<- rs.length]; exact len ds Qd hs) fun cdv A outer s H vs Q E hr hs=>⟨_,hbody cdv A outer s H E hr,t_ hs hp⟩
def aY (sp:SpD) (t:WA):WE:=fun ρ Q=>t ρ fun ps=>sp (ps.map (·.2)) fun m d=>onK (m,d) (f:=fun p=>Q (retM p.1 p.2) p.2) ⟨⟩
theorem uK {sp:SpD} {t:WA} {σ:St} {H:Hp} {Qv:VK} {E:XK} (h:tpE K (aY sp t) σ H Qv):tCall (aD K sp) [] E (tpA K t) σ H Qv:=by
 obtain ⟨Hs,ρ,tot,Q,sr,h,f⟩:=h
 refine ⟨Hs,ρ,tot,_,sr,h,fun vs H1 Hs1 ps As g1 r1 f1 q1=>?_⟩
 refine ⟨_,_,by rw [xaI]; exact r1.reps g1.wf,q1,fun v H' Hs' m d As s w r nd own q=>?_⟩
 obtain ⟨As',r',fr⟩:=pH g1.wf s w r nd own
 exact Fin.after f g1 v H' _ (retM m d) d As' (ie g1.wf s w) r' fr q
theorem bz {k:Nat} {x:Str} {ps:List Str} {sp:SpD} {p:Pos} {es:List Expr} {t:WA} (C:Cal X.prog X.w X.K X.mg X.base k x ps (aD K sp)) (hr:Room k X.A) (ha:QA X K (e :: es) t) (hg:Gl X x:=by rfl) (hdb:(x == ("__debug__" : Str))=false:=by decide) (he:starEach (e :: es) X.env=(false,eval e X.env) :: starEach es X.env:=by rfl)
  (hpl:(backTo pos (starEach es X.env)).any (·.1)=false:=by rfl):QE X K (.Call (.Name x p) (e :: es) [] pos) (aY sp t):=PE.imp (Cm C hr ha hg hdb he hpl) fun σ H Qv h=>uK h
end
abbrev WG:=D->Env->(Env->Prop)->Prop
def tpG (K:PySem.W.Frag) (g:WG):TG:=fun v σ H Qv=>∃ Hs ρ tot d Q,SRel K Hs ρ σ H tot/\Rep K Hs d v/\g d ρ Q/\∀ σ' ρ' tot',SRel K Hs ρ' σ' H tot'->(∀ a∈tot',a∈tot)->Q ρ'->Qv σ' H
abbrev QG (X:Cx) (K:PySem.W.Frag) (e:Expr) (g:WG):Prop:=PG X e (tpG K g)
def gN (i:Nat):WG:=fun d ρ Q=>Q (ρ.set i (some (.sh d)))
abbrev WGs:=List D->Env->(Env->Prop)->Prop
def tpGs (K:PySem.W.Frag) (g:WGs):TGs:=fun vs σ H Qv=>∃ Hs ρ tot ds Q,SRel K Hs ρ σ H tot/\Reps K Hs ds vs/\g ds ρ Q/\∀ σ' ρ' tot',SRel K Hs ρ' σ' H tot'->(∀ a∈tot',a∈tot)->Q ρ'->Qv σ' H
abbrev QGs (X:Cx) (K:PySem.W.Frag) (es:List Expr) (g:WGs):Prop:=PGs X es (tpGs K g)
def il:WGs:=fun ds ρ Q=>ds=[]/\Q ρ
def bh (g:WG) (gs:WGs):WGs:=fun ds ρ Q=>match ds with
 | d :: ds=>g d ρ fun ρ'=>gs ds ρ' Q
 | []=>False
def gT (n:Nat) (gs:WGs):WG:=fun d ρ Q=>match d with
 | .tup ds=>ds.length=n/\gs ds ρ Q
 | _=>False
section
variable {X:Cx} {K:PySem.W.Frag} {e:Expr} {es:List Expr} {g:WG} {gs:WGs} {pos:Pos}
theorem PG.imp {t t':TG} (h:PG X e t) (i:∀ v σ H Q,t' v σ H Q->t v σ H Q):PG X e t':=fun pins s σ H v u Q I r q=>h pins s σ H v u Q I r (i v σ H Q q)
theorem PGs.imp {t t':TGs} (h:PGs X es t) (i:∀ v σ H Q,t' v σ H Q->t v σ H Q):PGs X es t':=fun pins s σ H v u Q I r q=>h pins s σ H v u Q I r (i v σ H Q q)
theorem SRel.z9 {ρ:Env} {σ:St} {tot:List Addr} {Hs H:Hp} {d:D} {v:V} (i:Nat) (s:SRel K Hs ρ σ H tot) (r:Rep K Hs d v):∃ tot',(∀ a∈tot',a∈tot)/\SRel K Hs (ρ.set i (some (.sh d))) (σ.set i (some v)) H tot':=by
 obtain ⟨t,a,b⟩:=s.sr.xx r i
 exact ⟨t,fun x hx=>a.subset hx,b,s.wf,a.nodup s.nod,fun x hx=>s.own x (a.subset hx)⟩
theorem aA {i:Nat} {x:Str} (hN:X.N.Nodup) (hi:X.N[i]? = some x) (hx:Loc X.env.scope x) (hf:X.fn x=true\/X.env.scope.names.lookup x=some .local:=by first | exact .inl rfl | exact .inr rfl | assumption):QG X K (.Name x pos) (gN i) :=
 PG.imp (pg_name hN hi hx hf) fun v σ H Qv hx9=>by
  obtain ⟨Hs,ρ,tot,d,Q,sr,r,h,k⟩:=hx9
  obtain ⟨t,m,s⟩:=sr.z9 i r
  exact k _ _ t s m h
theorem cZ:QGs X K [] il:=PGs.imp pgs_nil fun v σ H Qv hx9=>by
 obtain ⟨Hs,ρ,tot,ds,Q,sr,r,h,k⟩:=hx9
 obtain ⟨rfl,h⟩:=h
 cases r
 exact ⟨rfl,k σ ρ tot sr (fun _ z=>z) h⟩
theorem aJ (h1:QG X K e g) (h2:QGs X K es gs) (hs:(assignEach (e :: es) X.env).map (·.2)=assign e X.env :: (assignEach es X.env).map (·.2):=by rfl):QGs X K (e :: es) (bh g gs) :=
 PGs.imp (pgs_cons h1 h2 hs) fun v σ H Qv hx9=>by
  obtain ⟨Hs,ρ,tot,ds,Q,sr,r,h,k⟩:=hx9
  cases r with
  | nil=>exact h.elim
  | cons r rs=>exact ⟨_,_,rfl,Hs,ρ,tot,_,_,sr,r,h,fun σ2 ρ2 tot2 sr2 m2 q2=>⟨Hs,ρ2,tot2,_,Q,sr2,rs,q2,fun σ3 ρ3 tot3 sr3 m3=>k σ3 ρ3 tot3 sr3 fun a h=>m2 a (m3 a h)⟩⟩
theorem fD {k n:Nat} (hc:X.calm=true) (h:QGs X K es gs) (hn:(assignEach es X.env).length=n:=by rfl) (hst:(assignEach es X.env).findIdx? (·.1)=none:=by rfl):QG X K (.Tuple es k pos) (gT n gs) :=
 PG.imp (pg_tup hc h hn hst) fun v σ H Qv hx9=>by
  obtain ⟨Hs,ρ,tot,d,Q,sr,r,h,k⟩:=hx9
  cases r with
  | tup z e rs=>exact ⟨_,_,rfl,.inl (.inl (sr.wf.sub _ _ e)),by rw [<- rs.length]; exact h.1,Hs,ρ,tot,_,Q,sr,rs,h.2,k⟩
  | _=>exact h.elim
end
abbrev WI:=Env->(List D->Prop)->Prop
structure jh (K:PySem.W.Frag) (J:It) (ds:List D) (C:Hp->Hp->Prop):Prop where
 go:∀ i Hs H,C Hs H->Wf Hs H->i<ds.length->J.go i H
 yld:∀ i Hs H x H' d,C Hs H->Wf Hs H->ds[i]? = some d->J.yld i H x H'->∃ Hs',Grow Hs H Hs' H'/\Rep K Hs' d x
 stop:∀ Hs H,C Hs H->Wf Hs H->J.stop ds.length H
abbrev um (K:PySem.W.Frag) (Hs:Hp) (J:It) (ds:List D):Prop:=jh K J ds fun G _=>Same Hs G
def zipD (xs ys:List D):List D:=List.zipWith (fun x y=>.tup [x,y]) xs ys
section
variable {K:PySem.W.Frag} {Hs:Hp} {J:It} {ds es:List D} {C C':Hp->Hp->Prop} {a b:Addr}
theorem jh.imp (S:jh K J ds C) (h:∀ Hs H,C' Hs H->C Hs H):jh K J ds C':=⟨fun i Hs H c=>S.go i Hs H (h _ _ c),fun i Hs H x H' d c=>S.yld i Hs H x H' d (h _ _ c),fun Hs H c=>S.stop Hs H (h _ _ c)⟩
theorem jh.seq {vs:List V} (rs:Reps K Hs ds vs) (S:oN J vs fun H=>Same Hs H):um K Hs J ds where
 go:=fun i G H s w h=>S.go i H (s.trans w.sub) (by rw [<- rs.length]; exact h)
 yld:=fun i G H x H' d s w h y=>by
  have hi:i<ds.length:=by
   rcases Nat.lt_or_ge i ds.length with q | q
   ·exact q
   ·rw [xbv q] at h; cases h
  obtain ⟨e,z⟩:=S.yld i H x H' (s.trans w.sub) (by rw [<- rs.length]; exact hi) y
  subst e
  obtain ⟨d',ed,rd⟩:=rs.getV z
  rw [h] at ed; cases ed
  exact ⟨G,Grow.refl w,rd.same s⟩
 stop:=fun G H s w=>by rw [rs.length]; exact S.stop H (s.trans w.sub)
abbrev qC (K:PySem.W.Frag) (a:Addr) (ds:List D) (C:Hp->Hp->Prop):Prop:=∀ Hs H,C Hs H->Wf Hs H->∃ vs,SqL K H a vs/\Reps K Hs ds vs
theorem jh.list (h:qC K a ds C):jh K (Itl K a) ds C where
 go:=fun i G H c w hi=>by
  obtain ⟨vs,q,rs⟩:=h G H c w
  exact ⟨vs,vs[i]'(by rw [<- rs.length]; exact hi),q,by simp⟩
 yld:=fun i G H x H' d c w hd y=>by
  obtain ⟨vs,q,rs⟩:=h G H c w
  obtain ⟨rfl,y⟩:=y
  obtain ⟨d',ed,rd⟩:=rs.getV (y vs q)
  rw [hd] at ed; cases ed
  exact ⟨G,Grow.refl w,rd⟩
 stop:=fun G H c w=>by
  obtain ⟨vs,q,rs⟩:=h G H c w
  exact ⟨vs,q,by rw [rs.length]; exact xag _⟩
theorem jh.zip (h:qC K a ds C) (h2:qC K b es C):jh K (Itz K a b) (zipD ds es) C where
 go:=fun i G H c w hi=>by
  obtain ⟨vs,q,rs⟩:=h G H c w
  obtain ⟨us,q2,rs2⟩:=h2 G H c w
  rw [zipD,List.length_zipWith] at hi
  have:=rs.length
  have:=rs2.length
  exact ⟨vs,us,vs[i]'(by lia),us[i]'(by lia),q,q2,by simp,by simp⟩
 yld:=fun i G H x H' d c w hd y=>by
  obtain ⟨vs,q,rs⟩:=h G H c w
  obtain ⟨us,q2,rs2⟩:=h2 G H c w
  obtain ⟨p,u,v,rfl,hp,rfl,y,y2⟩:=y
  obtain ⟨d1,ed,rd⟩:=rs.getV (y vs q)
  obtain ⟨d2,ed2,rd2⟩:=rs2.getV (y2 us q2)
  have:d=.tup [d1,d2]:=by
   simp only [zipD,List.getElem?_zipWith,ed,ed2] at hd
   cases hd; rfl
  subst this
  have g:=newT (vs:=[u,v]) w hp
  exact ⟨_,g,.tup (vs:=[u,v]) Ar upd_same (.cons (rd.same g.sh) (.cons (rd2.same g.sh) .nil))⟩
 stop:=fun G H c w=>by
  obtain ⟨vs,q,rs⟩:=h G H c w
  obtain ⟨us,q2,rs2⟩:=h2 G H c w
  have:=rs.length
  have:=rs2.length
  exact ⟨vs,us,q,q2,by rw [zipD,List.length_zipWith]; lia⟩
theorem uz {vs:List V} (s:SqL K Hs a vs) (rs:Reps K Hs ds vs):qC K a ds fun G _=>Same Hs G:=fun G H c w=>⟨vs,Same.seq (c.trans w.sub) s,rs.same c⟩
end
def tpI (K:PySem.W.Frag) (wi:WI):TI:=fun σ H R=>∃ Hs ρ tot Q,SRel K Hs ρ σ H tot/\wi ρ Q/\∀ J H' Hs' ds,Grow Hs H Hs' H'->um K Hs' J ds->ds.length<=sizeLine->Q ds->R J H'
abbrev QI (X:Cx) (K:PySem.W.Frag) (tg iter:Expr) (wi:WI):Prop:=PI X tg iter (tpI K wi)
def ph:Md->Prop
 | .bo=>False
 | _=>True
def cN (te:WE):WI:=fun ρ Q=>te ρ fun m d=>ph m/\match d with
 | .list xs=>Q xs
 | _=>False
def lY (lo:Int) (n:Nat):List D:=(List.range n).map fun i=>.int (lo+(i:Nat))
def cC (te:WE):WI:=fun ρ Q=>te ρ fun _ d=>match d with
 | .int j=>j<=16777216/\-(2 ^ 62)<=j/\Q (lY 0 j.toNat)
 | _=>False
section
variable {X:Cx} {K:PySem.W.Frag} {e e2 tg:Expr} {te te2:WE} {pos p:Pos}
theorem PI.imp {iter:Expr} {t t':TI} (h:PI X tg iter t) (i:∀ σ H R,t' σ H R->t σ H R):PI X tg iter t':=fun pins s σ H R I q=>h pins s σ H R I (i σ H R q)
theorem oN.imp {J:It} {vs:List V} {c c':Hp->Prop} (s:oN J vs c) (h:∀ H,c' H->c H):oN J vs c':=⟨fun i H q=>s.go i H (h H q),fun i H x H' q=>s.yld i H x H' (h H q),fun H q=>s.stop H (h H q)⟩
theorem RM.z_ {Hs H Hs1 H1:Hp} {m:Md} {d:D} {v:V} {As:List Addr} (g:Grow Hs H Hs1 H1) (r:RM K Hs1 H1 m d v As) (f:cM Hs1 H As) (h:ph m):∃ Hs2,Grow Hs H Hs2 H1/\Rep K Hs2 d v:=by
 cases m with
 | sh=>exact ⟨Hs1,g,r.2⟩
 | bo=>exact h.elim
 | ow fl =>
  have n:∀ a∈As,Hs1 a=none:=fun a ha=>(f.2 a ha).1
  have o:=r.own
  refine ⟨frzH Hs1 H1 As,⟨g.all,g.sh.trans (gW n),tR g.wf o,fun a h=>?_⟩,RepO.rep (gW n) r.1 fun a ha=>by unfold frzH; rw [if_pos ha]⟩
  unfold frzH at h
  by_cases m:a∈As
  ·exact .inr (f.2 a m).2
  ·rw [if_neg m] at h; exact g.new a h
theorem cj (he:QE X K e te) (hK:X.K=K:=by rfl):QI X K tg e (cN te):=by
 subst hK
 refine PI.imp (pi_list he) fun σ H R hx=>ex4 hx fun Hs ρ tot Q sr h k=>⟨Hs,ρ,tot,_,sr,h,fun v H1 Hs1 m d As g1 r1 f1 q1=>?_⟩
 obtain ⟨nb,q1⟩:=q1
 obtain ⟨Hs2,g2,r2⟩:=r1.z_ g1 f1 nb
 cases r2 with
 | list z s rs=>exact ⟨_,rfl,⟨_,Same.seq g2.wf.sub s⟩,k _ H1 Hs2 _ g2 (.seq rs (oN.imp (wJ X.K _ _) fun H' s'=>Same.seq s' s)) (by rw [rs.length]; exact z) q1⟩
 | _=>exact q1.elim
theorem pC {H:Hp} (lo:Int):∀ (l:List Nat),Reps K H (l.map fun i=>.int (lo+(i:Nat))) (l.map fun i=>V.int (lo+(i:Nat)))
 | []=>.nil
 | c :: l=>.cons (.int _) (pC lo l)
theorem bV (hm:X.mg "range" = none) (he:QE X K e te) (hg:Gl X "range" := by rfl) (hs:starEach [e] X.env=(false,eval e X.env) :: starEach [] X.env:=by rfl) (hs':starEach [e] X.env=[(false,eval e X.env)]:=by rfl):QI X K tg (.Call (.Name "range" p) [e] [] pos) (cC te):=by
 refine PI.imp (pi_range1 hg hm (pa_cons he pa_nil hs) hs') fun σ H R hx=>ex4 hx fun Hs ρ tot Q sr h k=>⟨Hs,ρ,tot,_,sr,h,fun v H1 Hs1 m d As g1 r1 f1 q1=>?_⟩
 have r:=r1.rep g1.wf
 cases r with
 | int j =>
  obtain ⟨h1,h2,q1⟩:=q1
  exact ⟨j,rfl,h2,by lia,k _ H1 Hs1 _ g1 (.seq (pC 0 _) (oN.imp (Ac _ _) fun _ _=>trivial)) (by rw [xab,List.length_range,sizeLine_eq]; lia) q1⟩
 | _=>exact q1.elim
section
variable {X:Cx} {K:PySem.W.Frag} {e tg:Expr} {te:WE}
def tpIb (K:PySem.W.Frag) (wi:WI):TI:=fun σ H R=>∃ Hs ρ tot Q,SRel K Hs ρ σ H tot/\wi ρ Q/\∀ J H' Hs' ds,Grow Hs H Hs' H'->um K H' J ds->ds.length<=sizeLine->Q ds->R J H'
abbrev QIb (X:Cx) (K:PySem.W.Frag) (tg iter:Expr) (wi:WI):Prop:=PI X tg iter (tpIb K wi)
theorem ig {iter:Expr} {wi:WI} (h:QI X K tg iter wi):QIb X K tg iter wi:=PI.imp h fun σ H R hx=>ex4 hx fun Hs ρ tot Q sr h k=>⟨Hs,ρ,tot,Q,sr,h,fun J H' Hs' ds g w z q=>k J H' Hs' ds g (w.imp fun G H s=>g.wf.sub.trans s) z q⟩
def gZ (te:WE):WI:=fun ρ Q=>te ρ fun _ d=>match d with
 | .list xs=>Q xs
 | _=>False
theorem iH (he:QE X K e te) (hK:X.K=K:=by rfl):QIb X K tg e (gZ te):=by
 subst hK
 refine PI.imp (pi_list he) fun σ H R hx=>ex4 hx fun Hs ρ tot Q sr h k=>⟨Hs,ρ,tot,_,sr,h,fun v H1 Hs1 m d As g1 r1 f1 q1=>?_⟩
 have r:=r1.rep g1.wf
 cases r with
 | list z s rs=>exact ⟨_,rfl,⟨_,s⟩,k _ H1 Hs1 _ g1 (.list (uz s rs)) (by rw [rs.length]; exact z) q1⟩
 | _=>exact q1.elim
end
def iC (g:WG) (b:WS) (E:iD):List D->Env->Prop
 | [],ρ=>E.nx ρ
 | x :: xs,ρ=>g x ρ fun ρ1=>b { E with nx:=iC g b E xs,ct:=iC g b E xs,bk:=E.nx } ρ1
def wFor (wi:WI) (g:WG) (b:WS):WS:=fun E ρ=>wi ρ fun ds=>iC g b E ds ρ
variable {wi:WI} {g:WG} {b:WS} {body:List Stmt}
theorem bZ {iter:Expr} (hp:PassesOwn (model X.prog X.w) X.A X.env X.xe) (hc:X.calm=true) (hi:QI X K tg iter wi) (hg:QG X K tg g) (hb:QSs X K L body b) (hs:∀ x,foldedSetIterable iter X.env x=pure x:=by intro _; rfl) :
  QS X K L (.For tg iter body [] pos) (wFor wi g b):=by
 refine PS.imp (ps_for hp hc hi hg hb hs) fun D σ H hx=>gB hx fun Hs ρ tot E sr h k1 k2 k3 k4 kx=>?_
 rw [uo]
 refine ⟨Hs,ρ,tot,_,sr,h,fun J H1 Hs1 ds g1 S hz q1=>?_⟩
 refine ⟨fun i m σ H=>m=ds.length - i/\i<=ds.length/\∃ Hs' ρ' tot',Same Hs1 Hs'/\SRel K Hs' ρ' σ H tot'/\iC g b E (ds.drop i) ρ',⟨ds.length,by simp,xap _,Hs1,ρ,tot,Same.refl _,sr.grow g1,by simpa using q1⟩,?_⟩
 rintro i m σ2 H2 ⟨rfl,hi,Hs2,ρ2,tot2,s2,sr2,q2⟩
 by_cases hlt:i<ds.length
 ·refine .inr ⟨S.go i Hs2 H2 s2 sr2.wf hlt,fun σ3 H3=>∃ Hs' ρ' tot',Same Hs1 Hs'/\SRel K Hs' ρ' σ3 H3 tot'/\iC g b E (ds.drop (i+1)) ρ',fun σ3 H3 h3=>⟨ds.length - (i+1),by lia,rfl,hlt,h3⟩,fun x H3 y=>?_⟩
  obtain ⟨Hs3,g3,rd⟩:=S.yld i Hs2 H2 x H3 ds[i] s2 sr2.wf (by simp [hlt]) y
  rw [xaT hlt] at q2
  have s3:=s2.trans g3.sh
  refine ⟨Hs3,ρ2,tot2,ds[i],_,sr2.grow g3,rd,q2,fun σ4 ρ4 tot4 sr4 _ q4=>?_⟩
  refine ⟨Hs3,ρ4,tot4,_,sr4,q4,?_,?_,?_,?_,fun n H5 s5=>kx n H5 ((g1.sh.trans s3).trans s5)⟩
  ·exact fun σ5 H5 Hs5 ρ5 tot5 s5 sr5 q5=>⟨Hs5,ρ5,tot5,s3.trans s5,sr5,q5⟩
  ·exact fun σ5 H5 Hs5 ρ5 tot5 s5 sr5 q5=>k1 σ5 H5 Hs5 ρ5 tot5 ((g1.sh.trans s3).trans s5) sr5 q5
  ·exact fun σ5 H5 Hs5 ρ5 tot5 s5 sr5 q5=>⟨Hs5,ρ5,tot5,s3.trans s5,sr5,q5⟩
  ·exact fun v H5 Hs5 m d As s5=>k4 v H5 Hs5 m d As ((g1.sh.trans s3).trans s5)
 ·have e:i=ds.length:=by lia
  subst e
  refine .inl ⟨S.stop Hs2 H2 s2 sr2.wf,?_⟩
  rw [xcb] at q2
  exact k1 σ2 H2 Hs2 ρ2 tot2 (g1.sh.trans s2) sr2 q2
theorem aZ {g:WG} {b:WS} {E:iD} (xs:List D) (Pv:Nat->Env->Prop) {ρ:Env} (h0:Pv 0 ρ)
  (hs:∀ i x ρ,xs[i]? = some x->Pv i ρ->∀ N:Env->Prop,(∀ ρ',Pv (i+1) ρ'->N ρ')->g x ρ fun ρ1=>b { E with nx:=N,ct:=N,bk:=E.nx } ρ1)
  (hd:∀ ρ,Pv xs.length ρ->E.nx ρ):iC g b E xs ρ:=by
 have go:∀ (k i:Nat) (ρ:Env),i+k=xs.length->Pv i ρ->iC g b E (xs.drop i) ρ:=by
  intro k
  induction k with
  | zero =>
   intro i ρ e p
   have:i=xs.length:=by lia
   subst this
   rw [xcb]
   exact hd ρ p
  | succ k ih =>
   intro i ρ e p
   have hi:i<xs.length:=by lia
   rw [xaT hi]
   exact hs i xs[i] ρ (by simp [hi]) p _ fun ρ2 h2=>ih (i+1) ρ2 (by lia) h2
 have:=go xs.length 0 ρ (by exact xci ..) h0
 simpa using this
def yc (c:WT) (b:WS):WS:=fun E ρ=>∃ (Pv:Env->Prop) (μ:Env->Nat),Pv ρ/\∀ ρ,Pv ρ->c ρ fun k=>if k=true then b { E with nx:=fun ρ'=>Pv ρ'/\μ ρ'<μ ρ,ct:=fun ρ'=>Pv ρ'/\μ ρ'<μ ρ,bk:=E.nx } ρ else E.nx ρ
theorem wY {c:Expr} {tc:WT} (hp:PassesOwn (model X.prog X.w) X.A X.env X.xe) (hc:QT X K c tc) (hb:QSs X K L body b):QS X K L (.While c body [] pos) (yc tc b):=by
 refine PS.imp (ps_while hp hc hb) fun D σ H hx=>gB hx fun Hs ρ tot E sr h k1 k2 k3 k4 kx=>?_
 obtain ⟨Pv,μ,p0,turn⟩:=h
 refine ⟨fun m σ H=>∃ Hs' ρ' tot',Same Hs Hs'/\SRel K Hs' ρ' σ H tot'/\Pv ρ'/\μ ρ'=m,⟨_,Hs,ρ,tot,Same.refl _,sr,p0,rfl⟩,?_⟩
 rintro m σ2 H2 ⟨Hs2,ρ2,tot2,s2,sr2,p2,rfl⟩
 refine ⟨Hs2,ρ2,tot2,_,sr2,turn ρ2 p2,fun k H3 Hs3 g3 q3=>?_⟩
 cases k with
 | false=>exact k1 σ2 H3 Hs3 ρ2 tot2 (s2.trans g3.sh) (sr2.grow g3) q3
 | true =>
  refine ⟨fun σ' H'=>∃ Hs' ρ' tot',Same Hs Hs'/\SRel K Hs' ρ' σ' H' tot'/\Pv ρ'/\μ ρ'<μ ρ2,fun σ' H' ⟨Hs',ρ',tot',a,b,c,d⟩=>⟨μ ρ',d,Hs',ρ',tot',a,b,c,rfl⟩,?_⟩
  have s3:Same Hs Hs3:=s2.trans g3.sh
  refine ⟨Hs3,ρ2,tot2,_,sr2.grow g3,q3,?_,?_,?_,?_,fun n H5 s5=>kx n H5 (s3.trans s5)⟩
  ·exact fun σ5 H5 Hs5 ρ5 tot5 s5 sr5 q5=>⟨Hs5,ρ5,tot5,s3.trans s5,sr5,q5.1,q5.2⟩
  ·exact fun σ5 H5 Hs5 ρ5 tot5 s5 sr5 q5=>k1 σ5 H5 Hs5 ρ5 tot5 (s3.trans s5) sr5 q5
  ·exact fun σ5 H5 Hs5 ρ5 tot5 s5 sr5 q5=>⟨Hs5,ρ5,tot5,s3.trans s5,sr5,q5.1,q5.2⟩
  ·exact fun v H5 Hs5 m d As s5=>k4 v H5 Hs5 m d As (s3.trans s5)
end
def wYes:WT:=fun _ Q=>Q true
def okEl (m:Md) (d:D):Prop:=d.flat=true\/m=.ow true
def gU (g:WG) (tc:WT) (te:WE):List D->Env->(List D->Prop)->Prop
 | [],_,k=>k []
 | x :: xs,ρ,k=>g x ρ fun ρ1=>tc ρ1 fun b=>if b=true then te ρ1 fun m d=>okEl m d/\gU g tc te xs ρ1 (fun out=>k (d :: out)) else gU g tc te xs ρ1 k
def zB (tn:Nat) (ix:List Nat) (ρ:Env):Env:=List.replicate tn none++ix.map fun j=>(ρ[j]?).join.map shC
def eG (wi:WI) (g:WG) (tc:WT) (te:WE) (tn:Nat) (ix:List Nat):WE:=fun ρ Q=>wi ρ fun ds=>gU g tc te ds (zB tn ix ρ) fun out=>Q (.ow true) (.list out)
section
variable {X:Cx} {K:PySem.W.Frag}
theorem lK {Hs H G:Hp} {ρ:Env} {σ:St} {tot:List Addr} (sr:SRel K Hs ρ σ H tot) (G':Hp):∀ (ix:List Nat),SR K H G' (ix.map fun j=>(ρ[j]?).join.map shC) (ix.map fun j=>(σ[j]?).join) []
 | []=>.nil
 | j :: ix=>by
  have ih:=lK sr G' ix (G:=G)
  simp only [xas]
  cases e:ρ[j]? with
  | none=>exact .non ih
  | some o =>
   cases o with
   | none=>exact .non ih
   | some sl =>
    obtain ⟨v,e1,r⟩:=sr.sr.get e
    rw [e1]
    cases sl with
    | sh d=>exact .sh (Rep.same sr.wf.sub r) ih
    | xc a=>subst r; exact .xc ih
    | ow fl d =>
     obtain ⟨As,_,r,_⟩:=r
     exact .sh (r.rep sr.wf.sub fun _ _=>rfl) ih
    | lk a fl d =>
     obtain ⟨As,_,r,_⟩:=r
     exact .sh (r.rep sr.wf.sub fun _ _=>rfl) ih
theorem nZ {H G:Hp} {ρ:Env} {σ:St} (s:SR K H G ρ σ []):∀ (n:Nat),SR K H G (List.replicate n none++ρ) (List.replicate n none++σ) []
 | 0=>s
 | n+1=>.non (nZ s n)
theorem SR.heap {Hs H H':Hp} {ρ:Env} {σ:St} (s:SR K Hs H ρ σ []):SR K Hs H' ρ σ []:=s.stay (Same.refl _) fun a h=>nomatch h
theorem tL {Hs H:Hp} {p:Addr} {o:HO} (w:Wf Hs H) (n:Hs p=none) (ho:∀ vs,o≠.tup vs):Wf Hs (upd H p o):=⟨fun b u q=>by
  rw [upd_ne (fun z=>by subst z; rw [n] at q; cases q)]; exact w.sub b u q,fun b us q=>by
  by_cases hb:b=p
  ·subst hb; rw [upd_same] at q; exact absurd (Option.some.inj q) (ho us)
  ·rw [upd_ne hb] at q; exact w.tups b us q⟩
structure CompI (K:PySem.W.Frag) (H1:Hp) (b:Addr) (acc:List D) (ys:List V) (As:List Addr) (Hs:Hp) (ρ:Env) (τ:St) (H:Hp):Prop where
 sm:Same H1 Hs
 sr:SRel K Hs ρ τ H []
 eD:H b=some (.lst ys)
 nD:Hs b=none
 ra:aB K Hs H true acc ys As
 nd:(b :: As).Nodup
 own:∀ a∈As,Hs a=none
theorem CompI.grow {H1:Hp} {b:Addr} {acc:List D} {ys:List V} {As:List Addr} {Hs H Hs' H':Hp} {ρ:Env} {τ:St} (c:CompI K H1 b acc ys As Hs ρ τ H) (g:Grow Hs H Hs' H'):CompI K H1 b acc ys As Hs' ρ τ H' :=
 ⟨c.sm.trans g.sh,c.sr.grow g,g.all _ _ c.eD,g.hsn c.nD (by rw [c.eD]; exact fun z=>nomatch z),c.ra.grow g.sh g.all,c.nd,fun a ha=>g.hsn (c.own a ha) (c.ra.own a ha).ne⟩
theorem CompI.push {H1:Hp} {b:Addr} {acc:List D} {ys:List V} {As Bs:List Addr} {Hs H:Hp} {ρ:Env} {τ:St} {m:Md} {d:D} {v:V} (c:CompI K H1 b acc ys As Hs ρ τ H) (r:RM K Hs H m d v Bs) (ok:okEl m d) (nb:Bs.Nodup) (fb:∀ a∈Bs,Hs a=none/\a∉b :: As):∃ As',CompI K H1 b (acc++[d]) (ys++[v]) As' Hs ρ τ (upd H b (.lst (ys++[v]))):=by
 obtain ⟨B,sb,rb⟩:∃ B,B.Sublist Bs/\RepO K Hs H true d v B:=by
  rcases ok with hf | rfl
  ·exact ⟨[],xbq _,.sh (fun _=>hf) (r.flat c.sr.wf hf)⟩
  ·exact ⟨Bs,List.Sublist.refl _,r.1⟩
 obtain ⟨na,nA⟩:=xay.mp c.nd
 have fb':=fun a ha=>fb a (sb.subset ha)
 refine ⟨As++(B++[]),c.sm,⟨c.sr.sr.heap,tL c.sr.wf c.nD (fun _ z=>nomatch z),xaO,fun a h=>nomatch h⟩,upd_same,c.nD,(c.ra.stay (H':=upd H b (.lst (ys++[v]))) (Same.refl _) fun a ha=>upd_ne fun z=>na (by subst z; exact ha)).append (.cons (rb.stay (Same.refl _) fun a ha=>upd_ne fun z=>(fb' a ha).2 (by subst z; exact xad)) .nil),?_,?_⟩
 ·rw [xaI]
  refine xay.mpr ⟨fun m=>(xah.mp m).elim na fun m=>(fb' b m).2 xad,xam.mpr ⟨nA,sb.nodup nb,fun x hx y hy e=>(fb' y hy).2 (e ▸ xac _ hx)⟩⟩
 ·rw [xaI]
  exact fun a ha=>(xah.mp ha).elim (c.own a) fun m=>(fb' a m).1
theorem oU {wi:WI} {g:WG} {tc:WT} {te:WE} {tn:Nat} {ix:List Nat} {σ:St} {H:Hp} {Qv:VK} (h:tpE K (eG wi g tc te tn ix) σ H Qv):vz (tpIb K wi) (tpG K g) (tpT K tc) (tpE K te) tn ix σ H Qv:=by
 obtain ⟨Hs,ρ,tot,Q,sr,h,f⟩:=h
 rw [wU]
 refine ⟨Hs,ρ,tot,_,sr,h,fun J H1 Hs1 ds g1 S hz q1 b hb=>?_⟩
 have st:CompI K H1 b [] [] [] H1 (zB tn ix ρ) (ni tn ix σ) (upd H1 b (.lst [])):=by
  refine ⟨Same.refl _,⟨nZ (lK (G:=H1) (sr.grow g1) _ ix) tn,⟨(Same.refl H1).upd hb,fun a xs e=>?_⟩,xaO,fun a h=>nomatch h⟩,upd_same,hb,.nil,by simp,fun a h=>nomatch h⟩
  by_cases ha:a=b
  ·subst ha; rw [upd_same] at e; cases e
  ·rw [upd_ne ha] at e; exact e
 refine ⟨fun i m τ H2=>m=ds.length - i/\i<=ds.length/\∃ Hs2 ρ2 acc ys As,CompI K H1 b acc ys As Hs2 ρ2 τ H2/\acc.length<=i/\gU g tc te (ds.drop i) ρ2 (fun out=>Q (.ow true) (.list (acc++out))),
  ⟨ds.length,by simp,xap _,H1,_,[],[],[],st,xag _,by simpa using q1⟩,?_⟩
 rintro i m τ H2 ⟨rfl,hi,Hs2,ρ2,acc,ys,As,c,la,q2⟩
 by_cases hlt:i<ds.length
 ·refine .inr ⟨S.go i Hs2 H2 c.sm c.sr.wf hlt,
   fun τ3 v H4=>∃ Hs4 ρ4 d,CompI K H1 b acc ys As Hs4 ρ4 τ3 H4/\(∃ As',CompI K H1 b (acc++[d]) (ys++[v]) As' Hs4 ρ4 τ3 (upd H4 b (.lst (ys++[v]))))/\gU g tc te (ds.drop (i+1)) ρ4 (fun out=>Q (.ow true) (.list (acc++d :: out))),
   fun τ3 H3=>∃ Hs3 ρ3,CompI K H1 b acc ys As Hs3 ρ3 τ3 H3/\gU g tc te (ds.drop (i+1)) ρ3 (fun out=>Q (.ow true) (.list (acc++out))),?_,?_,?_⟩
  ·rintro τ3 v H4 ⟨Hs4,ρ4,d,c4,⟨As',c5⟩,q4⟩
   have lya:=c4.ra.length
   exact ⟨ys,ds.length - (i+1),c4.eD,by lia,by lia,rfl,hlt,Hs4,ρ4,acc++[d],ys++[v],As',c5,by rw [xaA]; simpa using la,by simpa using q4⟩
  ·rintro τ3 H3 ⟨Hs3,ρ3,c3,q3⟩
   exact ⟨ds.length - (i+1),by lia,rfl,hlt,Hs3,ρ3,acc,ys,As,c3,by lia,q3⟩
  ·intro x H3 y
   obtain ⟨Hs3,g3,rd⟩:=S.yld i Hs2 H2 x H3 ds[i] c.sm c.sr.wf (by simp [hlt]) y
   rw [xaT hlt] at q2
   have c3:=c.grow g3
   refine ⟨Hs3,ρ2,[],ds[i],_,c3.sr,rd,q2,fun τ4 ρ4 tot4 sr4 m4 q4=>?_⟩
   have t4:tot4=[]:=List.eq_nil_iff_forall_not_mem.mpr fun a ha=>nomatch m4 a ha
   subst t4
   have c4:CompI K H1 b acc ys As Hs3 ρ4 τ4 H3:=⟨c3.sm,sr4,c3.eD,c3.nD,c3.ra,c3.nd,c3.own⟩
   refine ⟨Hs3,ρ4,[],_,sr4,q4,fun k H5 Hs5 g5 q5=>?_⟩
   have c5:=c4.grow g5
   cases k with
   | false=>exact ⟨Hs5,ρ4,c5,q5⟩
   | true =>
    refine ⟨Hs5,ρ4,[],_,c5.sr,q5,fun v H6 Hs6 m6 d6 As6 g6 r6 f6 q6=>?_⟩
    have c6:=c5.grow g6
    refine ⟨Hs6,ρ4,d6,c6,c6.push r6 q6.1 f6.1 fun a ha=>⟨(f6.2 a ha).1,fun m=>?_⟩,q6.2⟩
    rcases xaj.mp m with rfl | m
    ·have:=(f6.2 _ ha).2
     rw [c5.eD] at this; cases this
    ·exact (c5.ra.own a m).ne (f6.2 a ha).2
 ·have e:i=ds.length:=by lia
  subst e
  refine .inl ⟨S.stop Hs2 H2 c.sm c.sr.wf,?_⟩
  rw [xcb] at q2
  have q2:Q (.ow true) (.list (acc++[])):=q2
  rw [xaI] at q2
  have lya:=c.ra.length
  have rm:RM K Hs2 H2 (.ow true) (.list acc) (.ref b) (b :: As):=⟨.list (by lia) c.eD c.ra,by simp⟩
  obtain ⟨As',r',fr⟩:=pH g1.wf c.sm c.sr.wf rm c.nd fun a ha=>(xaj.mp ha).elim (fun z=>z ▸ c.nD) (c.own a)
  exact Fin.after f g1 (.ref b) H2 _ (.ow true) (.list acc) As' (ie g1.wf c.sm c.sr.wf) r' fr q2
theorem PTs.imp {ifs:List Expr} {t t':TT} (h:PTs X ifs t) (i:∀ σ H Q,t' σ H Q->t σ H Q):PTs X ifs t':=fun pins s σ H Q I q=>h pins s σ H Q I (i σ H Q q)
abbrev QTs (X:Cx) (K:PySem.W.Frag) (ifs:List Expr) (t:WT):Prop:=PTs X ifs (tpT K t)
theorem cP:QTs X K [] wYes:=PTs.imp zJ fun σ H Qv hx=>ex4 hx fun Hs ρ tot Q sr h k=>k true H Hs (Grow.refl sr.wf) h
theorem pU {c:Expr} {t:WT} (h:QT X K c t):QTs X K [c] t:=y_ h
theorem gf {tg iter elt:Expr} {ifs:List Expr} {scope:Scope} {pos:Pos} {wi:WI} {g:WG} {tc:WT} {te:WE} {tn cn:List Str} {ix:List Nat} (hc:X.calm=true) (hi:QIb X K tg iter wi) (O:bL X scope tn cn ix)
  (hg:∀ C fp s₃ H₃,QG (bj X scope C (tn++cn) fp s₃ H₃) K tg g) (hcs:∀ C fp s₃ H₃,QTs (bj X scope C (tn++cn) fp s₃ H₃) K ifs tc) (he:∀ C fp s₃ H₃,QE (bj X scope C (tn++cn) fp s₃ H₃) K elt te)
  (hs:∀ x,foldedSetIterable iter X.env x=pure x:=by intro _; rfl):QE X K (.ListComp elt [⟨tg,iter,ifs,0⟩] scope pos) (eG wi g tc te tn.length ix) :=
 PE.imp (yD hc hi O hg hcs he hs) fun σ H Qv h=>oU h
end
theorem cU {g:WG} {tc:WT} {te:WE} (p:D->Bool) (f:D->D) (Iv:Env->Prop):∀ (xs:List D) (ρ:Env) (k:List D->Prop),Iv ρ ->
  (∀ x∈xs,∀ ρ,Iv ρ->∀ N1:Env->Prop,∀ N2:Env->D->Prop,(∀ ρ',Iv ρ'->p x=false->N1 ρ')->(∀ ρ',Iv ρ'->p x=true->N2 ρ' (f x))->g x ρ fun ρ1=>tc ρ1 fun b=>if b=true then te ρ1 fun m d=>okEl m d/\N2 ρ1 d else N1 ρ1) ->
  k ((xs.filter p).map f)->gU g tc te xs ρ k
 | [],_,k,_,_,h=>h
 | x :: xs,ρ,k,iv,hs,h=>by
  refine hs x xad ρ iv _ _ (fun ρ' iv' hp=>?_) (fun ρ' iv' hp=>?_)
  ·exact cU p f Iv xs ρ' k iv' (fun y hy=>hs y (xac _ hy)) (by simpa [hp] using h)
  ·exact cU p f Iv xs ρ' _ iv' (fun y hy=>hs y (xac _ hy)) (by simpa [hp] using h)
def Upd (K:PySem.W.Frag) (Hs H:Hp) (σ:St) (fl:Bool) (v:V) (up:Bool->D->Env) (As':List Addr):Prop:=∀ Hs2 H2 fl2 d2 As2,Same Hs Hs2->Wf Hs2 H2->(∀ a,Hs a=none->H a≠none->Hs2 a=none)->(fl2=true->fl=true) ->
  RepO K Hs2 H2 fl2 d2 v As2->As2≠[]->As2.Nodup->(∀ a∈As2,Hs2 a=none/\(a∈As'\/H a=none))->(∀ a,H a≠none->a∉As'->H2 a=H a)->∃ tot2,SRel K Hs2 (up fl2 d2) σ H2 tot2
structure Place (K:PySem.W.Frag) (Hs H:Hp) (σ:St) (fl:Bool) (d:D) (v:V) (up:Bool->D->Env):Prop where
 ex:∃ As',RepO K Hs H fl d v As'/\As'≠[]/\As'.Nodup/\(∀ a∈As',Hs a=none)/\Upd K Hs H σ fl v up As'
theorem Upd.node {K:PySem.W.Frag} {Hs H Hs2 H2:Hp} {σ:St} {fl fl2:Bool} {up:Bool->D->Env} {a:Addr} {A C:List Addr} {o:HO} {d2:D} (k:Upd K Hs H σ fl (.ref a) up (a :: A)) (g:Grow Hs H Hs2 H2) (own:∀ x∈a :: A,Hs x=none/\H x≠none) (ho:∀ vs,o≠.tup vs) (hf:fl2=true->fl=true)
  (r:RepO K Hs2 (upd H2 a o) fl2 d2 (.ref a) (a :: C)) (nC:C.Nodup) (naC:a∉C) (hC:∀ x∈C,x∈A\/(Hs2 x=none/\H x=none)):∃ tot2,SRel K Hs2 (up fl2 d2) σ (upd H2 a o) tot2:=by
 have hn:∀ x∈a :: A,Hs2 x=none:=fun x hx=>g.hsn (own x hx).1 (own x hx).2
 refine k Hs2 _ fl2 d2 (a :: C) g.sh (tL g.wf (hn a xad) ho) (fun b h1 h2=>g.hsn h1 h2) hf r (xcc _ _) (xay.mpr ⟨naC,nC⟩) (fun b hb=>?_) fun b h1 h2=>?_
 ·rcases xaj.mp hb with rfl | hb
  ·exact ⟨hn _ xad,.inl xad⟩
  ·exact (hC b hb).elim (fun q=>⟨hn b (xac _ q),.inl (xac _ q)⟩) fun q=>⟨q.1,.inr q.2⟩
 ·rw [upd_ne fun z=>h2 (by subst z; exact xad)]
  cases q:H b with
  | none=>exact absurd q h1
  | some o=>exact g.all b o q
abbrev WP:=Env->(Bool->D->(Bool->D->Env)->Prop)->Prop
def tpP (K:PySem.W.Frag) (t:WP):TE:=fun σ H Qv=>∃ Hs ρ tot Q,SRel K Hs ρ σ H tot/\t ρ Q/\∀ v H' Hs' fl d up,Grow Hs H Hs' H'->Place K Hs' H' σ fl d v up->Q fl d up->Qv v H'
abbrev QP (X:Cx) (K:PySem.W.Frag) (e:Expr) (t:WP):Prop:=PE X e (tpP K t)
section
variable {K:PySem.W.Frag} {Hs H Hs' H':Hp} {σ:St} {fl:Bool} {d:D} {v:V} {up:Bool->D->Env}
theorem Place.grow (p:Place K Hs H σ fl d v up) (g:Grow Hs H Hs' H'):Place K Hs' H' σ fl d v up:=by
 obtain ⟨As',r,ne,nd,own,k⟩:=p.ex
 refine ⟨As',r.grow g.sh g.all,ne,nd,fun a h=>g.hsn (own a h) (r.own a h).ne,fun Hs2 H2 fl2 d2 As2 s2 w2 n2 hf r2 ne2 nd2 o2 st=>?_⟩
 refine k Hs2 H2 fl2 d2 As2 (g.sh.trans s2) w2 (fun a h1 h2=>n2 a (g.hsn h1 h2) ?_) hf r2 ne2 nd2 (fun a h=>⟨(o2 a h).1,(o2 a h).2.imp id g.all.free⟩) fun a h1 h2=>?_
 ·cases e:H a with
  | none=>exact absurd e h2
  | some o=>rw [g.all a o e]; exact fun z=>nomatch z
 ·cases e:H a with
  | none=>exact absurd e h1
  | some o =>
   have:=g.all a o e
   rw [<- this]
   exact st a (by rw [this]; exact fun z=>nomatch z) h2
theorem RepO.ne2:(∀ {d:D} {v:V} {As:List Addr},RepO K Hs H true d v As->d.flat=false->As≠[])/\∀ {ds:List D} {vs:List V} {As:List Addr},aB K Hs H true ds vs As->flats ds=false->As≠[] :=
 RepO.ind (m1:=fun d _ As=>d.flat=false->As≠[]) (m2:=fun ds _ As=>flats ds=false->As≠[]) (fun _ _ f _ h=>by rw [f rfl] at h; cases h) (fun _ _ _ _ _ _ _ _ _=>xcc _ _) (fun _ _ _ _ _ _ n _ ih _=>ih n) (fun _ _ _ _ _ _ _ _ _=>xcc _ _) (fun _ _ _ _ _ _ _ _ _=>xcc _ _)
  (fun h=>by simp [flats] at h) fun d _ _ _ _ _ _ _ i1 i2 h=>by
   cases e:d.flat with
   | false=>exact fun z=>i1 e (xbr.mp z).1
   | true =>
    simp only [flats,e,Bool.true_and] at h
    exact fun z=>i2 h (xbr.mp z).2
theorem RepO.ne {d:D} {v:V} {As:List Addr} (r:RepO K Hs H true d v As) (h:d.flat=false):As≠[]:=RepO.ne2.1 r h
theorem aB.ne {ds:List D} {vs:List V} {As:List Addr} (r:aB K Hs H true ds vs As) (h:flats ds=false):As≠[]:=RepO.ne2.2 r h
theorem RepO.nil_of {fl:Bool} {d:D} {v:V} {As:List Addr} (r:RepO K Hs H fl d v As) (h:d.flat=true):As=[]:=by
 cases r with
 | sh _ _=>rfl
 | tup _ _ n _=>simp [D.flat,n] at h
 | _=>simp [D.flat] at h
def wpN (i:Nat):WP:=fun ρ Q=>match ρ[i]? with
 | some (some (.ow fl d))=>Q fl d fun fl2 d2=>ρ.set i (some (.ow fl2 d2))
 | _=>False
theorem SR.put {Hs H:Hp} {fl:Bool} {d:D} {ρ:Env} {σ:St} {tot:List Addr} (i:Nat) (s:SR K Hs H ρ σ tot):ρ[i]? = some (some (.ow fl d))->tot.Nodup ->
  ∃ (v:V) (As tot':List Addr),σ[i]? = some (some v)/\As≠[]/\RepO K Hs H fl d v As/\As.Sublist tot/\∀ Hs2 H2 fl2 d2 As2,Same Hs Hs2->RepO K Hs2 H2 fl2 d2 v As2->As2≠[]->As2.Nodup->(∀ a∈As2,a∈tot->a∈As)->(∀ a∈tot,a∉As->H2 a=H a) ->
   ∃ tot2,tot2.Nodup/\(∀ a∈tot2,a∈tot\/a∈As2)/\SR K Hs2 H2 (ρ.set i (some (.ow fl2 d2))) σ tot2:=by
 induction s generalizing i with
 | nil=>intro e; simp at e
 | @non ρ σ tot o q ih =>
  intro e n
  cases i with
  | zero=>simp at e
  | succ i =>
   obtain ⟨v,As,t,a,b,c,d,g⟩:=ih i (by simpa using e) n
   refine ⟨v,As,t,by simpa using a,b,c,d,fun Hs2 H2 fl2 d2 As2 s2 r2 ne2 nd2 dj st=>?_⟩
   obtain ⟨t2,x,y,z⟩:=g Hs2 H2 fl2 d2 As2 s2 r2 ne2 nd2 dj st
   exact ⟨t2,x,y,.non z⟩
 | sh r q ih =>
  intro e n
  cases i with
  | zero=>simp at e
  | succ i =>
   obtain ⟨v,As,t,a,b,c,d,g⟩:=ih i (by simpa using e) n
   refine ⟨v,As,t,by simpa using a,b,c,d,fun Hs2 H2 fl2 d2 As2 s2 r2 ne2 nd2 dj st=>?_⟩
   obtain ⟨t2,x,y,z⟩:=g Hs2 H2 fl2 d2 As2 s2 r2 ne2 nd2 dj st
   exact ⟨t2,x,y,.sh (r.same s2) z⟩
 | xc q ih =>
  intro e n
  cases i with
  | zero=>simp at e
  | succ i =>
   obtain ⟨v,As,t,a,b,c,d,g⟩:=ih i (by simpa using e) n
   refine ⟨v,As,t,by simpa using a,b,c,d,fun Hs2 H2 fl2 d2 As2 s2 r2 ne2 nd2 dj st=>?_⟩
   obtain ⟨t2,x,y,z⟩:=g Hs2 H2 fl2 d2 As2 s2 r2 ne2 nd2 dj st
   exact ⟨t2,x,y,.xc z⟩
 | @ow ρ σ t2 B fl0 d0 v ne r q ih =>
  intro e n
  obtain ⟨n1,n2,n3⟩:=xam.mp n
  cases i with
  | zero =>
   simp at e
   obtain ⟨rfl,rfl⟩:=e
   refine ⟨v,B,t2,rfl,ne,r,xa8 _ _,fun Hs2 H2 fl2 d2 As2 s2 r2 ne2 nd2 dj st=>⟨As2++t2,xam.mpr ⟨nd2,n2,fun a ha b hb e=>?_⟩,fun a h=>?_,.ow ne2 r2 (q.stay s2 fun a h=>st a (xae _ h) fun z=>n3 a z a h rfl)⟩⟩
   ·subst e
    exact n3 a (dj a ha (xae _ hb)) a hb rfl
   ·exact (xah.mp h).symm.imp (fun z=>xae _ z) id
  | succ i =>
   obtain ⟨v,As,t,a,b,c,d,g⟩:=ih i (by simpa using e) n2
   have hB:∀ x∈B,x∉As:=fun x hx m=>n3 x hx x (d.subset m) rfl
   refine ⟨v,As,B++t,by simpa using a,b,c,d.trans (xar _ _),fun Hs2 H2 fl2 d2 As2 s2 r2 ne2 nd2 dj st=>?_⟩
   obtain ⟨t2,x,y,z⟩:=g Hs2 H2 fl2 d2 As2 s2 r2 ne2 nd2 (fun a ha m=>dj a ha (xae _ m)) fun a ha m=>st a (xae _ ha) m
   refine ⟨B++t2,xam.mpr ⟨n1,x,fun a ha b hb e=>?_⟩,fun a h=>?_,.ow ne (r.stay s2 fun a h=>st a (xai _ h) (hB a h)) z⟩
   ·subst e
    rcases y a hb with w | w
    ·exact n3 a ha a w rfl
    ·exact hB a ha (dj a w (xai _ ha))
   ·rcases xah.mp h with w | w
    ·exact .inl (xai _ w)
    ·exact (y a w).imp (fun w=>xae _ w) id
 | @lk ρ σ t2 B a0 fl0 d0 ne r q ih =>
  intro e n
  obtain ⟨n1,n2,n3⟩:=xam.mp n
  cases i with
  | zero=>simp at e
  | succ i =>
   obtain ⟨v,As,t,a,b,c,d,g⟩:=ih i (by simpa using e) n2
   have hB:∀ x∈B,x∉As:=fun x hx m=>n3 x hx x (d.subset m) rfl
   refine ⟨v,As,B++t,by simpa using a,b,c,d.trans (xar _ _),fun Hs2 H2 fl2 d2 As2 s2 r2 ne2 nd2 dj st=>?_⟩
   obtain ⟨t2,x,y,z⟩:=g Hs2 H2 fl2 d2 As2 s2 r2 ne2 nd2 (fun a ha m=>dj a ha (xae _ m)) fun a ha m=>st a (xae _ ha) m
   refine ⟨B++t2,xam.mpr ⟨n1,x,fun a ha b hb e=>?_⟩,fun a h=>?_,.lk ne (r.stay s2 fun a h=>st a (xai _ h) (hB a h)) z⟩
   ·subst e
    rcases y a hb with w | w
    ·exact n3 a ha a w rfl
    ·exact hB a ha (dj a w (xai _ ha))
   ·rcases xah.mp h with w | w
    ·exact .inl (xai _ w)
    ·exact (y a w).imp (fun w=>xae _ w) id
theorem dD {X:Cx} {i:Nat} {e:Expr} (h:PE X e (tVar i)):QP X K e (wpN i):=PE.imp h fun σ H Qv hx=>ex4 hx fun Hs ρ tot Q sr h f=>by
 unfold wpN at h
 split at h
 ·rename_i fl d e1
  obtain ⟨v,As,t,e2,ne,r,sb,g⟩:=SR.put i sr.sr e1 sr.nod
  refine ⟨v,e2,f v H Hs fl d _ (Grow.refl sr.wf) ⟨As,r,ne,sb.nodup sr.nod,fun a h=>sr.own a (sb.subset h),fun Hs2 H2 fl2 d2 As2 s2 w2 n2 _ r2 ne2 nd2 o2 st=>?_⟩ h⟩
  obtain ⟨t2,x,y,z⟩:=g Hs2 H2 fl2 d2 As2 s2 r2 ne2 nd2 (fun a ha m=>(o2 a ha).2.elim id fun q=>absurd q (sr.sr.own a m).ne) fun a ha m=>st a (sr.sr.own a ha).ne m
  exact ⟨t2,z,w2,x,fun a h=>(y a h).elim (fun q=>n2 a (sr.own a q) (sr.sr.own a q).ne) fun q=>(o2 a q).1⟩
 ·exact h.elim
theorem RepO.wk {fl fl2:Bool} {d:D} {v:V} {As:List Addr} (h:fl2=true->fl=true) (r:RepO K Hs H fl d v As):RepO K Hs H fl2 d v As:=by
 cases fl2 with
 | false=>exact r.fls
 | true=>rw [h rfl] at r; exact r
theorem aB.wk {fl fl2:Bool} {d:List D} {v:List V} {As:List Addr} (h:fl2=true->fl=true) (r:aB K Hs H fl d v As):aB K Hs H fl2 d v As:=by
 cases fl2 with
 | false=>exact r.fls
 | true=>rw [h rfl] at r; exact r
theorem aB.at {fl:Bool} {ds:List D} {vs:List V} {As:List Addr} {j:Nat} {d:D} (r:aB K Hs H fl ds vs As) (e:ds[j]? = some d) (n:As.Nodup) :
  ∃ (v:V) (B:List Addr),vs[j]? = some v/\RepO K Hs H fl d v B/\B.Sublist As/\∀ Hs2 H2 fl2 d2 B2,Same Hs Hs2->(fl2=true->fl=true)->RepO K Hs2 H2 fl2 d2 v B2->B2.Nodup->(∀ a∈B2,a∈As->a∈B)->(∀ a∈As,a∉B->H2 a=H a) ->
   ∃ As2,As2.Nodup/\(∀ a∈As2,(a∈As/\a∉B)\/a∈B2)/\(B2≠[]->As2≠[])/\aB K Hs2 H2 fl2 (ds.set j d2) vs As2:=by
 induction ds generalizing vs As j with
 | nil=>simp at e
 | cons x ds ih =>
  obtain ⟨v,us,A,B,rfl,rfl,r,rs⟩:=r.c
  obtain ⟨n1,n2,n3⟩:=xam.mp n
  cases j with
  | zero =>
   simp at e
   subst e
   refine ⟨v,A,rfl,r,xa8 _ _,fun Hs2 H2 fl2 d2 B2 s2 hf r2 nd2 dj st=>⟨B2++B,xam.mpr ⟨nd2,n2,fun a ha b hb e=>?_⟩,fun a h=>?_,fun ne z=>ne (xbr.mp z).1,.cons r2 ((rs.wk hf).stay s2 fun a h=>st a (xae _ h) fun z=>n3 a z a h rfl)⟩⟩
   ·subst e
    exact n3 a (dj a ha (xae _ hb)) a hb rfl
   ·rcases xah.mp h with w | w
    ·exact .inr w
    ·exact .inl ⟨xae _ w,fun z=>n3 a z a w rfl⟩
  | succ j =>
   obtain ⟨v,C,a,b,c,g⟩:=ih (j:=j) rs (by simpa using e) n2
   have hA:∀ x∈A,x∉C:=fun x hx m=>n3 x hx x (c.subset m) rfl
   refine ⟨v,C,by simpa using a,b,c.trans (xar _ _),fun Hs2 H2 fl2 d2 B2 s2 hf r2 nd2 dj st=>?_⟩
   obtain ⟨As2,x,y,w,z⟩:=g Hs2 H2 fl2 d2 B2 s2 hf r2 nd2 (fun a ha m=>dj a ha (xae _ m)) fun a ha m=>st a (xae _ ha) m
   refine ⟨A++As2,xam.mpr ⟨n1,x,fun a ha b hb e=>?_⟩,fun a h=>?_,fun ne q=>w ne (xbr.mp q).2,.cons ((r.wk hf).stay s2 fun a h=>st a (xai _ h) (hA a h)) z⟩
   ·subst e
    rcases y a hb with q | q
    ·exact n3 a ha a q.1 rfl
    ·exact hA a ha (dj a q (xai _ ha))
   ·rcases xah.mp h with q | q
    ·exact .inl ⟨xai _ q,hA a q⟩
    ·exact (y a q).imp (fun q=>⟨xae _ q.1,q.2⟩) id
def wpIx (p:WP) (t:WE):WP:=fun ρ Q=>p ρ fun fl d up=>t ρ fun _ y=>fl=true/\match y with
 | .int i=>match d with
  | .list ds=>∃ j d',ixN ds.length i=some j/\ds[j]? = some d'/\d'.flat=false/\Q true d' fun fl2 d2=>up fl2 (.list (ds.set j d2))
  | .tup ds=>∃ j d',ixN ds.length i=some j/\ds[j]? = some d'/\d'.flat=false/\Q true d' fun fl2 d2=>up fl2 (.tup (ds.set j d2))
  | _=>False
 | _=>False
theorem yl {α:Type} {xs:List α} {i:Int} {j:Nat} {x:α} (h:ixN xs.length i=some j) (e:xs[j]? = some x):atI xs i=some x:=by unfold L2.atI; rw [h]; exact e
theorem xf {ds:List D} {j:Nat} {d:D} (e:ds[j]? = some d) (h:d.flat=false):flats ds=false:=by
 cases q:flats ds with
 | false=>rfl
 | true=>rw [fu.mp q d (xaH e)] at h; cases h
theorem vq {ds:List D} {j:Nat} {d d2:D} (e:ds[j]? = some d) (h:d2.flat=false):flats (ds.set j d2)=false:=by
 have hj:j<ds.length:=(xan.mp e).1
 exact xf (j:=j) (d:=d2) (by simp [hj]) h
theorem BR {X:Cx} {a b:Expr} {p:WP} {t:WE} {pos:Pos} (hu:X.A.units+64<cLine) (ha:QP X K a p) (hb:QE X K b t) (hs:PlainIx b:=by exact fun _ _=>rfl) (hK:X.K=K:=by rfl):QP X K (.Subscript a b pos) (wpIx p t):=by
 refine PE.imp (pe_ix (kIxD hu hK) ha hb hs) fun σ H Qv hx=>ex4 hx fun Hs ρ tot Q sr h f=>?_
 refine ⟨Hs,ρ,tot,_,sr,h,fun v H1 Hs1 fl d up g1 p1 q1=>⟨Hs1,ρ,tot,_,sr.grow g1,q1,fun u H2 Hs2 m y As g2 r2 f2 q2=>?_⟩⟩
 have p2:=p1.grow g2
 have gg:=g1.trans g2
 obtain ⟨rfl,q2⟩:=q2
 have ry:=r2.rep g2.wf
 cases ry with
 | int i =>
  obtain ⟨As',r,ne,nd,own,k⟩:=p2.ex
  cases r with
  | sh hf _=>exact absurd rfl ne
  | @list a0 vs0 ds0 A0 hz e rs =>
   obtain ⟨j,d',e1,e2,hd,q⟩:=q2
   obtain ⟨na,nb⟩:=xay.mp nd
   obtain ⟨w,B,e3,r3,sb,g⟩:=rs.at e2 nb
   refine .inl (.inl ⟨_,w,.inl (.inl e),yl (by rw [<- rs.length]; exact e1) e3,f w H2 Hs2 true d' _ gg ⟨B,r3,r3.ne hd,sb.nodup nb,fun a h=>own a (xac _ (sb.subset h)),fun Hs3 H3 fl3 d3 As3 s3 w3 n3 hf r4 ne3 nd3 o3 st=>?_⟩ q⟩)
   have st':∀ x∈A0,x∉B->H3 x=H2 x:=fun x hx m=>st x (rs.own x hx).ne m
   obtain ⟨As4,x4,y4,z4,r5⟩:=g Hs3 H3 fl3 d3 As3 s3 hf r4 nd3 (fun a ha m=>(o3 a ha).2.elim id fun q=>absurd q (rs.own a m).ne) st'
   have eA:H3 a0=H2 a0:=st a0 (by rw [e]; exact fun z=>nomatch z) fun m=>na (sb.subset m)
   have cl:∀ a∈As4,Hs3 a=none/\(a∈a0 :: A0\/H2 a=none):=fun a h=>by
    rcases y4 a h with ⟨m,_⟩ | m
    ·exact ⟨n3 a (own a (xac _ m)) (rs.own a m).ne,.inl (xac _ m)⟩
    ·exact ⟨(o3 a m).1,(o3 a m).2.imp (fun q=>xac _ (sb.subset q)) id⟩
   refine k Hs3 H3 fl3 (.list _) (_ :: As4) s3 w3 n3 hf (.list hz (eA.trans e) r5) (by simp) (xay.mpr ⟨fun m=>?_,x4⟩) (fun a h=>?_) fun a h1 h2=>st a h1 fun m=>h2 (xac _ (sb.subset m))
   ·rcases y4 _ m with ⟨q,_⟩ | q
    ·exact na q
    ·rcases (o3 _ q).2 with q | q
     ·exact na (sb.subset q)
     ·rw [e] at q; cases q
   ·rcases xaj.mp h with rfl | h
    ·exact ⟨n3 _ (own _ xad) (by rw [e]; exact fun z=>nomatch z),.inl xad⟩
    ·exact cl a h
  | tup hz e hn rs =>
   obtain ⟨j,d',e1,e2,hd,q⟩:=q2
   obtain ⟨w,B,e3,r3,sb,g⟩:=rs.at e2 nd
   refine .inl (.inr ⟨_,w,.inl (.inl (g2.wf.sub _ _ e)),yl (by rw [<- rs.length]; exact e1) e3,f w H2 Hs2 true d' _ gg ⟨B,r3,r3.ne hd,sb.nodup nd,fun a h=>own a (sb.subset h),fun Hs3 H3 fl3 d3 As3 s3 w3 n3 hf r4 ne3 nd3 o3 st=>?_⟩ q⟩)
   obtain ⟨As4,x4,y4,z4,r5⟩:=g Hs3 H3 fl3 d3 As3 s3 hf r4 nd3 (fun a ha m=>(o3 a ha).2.elim id fun q=>absurd q (rs.own a m).ne) (fun x hx m=>st x (rs.own x hx).ne m)
   have hn2:flats (List.set _ j d3)=false:=vq e2 (by
    cases hh:d3.flat with
    | false=>rfl
    | true=>exact absurd (r4.nil_of hh) ne3)
   refine k Hs3 H3 fl3 (.tup _) As4 s3 w3 n3 hf (.tup hz (s3 _ _ e) hn2 r5) (z4 ne3) x4 (fun a h=>?_) fun a h1 h2=>st a h1 fun m=>h2 (sb.subset m)
   rcases y4 a h with ⟨m,_⟩ | m
   ·exact ⟨n3 a (own a m) (rs.own a m).ne,.inl m⟩
   ·exact ⟨(o3 a m).1,(o3 a m).2.imp (fun q=>sb.subset q) id⟩
  | _=>exact q2.elim
 | _=>exact q2.elim
end
section
variable {X:Cx} {K:PySem.W.Frag} {e:Expr} {p:WP} {te:WE} {apos cpos pos:Pos}
def lN (fl:Bool) (m:Md) (d:D):Option Bool:=match m with
 | .sh=>some (fl && d.flat)
 | .ow b=>some (fl && b)
 | .bo=>bif d.flat then some fl else none
def wApp (p:WP) (te:WE):WS:=fun E ρ=>p ρ fun fl d up=>match d with
 | .list xs=>te ρ fun m x=>xs.length<sizeLine/\match lN fl m x with
  | some fl2=>E.nx (up fl2 (.list (xs++[x])))
  | none=>False
 | _=>False
theorem vP {Hs H:Hp} {fl fl2:Bool} {m:Md} {d:D} {v:V} {As:List Addr} (w:Wf Hs H) (r:RM K Hs H m d v As) (h:lN fl m d=some fl2):(fl2=true->fl=true)/\∃ B,B.Sublist As/\RepO K Hs H fl2 d v B:=by
 cases m with
 | sh =>
  cases h
  exact ⟨fun z=>by cases fl <;> simp_all,[],xbq _,.sh (fun z=>by cases fl <;> simp_all) r.2⟩
 | ow b =>
  cases h
  refine ⟨fun z=>by cases fl <;> simp_all,As,List.Sublist.refl _,r.1.wk fun z=>by cases fl <;> simp_all⟩
 | bo =>
  cases hf:d.flat with
  | true =>
   simp only [lN,hf,cond_true,Option.some.injEq] at h
   subst h
   exact ⟨id,[],xbq _,.sh (fun _=>hf) (r.flat w hf)⟩
  | false=>simp [lN,hf] at h
theorem Place.put {Hs1 H1 Hs2 H2:Hp} {σ:St} {fl:Bool} {xs:List D} {v:V} {up:Bool->D->Env} (pl:Place K Hs1 H1 σ fl (.list xs) v up) (g:Grow Hs1 H1 Hs2 H2) :
  ∃ a vs A,v=.ref a/\H2 a=some (.lst vs)/\H1 a=some (.lst vs)/\aB K Hs2 H2 fl xs vs A/\(a :: A).Nodup/\(∀ x∈a :: A,Hs2 x=none/\H1 x≠none) /\
   ∀ fl2 ys ws C,(fl2=true->fl=true)->aB K Hs2 H2 fl2 ys ws C->ws.length<=sizeLine->C.Nodup->a∉C->(∀ x∈C,x∈A\/(Hs2 x=none/\H1 x=none))->∃ tot2,SRel K Hs2 (up fl2 (.list ys)) σ (upd H2 a (.lst ws)) tot2:=by
 obtain ⟨As',r,ne,nd,own,k⟩:=pl.ex
 cases r with
 | sh hf _=>exact absurd rfl ne
 | @list a vs _ A hz e rs =>
  have e2:=g.all _ _ e
  have rs2:=rs.grow g.sh g.all
  have hw:∀ x∈a :: A,Hs1 x=none/\H1 x≠none:=fun x hx=>⟨own x hx,by
   rcases xaj.mp hx with rfl | hx
   ·rw [e]; exact fun z=>nomatch z
   ·exact (rs.own x hx).ne⟩
  exact ⟨a,vs,A,rfl,e2,e,rs2,nd,fun x hx=>⟨g.hsn (hw x hx).1 (hw x hx).2,(hw x hx).2⟩,fun fl2 ys ws C hf rw' hz ndC naC hC=>k.node g hw (fun _ z=>by cases z) hf (.list hz upd_same (rw'.stay (Same.refl _) fun b hb=>upd_ne fun z=>naC (by subst z; exact hb))) ndC naC hC⟩
theorem Place.isL {Hs1 H1:Hp} {σ:St} {fl:Bool} {xs:List D} {v:V} {up:Bool->D->Env} (w:Wf Hs1 H1) (pl:Place K Hs1 H1 σ fl (.list xs) v up):∃ a vs,v=.ref a/\SqL K H1 a vs:=by
 obtain ⟨As',r,ne,nd,own,k⟩:=pl.ex
 cases r with
 | sh hf _=>exact absurd rfl ne
 | list hz e rs=>exact ⟨_,_,rfl,.inl (.inl e)⟩
theorem qO (ho:QP X K e p) {e2:Expr} (he:QE X K e2 te) (hK:X.K=K:=by rfl) (hs:swapsWith (.Call (.Attribute e "append" apos) [e2] [] cpos) none pos.line X.env=pure false:=by rfl)
  (hbase:attributeBase e "append" X.env (eval e X.env)=eval e X.env:=by rfl)
  (hfew:((backTo cpos (starEach [e2] X.env)).all (fun x=>!x.1) && (backToKw cpos (keywordEach [] X.env)).all (fun x=>x.1.isSome)
   && decide ([e2].length+([]:List Keyword).length+(if ([]:List Keyword).isEmpty then 0 else 1)<30))=true:=by rfl)
  (hline:(apos.endLine == cpos.line)=true:=by rfl) (hss:starEach (e2 :: []) X.env=(false,eval e2 X.env) :: starEach [] X.env:=by rfl) (hplain:(backTo cpos (starEach [] X.env)).any (·.1)=false:=by rfl) :
  QS X K L (.Expr (.Call (.Attribute e "append" apos) [e2] [] cpos) pos) (wApp p te):=by
 subst hK
 refine PS.imp (ps_expr (pe_bm PySem.F.plainAttrs_list PySem.F.slot_list_append PySem.F.type_list_append mt_append ho (pa_cons he pa_nil hss) hbase hfew hline hss hplain) hs) fun D σ H hx=>gj hx fun Hs ρ tot E sr h k1 k2 k3 k4=>?_
 refine ⟨Hs,ρ,tot,_,sr,h,fun v H1 Hs1 fl d up g1 p1 q1=>?_⟩
 cases d with
 | list xs =>
  obtain ⟨a1,vs1,e1,s1⟩:=p1.isL g1.wf
  subst e1
  refine ⟨.inl ⟨rfl,_,s1⟩,Hs1,ρ,tot,_,sr.grow g1,q1,fun y H2 Hs2 m x As g2 r2 f2 q2=>?_⟩
  obtain ⟨hz,q2⟩:=q2
  obtain ⟨a,vs,A,ea,e2,_,rs,nd,hn,k⟩:=p1.put g2
  cases ea
  have hl:=rs.length
  refine ⟨a1,vs,y,rfl,rfl,e2,by lia,?_⟩
  cases hp:lN fl m x with
  | none=>rw [hp] at q2; exact q2.elim
  | some fl2 =>
   rw [hp] at q2
   obtain ⟨hf,B,sb,rb⟩:=vP g2.wf r2 hp
   obtain ⟨na,nA⟩:=xay.mp nd
   have fB:∀ x∈B,Hs2 x=none/\H1 x=none:=fun x hx=>f2.2 x (sb.subset hx)
   have c1:(A++(B++[])).Nodup:=by
    rw [xaI]
    exact xam.mpr ⟨nA,sb.nodup f2.1,fun x hx z hz e=>by subst e; exact (hn x (xac _ hx)).2 (fB x hz).2⟩
   have c2:a1∉A++(B++[]):=by
    rw [xaI]
    intro m
    rcases xah.mp m with m | m
    ·exact na m
    ·exact (hn _ xad).2 (fB _ m).2
   have c3:∀ x∈A++(B++[]),x∈A\/(Hs2 x=none/\H1 x=none):=by
    rw [xaI]
    intro x hx
    exact (xah.mp hx).imp id fun z=>fB x z
   obtain ⟨tot2,sr2⟩:=k fl2 (xs++[x]) (vs++[y]) (A++(B++[])) hf ((rs.wk hf).append (.cons rb .nil)) (by rw [xaA]; simp; lia) c1 c2 c3
   exact k1 σ _ Hs2 _ tot2 (g1.sh.trans g2.sh) sr2 q2
 | _=>exact q1.elim
def jQ:WE:=fun _ Q=>Q (.ow true) (.dT [])
theorem jV:QE X K (.Dict [] [] pos) jQ:=PE.imp pe_dnewT fun σ H Qv hx=>ex4 hx fun Hs ρ tot Q sr h f=>fun a ha =>
 f _ _ Hs (.ow true) (.dT []) [a] (newL sr.wf ha fun _ z=>nomatch z) ⟨.dT (vs:=[]) ⟨xap _,fun p hp=>nomatch hp⟩ upd_same .nil,by simp⟩ ⟨by simp,fun b hb=>by
  obtain rfl:b=a:=by simpa using hb
  exact ⟨sr.wf.sub.free ha,ha⟩⟩ h
section
variable {κ:Type} [DecidableEq κ]
theorem uf {Hs H:Hp} {fl:Bool} {k:κ} {d:D} {v:V} (r:RepO K Hs H fl d v []) {kvs:List (κ × D)} {vs:List V} {As:List Addr} (qs:aB K Hs H fl (kvs.map (·.2)) vs As):∃ ws Bs,Bs.Sublist As /\
  aB K Hs H fl ((kvs.map fun kv=>if kv.1=k then (kv.1,d) else kv).map (·.2)) ws Bs/\((kvs.map (·.1)).zip vs).map (fun kv=>if kv.1=k then (kv.1,v) else kv)=(((kvs.map fun kv=>if kv.1=k then (kv.1,d) else kv)).map (·.1)).zip ws:=by
 induction kvs generalizing vs As with
 | nil=>exact ⟨[],[],xbq _,.nil,rfl⟩
 | cons p kvs ih =>
  obtain ⟨u,vs,A,B,rfl,rfl,q,qs⟩:=aB.c (d:=p.2) qs
  obtain ⟨ws,Bs,sb,rs,e⟩:=ih qs
  by_cases h:p.1=k
  ·refine ⟨v :: ws,[]++Bs,by simpa using sb.trans (xar _ _),?_,?_⟩
   ·simp only [xas,h,if_true]
    exact .cons r rs
   ·simp only [xas,xa9,h,if_true,e]
  ·refine ⟨u :: ws,A++Bs,sb.append_left _,?_,?_⟩
   ·simp only [xas,h,if_false]
    exact .cons q rs
   ·simp only [xas,xa9,h,if_false,e]
theorem wj {Hs H:Hp} {fl:Bool} {k:κ} {d:D} {v:V} (r:RepO K Hs H fl d v []) {kvs:List (κ × D)} {vs:List V} {As:List Addr} (q:aB K Hs H fl (kvs.map (·.2)) vs As) :
  ∃ ws Bs,Bs.Sublist As/\aB K Hs H fl ((putG kvs k d).map (·.2)) ws Bs/\putK ((kvs.map (·.1)).zip vs) k v=((putG kvs k d).map (·.1)).zip ws:=by
 have hl:=q.length
 rw [xab] at hl
 unfold putK putG
 rw [Ab hl]
 cases h:kvs.any fun kv=>decide (kv.1=k) with
 | true =>
  simp only [if_true]
  exact uf r q
 | false =>
  simp only [xaq,if_false]
  refine ⟨vs++[v],As++([]++[]),by simp,?_,?_⟩
  ·rw [xaP]
   exact q.append (.cons r .nil)
  ·rw [xaP,List.zip_append (by rw [xab]; exact hl)]
   rfl
theorem uw {Hs H:Hp} {fl:Bool} {k:κ} {d:D} {v:V} (r:Rep K Hs d v) (hd:d.flat=true) {kvs:List (κ × D)} {vs:List V} {As:List Addr} (q:aB K Hs H fl (kvs.map (·.2)) vs As) :
  ∃ ws Bs,Bs.Sublist As/\aB K Hs H fl ((putG kvs k d).map (·.2)) ws Bs/\putK ((kvs.map (·.1)).zip vs) k v=((putG kvs k d).map (·.1)).zip ws:=wj (.sh (fun _=>hd) r) q
theorem jl {β:Type} (kvs:List (κ × β)) (k:κ) (v:β):(putG kvs k v).length<=kvs.length+1:=by
 unfold putG
 split
 ·rw [xab]; exact xaU _ _
 ·simp
theorem mW {β:Type} {kvs:List (κ × β)} {k:κ} {v:β} {p:κ × β} (h:p∈putG kvs k v):p.1=k\/p.1∈kvs.map (·.1):=by
 unfold putG at h
 split at h
 ·obtain ⟨q,hq,e⟩:=xao.mp h
  by_cases hk:q.1=k
  ·rw [if_pos hk] at e; subst e; exact .inl hk
  ·rw [if_neg hk] at e; subst e; exact .inr (xao.mpr ⟨q,hq,rfl⟩)
 ·rcases xah.mp h with h | h
  ·exact .inr (xao.mpr ⟨p,h,rfl⟩)
  ·have:p=(k,v):=by simpa using h
   subst this; exact .inl rfl
end
def oH (p:WP) (tk tv:WE):WS:=fun E ρ=>tv ρ fun _ x=>p ρ fun fl d up=>tk ρ fun _ y=>x.flat=true/\match d with
 | .dK kvs=>∃ k,y.key1=some k/\kvs.length<sizeLine/\E.nx (up fl (.dK (putG kvs k x)))
 | .dT kvs=>match y with
  | .tup ys=>∃ ks,dq ys=some ks/\kvs.length<sizeLine/\E.nx (up fl (.dT (putG kvs ks x)))
  | _=>False
 | _=>False
theorem uH {H:Hp} {d:D} {v:V} {k:Key} (r:Rep K H d v) (h:d.key1=some k):kOk k=true:=by
 cases r <;> simp [D.key1] at h <;> subst h
 ·rfl
 ·rename_i hz; simp [kOk,hz]
theorem qP {H:Hp} {ds:List D} {vs:List V} {ks:List Key} (r:Reps K H ds vs) (h:dq ds=some ks):ks.length=ds.length/\∀ k∈ks,kOk k=true:=by
 induction ds generalizing vs ks with
 | nil=>simp [dq] at h; subst h; exact ⟨rfl,fun k hk=>nomatch hk⟩
 | cons d ds ih =>
  obtain ⟨u,us,rfl,r,rs⟩:=r.c
  unfold dq at h
  cases e1:d.key1 with
  | none=>rw [e1] at h; simp at h
  | some k =>
   cases e2:dq ds with
   | none=>rw [e1,e2] at h; simp at h
   | some ks' =>
    rw [e1,e2] at h
    simp at h
    subst h
    obtain ⟨a,b⟩:=ih rs e2
    refine ⟨by simp [a],fun j hj=>?_⟩
    rcases xaj.mp hj with rfl | hj
    ·exact uH r e1
    ·exact b j hj
theorem jK {a b c:Expr} {tk tv:WE} {pos':Pos} (hu:X.A.units+64<cLine) (ho:QP X K a p) (hi:QE X K b tk) (hv:QE X K c tv) (hs:swapsWith c (some (.Subscript a b pos')) pos.line X.env=pure false:=by rfl) :
  QS X K L (.Assign [.Subscript a b pos'] c pos) (oH p tk tv):=by
 refine PS.imp (ps_dput (by lia) ho hi hv hs) fun D σ H hx=>gj hx fun Hs ρ tot E sr h k1 k2 k3 k4=>?_
 refine ⟨Hs,ρ,tot,_,sr,h,fun v H1 Hs1 m1 x As1 g1 r1 f1 q1=>⟨Hs1,ρ,tot,_,sr.grow g1,q1,fun u H2 Hs2 fl d up g2 p2 q2=>⟨Hs2,ρ,tot,_,(sr.grow g1).grow g2,q2,fun y H3 Hs3 m3 yd As3 g3 r3 f3 q3=>?_⟩⟩⟩
 obtain ⟨hx,q3⟩:=q3
 have rx:Rep K Hs3 x v:=((r1.grow g2).grow g3).flat g3.wf hx
 have ry:=r3.rep g3.wf
 obtain ⟨As',r,ne,nd,own,k⟩:=p2.ex
 have sm:Same Hs Hs3:=(g1.sh.trans g2.sh).trans g3.sh
 have lv:∀ x∈As',Hs2 x=none/\H2 x≠none:=fun x hx=>⟨own x hx,(r.own x hx).ne⟩
 cases r with
 | sh hf _=>exact absurd rfl ne
 | @dK a0 vs kvs A kk e rs =>
  obtain ⟨key,hk,hz,q⟩:=q3
  have ey:=ry.key hk
  subst ey
  obtain ⟨na,nA⟩:=xay.mp nd
  obtain ⟨ws,Bs,sb,rw',ew⟩:=uw (k:=key) rx hx (rs.grow g3.sh g3.all)
  have hl:kvs.length=vs.length:=by have:=rs.length; rwa [xab] at this
  refine ⟨a0,_,rfl,DPut.k (g3.all _ _ e) (by rw [xbS,xab,<- hl,xcj]; exact hz),?_⟩
  rw [ew]
  have nB:a0∉Bs:=fun z=>na (sb.subset z)
  obtain ⟨tot2,sr2⟩:=k.node (fl2:=fl) (d2:=.dK (putG kvs key x)) g3 lv (fun _ z=>by cases z) id (.dK ⟨xaB (jl _ _ _) hz,fun p hp=>(mW hp).elim (fun z=>by rw [z]; exact uH ry hk) fun z=>by obtain ⟨p',hp',e'⟩:=xao.mp z; rw [<- e']; exact kk.2 p' hp'⟩ upd_same (rw'.stay (Same.refl _) fun b hb=>upd_ne fun z=>nB (by subst z; exact hb)))
   (sb.nodup nA) nB fun b hb=>.inl (sb.subset hb)
  exact k1 σ _ Hs3 _ tot2 sm sr2 q
 | @dT a0 vs kvs A kk e rs =>
  cases ry with
  | tup t1 e1 q1' =>
   obtain ⟨key,hk,hz,q⟩:=q3
   obtain ⟨b,eb,e5⟩:=Rep.keyT (.tup t1 e1 q1') hk
   cases eb
   obtain ⟨kl,ko⟩:=qP q1' hk
   obtain ⟨na,nA⟩:=xay.mp nd
   obtain ⟨ws,Bs,sb,rw',ew⟩:=uw (k:=key) rx hx (rs.grow g3.sh g3.all)
   have hl:kvs.length=vs.length:=by have:=rs.length; rwa [xab] at this
   refine ⟨a0,_,rfl,DPut.t (g3.all _ _ e) e5 (by rw [xbS,xab,<- hl,xcj]; exact hz),?_⟩
   rw [ew]
   have nB:a0∉Bs:=fun z=>na (sb.subset z)
   have l1:=q1'.length
   obtain ⟨tot2,sr2⟩:=k.node (fl2:=fl) (d2:=.dT (putG kvs key x)) g3 lv (fun _ z=>by cases z) id (.dT ⟨xaB (jl _ _ _) hz,fun p hp=>(mW hp).elim (fun z=>by rw [z]; exact ⟨by lia,ko⟩) fun z=>by obtain ⟨p',hp',e'⟩:=xao.mp z; rw [<- e']; exact kk.2 p' hp'⟩ upd_same (rw'.stay (Same.refl _) fun b hb=>upd_ne fun z=>nB (by subst z; exact hb)))
    (sb.nodup nA) nB fun b hb=>.inl (sb.subset hb)
   exact k1 σ _ Hs3 _ tot2 sm sr2 q
  | _=>exact q3.elim
 | _=>exact q3.elim
end
abbrev WJ:=Env->Str->(Str->Prop)->Prop
section
variable {X:Cx} {K:PySem.W.Frag} {e:Expr} {te:WE}
def je:List D->Option (List Str)
 | []=>some []
 | .str x :: xs=>(je xs).map (x :: ·)
 | _ :: _=>none
def jG (to te:WE):WE:=fun ρ Q=>to ρ fun _ x=>match x with
 | .str z=>te ρ fun _ y=>match y with
  | .list ys=>∃ zs,je ys=some zs/\(zs.map (·.length)).sum+zs.length * z.length<=16777216/\Q .sh (.str (Str.join z zs))
  | _=>False
 | _=>False
theorem wI {H:Hp} {ds:List D} {vs:List V} {us:List Value} {zs:List Str} (r:Reps K H ds vs) (q:Vals vs us) (h:je ds=some zs):StrsAre us zs:=by
 induction ds generalizing vs us zs with
 | nil =>
  simp [je] at h
  subst h
  have:=r.n0
  subst this
  rw [Paired.n0 q]; exact .nil
 | cons d ds ih =>
  obtain ⟨v,vs,rfl,r1,rs⟩:=r.c
  obtain ⟨u,us,rfl,q1,qs⟩:=Paired.c q
  cases r1 with
  | str hz =>
   simp only [je] at h
   cases e:je ds with
   | none=>rw [e] at h; cases h
   | some ys =>
    rw [e] at h
    cases h
    obtain ⟨t,rfl⟩:=q1
    exact .cons _ t (ih rs qs e)
  | _=>simp [je] at h
theorem zc (hK:X.K=K:=by rfl):MtR X "str.join" (fun x xs H Q=>∃ z a ds vs zs,x=.str z/\xs=[.ref a]/\SqL K H a vs/\Reps K H ds vs/\je ds=some zs/\(zs.map (·.length)).sum+zs.length * z.length<=16777216/\Q (.str (Str.join z zs)) H):=by
 subst hK
 intro pins s σ H x xs v us Q I rx rs h
 obtain ⟨z,a,ds,vs,zs,rfl,rfl,hs,rr,e,hz,q⟩:=h
 obtain ⟨t,rfl⟩:=rx
 obtain ⟨u,rfl,ru⟩:=Vals.one rs
 cases ru
 obtain ⟨its,rv,pl,_⟩:=I.list hs
 exact join_list pl.isList (by simpa using wI rr rv e) hz fun t' k=>⟨.str _,H,I.tok _,⟨t',rfl⟩,by rw [show Txt.join z zs=Str.join z zs from StrLaws.glued_eq_join z zs]; exact q⟩
theorem qZ {z:Str}:∀ {zs:List Str},(Str.join z zs).length<=(zs.map (·.length)).sum+zs.length * z.length
 | []=>by show Str.empty.length<=_; exact xaB (show Str.empty.length<=0 by decide) (xap _)
 | [x]=>by simp [Str.join]
 | x :: y :: r=>by
  have ih:=qZ (z:=z) (zs:=y :: r)
  show (x++z++Str.join z (y :: r)).length<=_
  rw [cX,cX]
  simp only [xas,List.sum_cons,xaL,Nat.add_mul,Nat.one_mul] at ih ⊢
  lia
theorem qY {o:Expr} {to:WE} {apos cpos:Pos} (ho:QE X K o to) (he:QE X K e te) (hK:X.K=K:=by rfl)
  (hbase:attributeBase o "join" X.env (eval o X.env)=eval o X.env:=by rfl)
  (hfew:((backTo cpos (starEach [e] X.env)).all (fun x=>!x.1) && (backToKw cpos (keywordEach [] X.env)).all (fun x=>x.1.isSome)
   && decide ([e].length+([]:List Keyword).length+(if ([]:List Keyword).isEmpty then 0 else 1)<30))=true:=by rfl)
  (hline:(apos.endLine == cpos.line)=true:=by rfl) (hss:starEach (e :: []) X.env=(false,eval e X.env) :: starEach [] X.env:=by rfl) (hplain:(backTo cpos (starEach [] X.env)).any (·.1)=false:=by rfl) :
  QE X K (.Call (.Attribute o "join" apos) [e] [] cpos) (jG to te):=by
 subst hK
 refine PE.imp (pe_bm PySem.F.plainAttrs_str PySem.F.slot_str_join PySem.F.type_str_join zc ho (pa_cons he pa_nil hss) hbase hfew hline hss hplain) fun σ H Qv hx=>ex4 hx fun Hs ρ tot Q sr h f=>?_
 refine ⟨Hs,ρ,tot,_,sr,h,fun v H1 Hs1 m x As g1 r1 f1 q1=>?_⟩
 have r:=r1.rep g1.wf
 cases r with
 | str hz =>
  refine ⟨rfl,Hs1,ρ,tot,_,sr.grow g1,q1,fun y H2 Hs2 m2 x2 As2 g2 r2 f2 q2=>?_⟩
  have rr:=r2.rep g2.wf
  cases rr with
  | list z s rs =>
   obtain ⟨zs,e,hz,q⟩:=q2
   exact ⟨_,_,_,_,zs,rfl,rfl,s,rs,e,hz,Fin.sh (Fin.after f (g1.trans g2)) g2.wf (.str (xaB qZ (by rw [sizeLine_eq]; exact hz))) q⟩
  | _=>exact q2.elim
 | _=>exact q1.elim
def keyT (k:List Key):D:=.tup (k.map keyD)
def Ci:W1:=fun _ x Q=>match x with
 | .list xs=>∃ ks sh,xs=ks.map keyT/\(∀ k∈ks,shOf k=true :: sh)/\∀ ms:List (List Key),ms.Perm ks->(ms.Pairwise fun a b=>ltK b a=false)->Q (.ow true) (.list (ms.map keyT))
 | _=>False
theorem oZ:bootBuiltins "sorted" = some (.builtin "sorted"):=by decide +kernel
end
def shF (A:List Addr) (F:Nat->List Addr):Nat->List Addr
 | 0=>A
 | i+1=>F i
def Adr (K:PySem.W.Frag) (Hs H:Hp) (ρ:Env) (σ:St) (tot:List Addr) (F:Nat->List Addr):Prop:=(∀ i fl d,ρ[i]? = some (some (.ow fl d))->∃ v,σ[i]? = some (some v)/\F i≠[]/\RepO K Hs H fl d v (F i)) /\
  (∀ i,(F i).Sublist tot)/\∀ i j,i≠j->∀ a∈F i,a∉F j
theorem Adr.skip {K:PySem.W.Frag} {Hs H:Hp} {ρ:Env} {σ:St} {tot:List Addr} {F:Nat->List Addr} {o:Option Sl} {u:Option V} (h:Adr K Hs H ρ σ tot F) (no:∀ fl d,o≠some (.ow fl d)):Adr K Hs H (o :: ρ) (u :: σ) tot (shF [] F):=by
 obtain ⟨a,b,c⟩:=h
 refine ⟨fun i fl d e=>?_,fun i=>?_,fun i j ne x hx=>?_⟩
 ·cases i with
  | zero=>simp at e; exact absurd e (no fl d)
  | succ i=>exact a i fl d (by simpa using e)
 ·cases i with
  | zero=>exact xbq _
  | succ i=>exact b i
 ·cases i with
  | zero=>exact mem0 hx
  | succ i =>
   cases j with
   | zero=>exact fun z=>mem0 z
   | succ j=>exact c i j (fun z=>ne (by rw [z])) x hx
theorem Adr.own {K:PySem.W.Frag} {Hs H:Hp} {ρ:Env} {σ:St} {tot B:List Addr} {F:Nat->List Addr} {sl:Sl} {v:V} (h:Adr K Hs H ρ σ tot F) (n:(B++tot).Nodup) (hs:∀ fl d,sl=.ow fl d->B≠[]/\RepO K Hs H fl d v B):Adr K Hs H (some sl :: ρ) (some v :: σ) (B++tot) (shF B F):=by
 obtain ⟨a,b,c⟩:=h
 obtain ⟨n1,n2,n3⟩:=xam.mp n
 refine ⟨fun i fl d e=>?_,fun i=>?_,fun i j ne x hx=>?_⟩
 ·cases i with
  | zero=>simp at e; exact ⟨v,rfl,hs fl d e⟩
  | succ i=>exact a i fl d (by simpa using e)
 ·cases i with
  | zero=>exact xa8 _ _
  | succ i=>exact (b i).trans (xar _ _)
 ·cases i with
  | zero =>
   cases j with
   | zero=>exact absurd rfl ne
   | succ j=>exact fun z=>n3 x hx x ((b j).subset z) rfl
  | succ i =>
   cases j with
   | zero=>exact fun z=>n3 x z x ((b i).subset hx) rfl
   | succ j=>exact c i j (fun z=>ne (by rw [z])) x hx
abbrev Plan:=List (WE ⊕ Nat)
def movS:Option (Option Sl)->Option (Md × D)
 | some (some (.sh d))=>some (.sh,d)
 | some (some (.ow fl d))=>some (.ow fl,d)
 | _=>none
def spLaw:SpD:=fun ds Q=>∃ ns:List Int,ds=[.list (ns.map .int)]/\ns.length<=63/\∀ m,Q m (.bl true)
theorem ints_rep {K:PySem.W.Frag} {H:Hp}:∀ (ns:List Int),Reps K H (ns.map .int) (ns.map V.int)
 | []=>.nil
 | n :: ns=>.cons (.int n) (ints_rep ns)
theorem wy {K:PySem.W.Frag} {H:Hp} {a:Addr} {ns:List Int} {E:XK} (hl:ns.length<=63) (hS:SqL K H a (ns.map V.int)):aD K spLaw [.ref a] H (fun v _=>v=.bl true) E:=by
 refine ⟨[.list (ns.map .int)],fun _ d=>d=.bl true,.cons (.list (by rw [xab]; exact xaB hl (by decide)) hS (ints_rep ns)) .nil,⟨ns,rfl,hl,fun _=>rfl⟩,?_⟩
 intro v H' Hs' m d As s w r nd own q
 subst q
 have:=r.rep w
 cases this
 rfl
abbrev sg (x:Str):List Nat:=x.cps.toList
theorem qJ (x y:Str):sg (x++y)=sg x++sg y:=by
 show (x.cps++y.cps).toList=_
 simp [sg]
theorem empty_app (x:Str):Str.empty++x=x:=tK (by rw [<- sg,qJ]; rfl)
def okS (x:Str):Prop:=∀ c∈sg x,c<0x110000
theorem yx (x:Str):PyData.strOk x=true↔okS x:=by
 unfold PyData.strOk okS sg
 rw [Array.all_eq_true']
 simp
theorem atI0 {α:Type} (x:α) (l:List α):atI (x :: l) 0=some x:=by simp [L2.atI,ixN]
theorem atI1 {α:Type} (x y:α) (l:List α):atI (x :: y :: l) 1=some y:=by
 have:=atI_nat (xs:=x :: y :: l) (j:=1) (v:=y) rfl
 exact this
theorem atI2 {α:Type} (x y z:α) (l:List α):atI (x :: y :: z :: l) 2=some z:=by
 have:=atI_nat (xs:=x :: y :: z :: l) (j:=2) (v:=z) rfl
 exact this
theorem Br:Str.empty.length=0:=by decide
end L2.Q
namespace L2.Q.R
open PySem PySem.Spec PyProof.Rows L2.Q
section
variable {f:D->Prop} {k:Kt f}
theorem Ho:onK .non k=f .non:=rfl
theorem H_ {b:Bool}:onK (.bl b) k=f (.bl b):=rfl
theorem Hg {i:Int}:onK (.int i) k=f (.int i):=rfl
theorem Hl {x:Str}:onK (.str x) k=f (.str x):=rfl
theorem Ep {xs:List D}:onK (.list xs) k=f (.list xs):=rfl
theorem F_ {xs:List D}:onK (.tup xs) k=f (.tup xs):=rfl
theorem Je {xs:List (Key × D)}:onK (.dK xs) k=f (.dK xs):=rfl
theorem Iw {xs:List (List Key × D)}:onK (.dT xs) k=f (.dT xs):=rfl
end
theorem Em {f:Bool->Prop} {k:Kt f}:onK true k=f true:=rfl
theorem De {f:Bool->Prop} {k:Kt f}:onK false k=f false:=rfl
theorem Hf {d:D} {f:Md × D->Prop} {k:Kt f}:onK (Md.sh,d) k=f (.sh,d):=rfl
theorem Hk {b:Bool} {d:D} {f:Md × D->Prop} {k:Kt f}:onK (Md.ow b,d) k=f (.ow b,d):=rfl
theorem Gj {d:D} {f:Md × D->Prop} {k:Kt f}:onK (Md.bo,d) k=f (.bo,d):=rfl
theorem FJ {d:D} {f:Option Sl->Prop} {k:Kt f}:onK (some (.sh d)) k=f (some (.sh d)):=rfl
theorem GJ {b:Bool} {d:D} {f:Option Sl->Prop} {k:Kt f}:onK (some (.ow b d)) k=f (some (.ow b d)):=rfl
theorem G8 {p:Md × D} {f:Option (Md × D)->Prop} {k:Kt f}:onK (some p) k=f (some p):=rfl
theorem Ir {p:Bool} {f:Option Bool->Prop} {k:Kt f}:onK (some p) k=f (some p):=rfl
theorem Gy {d:D} {f:Option (Option Sl)->Prop} {k:Kt f}:onK (some (some (.sh d))) k=f (some (some (.sh d))):=rfl
theorem Ga {b:Bool} {d:D} {f:Option (Option Sl)->Prop} {k:Kt f}:onK (some (some (.ow b d))) k=f (some (some (.ow b d))):=rfl
section
variable {E:iD} {ρ:Env} {Q:Md->D->Prop} {B:Bool->Prop} {t u:WS} {te ta tb tc to':WE} {tt tu:WT} {tar:WA} {i j n:Nat} {m m':Md} {d d':D} {sp:SpD} {p:WP} {R:List (Md × D)->Prop}
theorem G7:eU E ρ=E.nx ρ:=rfl
theorem Ig:wSeq t u E ρ=t { E with nx:=u E } ρ:=rfl
theorem HR:wRet te E ρ=te ρ E.rt:=rfl
def put (sl:Option Sl) (k:Sl->Prop):Prop:=match sl with
 | some s=>k s
 | none=>False
theorem GX {k:Sl->Prop}:put (some (.sh d)) k=k (.sh d):=rfl
theorem Gk {b:Bool} {k:Sl->Prop}:put (some (.ow b d)) k=k (.ow b d):=rfl
theorem Hz:wSet i te E ρ=te ρ fun m d=>onK (asg m d) (f:=fun o=>put o fun sl=>E.nx (ρ.set i (some sl))) ⟨⟩:=rfl
theorem Il:wIfS tt t u E ρ=tt ρ fun b=>onK b (f:=fun b=>if b=true then t E ρ else u E ρ) ⟨⟩:=rfl
theorem Gr:rT i E ρ=onK ρ[i]? (f:=fun o=>match o with
 | some (some (.sh d))=>E.rt .sh d
 | some (some (.ow fl d))=>E.rt (.ow fl) d
 | _=>False) ⟨⟩:=rfl
def mov (o:Option (Md × D)) (k:Md × D->Prop):Prop:=match o with
 | some p=>k p
 | none=>False
theorem Dh {p:Md × D} {k:Md × D->Prop}:mov (some p) k=k p:=rfl
theorem Jy:wFrz i t E ρ=t E (frzE i ρ):=rfl
-- tests
def bol (d:D) (B:Bool->Prop):Prop:=match d with
 | .bl b=>B b
 | _=>False
theorem Gh {b:Bool}:bol (.bl b) B=B b:=rfl
theorem wB_:wB te ρ B=te ρ fun _ x=>onK x (f:=fun x=>bol x B) ⟨⟩:=rfl
theorem Ik:wNot tt ρ B=tt ρ fun c=>B (!c):=rfl
theorem Jx:wAnd tt tu ρ B=tt ρ fun c=>onK c (f:=fun c=>if c=true then tu ρ B else B false) ⟨⟩:=rfl
theorem wOr_:wOr tt tu ρ B=tt ρ fun c=>onK c (f:=fun c=>if c=true then B true else tu ρ B) ⟨⟩:=rfl
theorem HN:wYes ρ B=B true:=rfl
-- expressions
theorem HJ:wVar i ρ Q=onK ρ[i]? (f:=fun o=>useS o Q) ⟨⟩:=rfl
theorem Ea:useS (some (some (.sh d))) Q=Q .sh d:=rfl
theorem Du {b:Bool}:useS (some (some (.ow b d))) Q=Q .bo d:=rfl
theorem wC_:wC d ρ Q=Q .sh d:=rfl
theorem wOp_ {f:W2}:wOp f ta tb ρ Q=ta ρ fun m x=>tb ρ fun n y=>f m x n y Q:=rfl
theorem wUn_ {f:W1}:wUn f ta ρ Q=ta ρ fun m x=>f m x Q:=rfl
theorem Dy {f g:W2}:nW f g ta tb tc ρ Q=ta ρ fun m x=>tb ρ fun n y=>f m x n y fun _ z=>onK z (f:=fun z=>bol z fun k=>onK k (f:=fun k=>if k=true then tc ρ fun l w=>g n y l w Q else Q .sh (.bl false)) ⟨⟩) ⟨⟩:=by
 unfold nW onK bol
 rfl
theorem Gz:uG ta tb ρ Q=ta ρ fun _ x=>onK x (f:=fun x=>bol x fun c=>onK c (f:=fun c=>if c=true then tb ρ Q else Q .sh (.bl false)) ⟨⟩) ⟨⟩:=by unfold uG onK bol; rfl
theorem Gq:aj te tar ρ R=te ρ fun m x=>tar ρ fun ps=>R ((m,x) :: ps):=rfl
theorem Jj:wNil ρ R=R []:=rfl
theorem HW:wTup tar ρ Q=tar ρ fun ps=>ps.length<=sizeLine/\Q (zb ps) (.tup (ps.map (·.2))):=rfl
theorem I_:wLst tar ρ Q=tar ρ fun ps=>ps.length<=sizeLine/\Q (yo ps) (.list (ps.map (·.2))):=rfl
theorem Hj:aY sp tar ρ Q=tar ρ fun ps=>sp (ps.map (·.2)) fun m d=>onK (m,d) (f:=fun p=>Q (retM p.1 p.2) p.2) ⟨⟩:=rfl
-- operators
section
variable {x y:Str} {a b:Int} {xs ys:List D} {kvs:List (Key × D)} {kts:List (List Key × D)}
theorem Fx:fAdd m (.int a) m' (.int b) Q=Q .sh (.int (a+b)):=rfl
theorem Eh:fAdd m (.str x) m' (.str y) Q=(x.length+y.length<=sizeLine/\Q .sh (.str (x++y))):=rfl
theorem Eu:fAdd m (.list xs) m' (.list ys) Q=(xs.length+ys.length<=sizeLine/\((flats xs=true/\flats ys=true/\Q (.ow true) (.list (xs++ys)))\/(m=.sh/\m'=.sh/\Q (.ow false) (.list (xs++ys))))):=rfl
theorem Ez:fAdd m (.tup xs) m' (.tup ys) Q=(xs≠[]/\xs.length+ys.length<=sizeLine/\flats xs=true/\flats ys=true/\Q .sh (.tup (xs++ys))):=rfl
theorem Et:fSub m (.int a) m' (.int b) Q=Q .sh (.int (a - b)):=rfl
theorem Fb:fMul m (.int a) m' (.int b) Q=(CMul a b/\Q .sh (.int (a * b))):=rfl
theorem Ec:fDiv m (.int a) m' (.int b) Q=((0<b/\b<1073741824)/\Q .sh (.int (a / b))):=rfl
theorem DN:fMod m (.int a) m' (.int b) Q=(0<b/\Q .sh (.int (a % b))):=rfl
theorem Ft:fPow m (.int a) m' (.int b) Q=(CPow a b/\Q .sh (.int (a ^ b.toNat))):=rfl
theorem G_:fLt m (.int a) m' (.int b) Q=Q .sh (.bl (decide (a<b))):=rfl
theorem Hx:fLt m (.str x) m' (.str y) Q=Q .sh (.bl (ltS x y)):=rfl
theorem Gu:fLe m (.int a) m' (.int b) Q=Q .sh (.bl (decide (a<=b))):=rfl
theorem FN:fLe m (.str x) m' (.str y) Q=Q .sh (.bl (!ltS y x)):=rfl
theorem Hc:fGt m (.int a) m' (.int b) Q=Q .sh (.bl (decide (b<a))):=rfl
theorem Hb:fEq m (.int a) m' (.int b) Q=Q .sh (.bl (decide (a=b))):=rfl
theorem GR:fEq m (.str x) m' (.str y) Q=Q .sh (.bl (decide (x=y))):=rfl
theorem Hd {k l:Bool}:fEq m (.bl k) m' (.bl l) Q=Q .sh (.bl (decide (k=l))):=rfl
theorem Ju:fEq m (.list xs) m' d Q=(okD 12 (.list xs)=true/\okD 12 d=true/\Q .sh (.bl (eqD (.list xs) d))):=by cases d <;> rfl
theorem Jd:fEq m (.tup xs) m' d Q=(okD 12 (.tup xs)=true/\okD 12 d=true/\Q .sh (.bl (eqD (.tup xs) d))):=by cases d <;> rfl
theorem JD:fEq m .non m' d Q=(okD 12 .non=true/\okD 12 d=true/\Q .sh (.bl (eqD .non d))):=by cases d <;> rfl
theorem Hn:fNe m (.int a) m' (.int b) Q=Q .sh (.bl (!decide (a=b))):=rfl
theorem FQ:fNe m (.str x) m' (.str y) Q=Q .sh (.bl (!decide (x=y))):=rfl
theorem IV:fNe m (.list xs) m' d Q=(okD 12 (.list xs)=true/\okD 12 d=true/\Q .sh (.bl (!eqD (.list xs) d))):=by cases d <;> rfl
theorem Jw:fNe m (.tup xs) m' d Q=(okD 12 (.tup xs)=true/\okD 12 d=true/\Q .sh (.bl (!eqD (.tup xs) d))):=by cases d <;> rfl
theorem Io:fNe m .non m' d Q=(okD 12 .non=true/\okD 12 d=true/\Q .sh (.bl (!eqD .non d))):=by cases d <;> rfl
theorem Jr {neg:Bool}:fIn neg m (.str x) m' (.str y) Q=Q .sh (.bl (if neg then !inS x y else inS x y)):=rfl
theorem Jc {neg:Bool}:fIn neg m d m' (.list ys) Q=(fU d=true/\ys.all fU=true/\Q .sh (.bl (if neg then !inD d ys else inD d ys))):=rfl
theorem IW {neg:Bool}:fIn neg m d m' (.tup ys) Q=(fU d=true/\ys.all fU=true/\Q .sh (.bl (if neg then !inD d ys else inD d ys))):=rfl
theorem Jl {neg:Bool}:fIn neg m d m' (.dK kvs) Q = ∃ k,d.key1=some k/\Q .sh (.bl (if neg then !(getG kvs k).isSome else (getG kvs k).isSome)):=rfl
theorem HF {neg:Bool}:fIn neg m (.tup xs) m' (.dT kts) Q = ∃ ks,dq xs=some ks/\Q .sh (.bl (if neg then !(getG kts ks).isSome else (getG kts ks).isSome)):=rfl
theorem Hy:fNeg m (.int a) Q=Q .sh (.int (-a)):=rfl
theorem IK:fIx m (.list xs) m' (.int a) Q = ∃ d,atI xs a=some d/\onK d (f:=fun d=>Q (itm m d) d) ⟨⟩:=rfl
theorem JC:fIx m (.tup xs) m' (.int a) Q = ∃ d,atI xs a=some d/\onK d (f:=fun d=>Q (itm m d) d) ⟨⟩:=rfl
theorem JB:fIx m (.str x) m' (.int a) Q = ∃ c,atI x.cps.toList a=some c/\Q .sh (.str ⟨#[c]⟩):=rfl
theorem Jm:fIx m (.dK kvs) m' d Q = ∃ k d',d.key1=some k/\getG kvs k=some d'/\onK d' (f:=fun d'=>Q (itm m d') d') ⟨⟩:=rfl
theorem Ib:fIx m (.dT kts) m' (.tup ys) Q = ∃ ks d',dq ys=some ks/\getG kts ks=some d'/\onK d' (f:=fun d'=>Q (itm m d') d') ⟨⟩:=rfl
theorem Gw:fLen m (.str x) Q=Q .sh (.int x.length):=rfl
theorem Gf:fLen m (.list xs) Q=Q .sh (.int xs.length):=rfl
theorem G3:fLen m (.tup xs) Q=Q .sh (.int xs.length):=rfl
theorem Hi:fLen m (.dK kvs) Q=Q .sh (.int kvs.length):=rfl
theorem Hr:fLen m (.dT kts) Q=Q .sh (.int kts.length):=rfl
theorem Iu {T:String}:fIsi T m d Q=Q .sh (.bl (isiT d.ty T)):=rfl
theorem Dz:nR m (.list xs) Q=((flats xs=true/\Q (.ow true) (.list xs))\/(m=.sh/\Q (.ow false) (.list xs))):=rfl
theorem Es:nR m (.tup xs) Q=((flats xs=true/\Q (.ow true) (.list xs))\/(m=.sh/\Q (.ow false) (.list xs))):=rfl
theorem DP:nR m (.dT kts) Q=Q (.ow true) (.list (kts.map fun kv=>.tup (kv.1.map keyD))):=rfl
theorem wSl_ {tl th:WO}:wSl te tl th ρ Q=te ρ fun m x=>tl ρ fun lo=>th ρ fun hi=>fSl m x lo hi Q:=rfl
theorem CW {O:Option Int->Prop}:gw ρ O=O none:=rfl
def int' (d:D) (k:Int->Prop):Prop:=match d with
 | .int i=>k i
 | _=>False
theorem Gv {k:Int->Prop}:int' (.int a) k=k a:=rfl
theorem G6 {O:Option Int->Prop}:lA te ρ O=te ρ fun _ x=>onK x (f:=fun x=>int' x fun i=>O (some i)) ⟨⟩:=by unfold lA onK int'; rfl
theorem HB {lo hi:Option Int}:fSl m (.str x) lo hi Q=Q .sh (.str (cutS x lo hi)):=rfl
theorem Ij {lo hi:Option Int}:fSl m (.list xs) lo hi Q=((flats xs=true/\Q (.ow true) (.list (cutG xs lo hi)))\/(m=.sh/\Q (.ow false) (.list (cutG xs lo hi)))):=rfl
theorem HQ {lo hi:Option Int}:fSl m (.tup xs) lo hi Q=(flats xs=true/\¬ (HT.sIx xs.length 0 lo=0/\HT.sIx xs.length xs.length hi=xs.length)/\Q .sh (.tup (cutG xs lo hi))):=rfl
end
-- texts
def str' (d:D) (k:Str->Prop):Prop:=match d with
 | .str x=>k x
 | _=>False
theorem Hq {x:Str} {k:Str->Prop}:str' (.str x) k=k x:=rfl
def list' (d:D) (k:List D->Prop):Prop:=match d with
 | .list x=>k x
 | _=>False
theorem Ew {x:List D} {k:List D->Prop}:list' (.list x) k=k x:=rfl
theorem Ef:jG to' te ρ Q=to' ρ fun _ x=>onK x (f:=fun x=>str' x fun z=>te ρ fun _ y=>onK y (f:=fun y=>list' y fun ys=>∃ zs,je ys=some zs/\(zs.map (·.length)).sum+zs.length * z.length<=16777216/\Q .sh (.str (Str.join z zs))) ⟨⟩) ⟨⟩:=by unfold jG onK str' list'; rfl
-- places
theorem wpN_ {P:Bool->D->(Bool->D->Env)->Prop}:wpN i ρ P=onK ρ[i]? (f:=fun o=>match o with
 | some (some (.ow fl d))=>P fl d fun fl2 d2=>ρ.set i (some (.ow fl2 d2))
 | _=>False) ⟨⟩:=rfl
def fl' (o:Option Bool) (k:Bool->Prop):Prop:=match o with
 | some b=>k b
 | none=>False
theorem Dd {b:Bool} {k:Bool->Prop}:fl' (some b) k=k b:=rfl
theorem Jt:wApp p te E ρ=p ρ fun fl d up=>onK d (f:=fun d=>list' d fun xs=>te ρ fun m x=>xs.length<sizeLine/\onK (lN fl m x) (f:=fun o=>fl' o fun fl2=>E.nx (up fl2 (.list (xs++[x])))) ⟨⟩) ⟨⟩:=by unfold wApp onK list' fl'; rfl
theorem Fp:jQ ρ Q=Q (.ow true) (.dT []):=rfl
def dct (d y:D) (k1:List (Key × D)->Prop) (k2:List (List Key × D)->List D->Prop):Prop:=match d with
 | .dK kvs=>k1 kvs
 | .dT kvs=>match y with
  | .tup ys=>k2 kvs ys
  | _=>False
 | _=>False
theorem Ip {y:D} {kvs:List (Key × D)} {k1:List (Key × D)->Prop} {k2:List (List Key × D)->List D->Prop}:dct (.dK kvs) y k1 k2=k1 kvs:=rfl
theorem Jg {ys:List D} {kvs:List (List Key × D)} {k1:List (Key × D)->Prop} {k2:List (List Key × D)->List D->Prop}:dct (.dT kvs) (.tup ys) k1 k2=k2 kvs ys:=rfl
theorem FZ {tk tv:WE}:oH p tk tv E ρ=tv ρ fun _ x=>p ρ fun fl d up=>tk ρ fun _ y=>x.flat=true/\onK d (f:=fun d=>dct d y (fun kvs=>∃ k,y.key1=some k/\kvs.length<sizeLine/\E.nx (up fl (.dK (putG kvs k x)))) (fun kvs ys=>∃ ks,dq ys=some ks/\kvs.length<sizeLine/\E.nx (up fl (.dT (putG kvs ks x))))) ⟨⟩:=by
 unfold oH onK dct
 rfl
-- loops
variable {LQ:List D->Prop}
theorem Iz {wi:WI} {g:WG} {b:WS}:wFor wi g b E ρ=wi ρ fun ds=>iC g b E ds ρ:=rfl
theorem Fv:cN te ρ LQ=te ρ fun m d=>ph m/\onK d (f:=fun d=>list' d LQ) ⟨⟩:=by unfold cN onK list'; rfl
def tup' (d:D) (k:List D->Prop):Prop:=match d with
 | .tup x=>k x
 | _=>False
theorem Gm {x:List D} {k:List D->Prop}:tup' (.tup x) k=k x:=rfl
theorem Dv:cC te ρ LQ=te ρ fun _ d=>onK d (f:=fun d=>int' d fun j=>j<=16777216/\-(2 ^ 62)<=j/\LQ (lY 0 j.toNat)) ⟨⟩:=by unfold cC onK int'; rfl
theorem Dm:ph .sh=True:=rfl
theorem Di {b:Bool}:ph (.ow b)=True:=rfl
theorem Dn:ph .bo=False:=rfl
theorem gN_ {N:Env->Prop}:gN i d ρ N=N (ρ.set i (some (.sh d))):=rfl
theorem gT_ {gs:WGs} {N:Env->Prop}:gT n gs d ρ N=onK d (f:=fun d=>tup' d fun ds=>ds.length=n/\gs ds ρ N) ⟨⟩:=by unfold gT onK tup'; rfl
theorem Gd {g:WG} {gs:WGs} {ds:List D} {N:Env->Prop}:bh g gs (d :: ds) ρ N=g d ρ fun ρ'=>gs ds ρ' N:=rfl
theorem Jq {N:Env->Prop}:il [] ρ N=N ρ:=by simp [il]
theorem Hm {wi:WI} {g:WG} {tn:Nat} {ix:List Nat}:eG wi g tt te tn ix ρ Q=wi ρ fun ds=>gU g tt te ds (zB tn ix ρ) fun out=>Q (.ow true) (.list out):=rfl
end
theorem B {c:Bool} {f:Bool->Prop} {k:Kt f} (h1:c=true->f true) (h2:c=false->f false):onK c k:=by
 cases c with
 | true=>exact h1 rfl
 | false=>exact h2 rfl
theorem D {p:Prop} [Decidable p] {f:Bool->Prop} {k:Kt f} (h1:p->f true) (h2:¬ p->f false):onK (decide p) k :=
 B (fun h=>h1 (of_decide_eq_true h)) fun h=>h2 (of_decide_eq_false h)
theorem T {c:Bool} {f:Bool->Prop} {k:Kt f} (h:c=true) (h1:f true):onK c k:=by subst h; exact h1
theorem F {c:Bool} {f:Bool->Prop} {k:Kt f} (h:c=false) (h1:f false):onK c k:=by subst h; exact h1
end L2.Q.R
namespace L2
open PySem PySem.Spec PyProof.Rows
end L2
namespace L2.Q
open PySem PySem.Spec PyProof.Rows
section
variable {K:PySem.W.Frag} {p:Pos}
def Ah:W1:=fun _ x Q=>match x with
 | .list xs=>∃ ks b,xs=ks.map keyD/\(∀ k∈ks,isI k=b)/\∀ ms:List Key,ms.Perm ks->(ms.Pairwise fun a b=>lt1 b a=false)->Q (.ow true) (.list (ms.map keyD))
 | .dK kvs=>∃ b,(∀ p∈kvs,isI p.1=b)/\∀ ms:List Key,ms.Perm (kvs.map (·.1))->(ms.Pairwise fun a b=>lt1 b a=false)->Q (.ow true) (.list (ms.map keyD))
 | _=>False
section
variable {Hs H:Hp} {fl:Bool}
theorem aB.erase {ds:List D} {vs:List V} {As:List Addr} (k:Nat) (r:aB K Hs H fl ds vs As):∃ Bs,Bs.Sublist As/\aB K Hs H fl (ds.eraseIdx k) (vs.eraseIdx k) Bs:=by
 induction ds generalizing vs As k with
 | nil =>
  obtain ⟨rfl,rfl⟩:=r.n0
  exact ⟨[],List.Sublist.refl _,.nil⟩
 | cons d ds ih =>
  obtain ⟨u,us,A,B,rfl,rfl,r,rs⟩:=r.c
  cases k with
  | zero=>exact ⟨B,xar _ _,rs⟩
  | succ k =>
   obtain ⟨C,sb,q⟩:=ih k rs
   exact ⟨A++C,sb.append_left _,.cons r q⟩
end
end
abbrev WIL:=Env->(List D->Prop)->Prop
section
variable {X:Cx} {K:PySem.W.Frag}
theorem dN {i:Nat} {x:Str} {tg iter elt:Expr} {ifs:List Expr} {scope:Scope} {pos pos' spos:Pos} {wi:WI} {g:WG} {tc:WT} {te:WE} {tn cn:List Str} {ix:List Nat} (hN:X.N.Nodup) (hi0:X.N[i]? = some x) (hx:Loc X.env.scope x) (hc:X.calm=true)
  (hi:QIb X K tg iter wi) (O:bL X scope tn cn ix)
  (hg:∀ C fp s₃ H₃,QG (bj X scope C (tn++cn) fp s₃ H₃) K tg g) (hcs:∀ C fp s₃ H₃,QTs (bj X scope C (tn++cn) fp s₃ H₃) K ifs tc) (he:∀ C fp s₃ H₃,QE (bj X scope C (tn++cn) fp s₃ H₃) K elt te)
  (hsw:swapsWith (.ListComp elt [⟨tg,iter,ifs,0⟩] scope pos) (some (.Name x pos')) spos.line X.env=pure true:=by rfl)
  (hs:∀ x,foldedSetIterable iter X.env x=pure x:=by intro _; rfl) (hf:X.fn x=true\/X.env.scope.names.lookup x=some .local:=by first | exact .inl rfl | exact .inr rfl | assumption) :
  QS X K L (.Assign [.Name x pos'] (.ListComp elt [⟨tg,iter,ifs,0⟩] scope pos) spos) (wSet i (eG wi g tc te tn.length ix)) :=
 PS.imp (rN hN hi0 hx hc hi O hg hcs he hsw hs hf) fun D σ H hx=>gj hx fun Hs ρ tot E sr h k1 k2 k3 k4=>by
  refine oU ⟨Hs,ρ,tot,_,sr,h,fun v H1 Hs1 m d As g1 r1 f1 q1=>?_⟩
  have q1:match asg m d with
   | some sl=>E.nx (ρ.set i (some sl))
   | none=>False:=q1
  cases e:asg m d with
  | none=>rw [e] at q1; exact q1.elim
  | some sl =>
   rw [e] at q1
   obtain ⟨tot',s'⟩:=(sr.grow g1).set i r1 f1.1 (fun a ha=>⟨(f1.2 a ha).1,fun m=>(sr.sr.own a m).ne (f1.2 a ha).2⟩) e
   exact k1 _ H1 Hs1 _ tot' g1.sh s' q1
end
end L2.Q
namespace L2.Q.R
open PySem PySem.Spec PyProof.Rows L2.Q
section
variable {ρ:Env} {Q:Md->L2.Q.D->Prop} {te:WE} {i:Nat} {d:L2.Q.D} {p:WP} {a:Addr} {b:Bool} {LQ:List L2.Q.D->Prop}
theorem Hv {f:Option Sl->Prop} {k:Kt f}:onK (some (.lk a b d)) k=f (some (.lk a b d)):=rfl
theorem GK {f:Option (Option Sl)->Prop} {k:Kt f}:onK (some (some (.lk a b d))) k=f (some (some (.lk a b d))):=rfl
theorem Ds:useS (some (some (.lk a b d))) Q=Q .bo d:=rfl
def own' (o:Option (Option Sl)) (k:Bool->L2.Q.D->Prop):Prop:=match o with
 | some (some (.ow fl d))=>k fl d
 | _=>False
theorem DX {k:Bool->L2.Q.D->Prop}:own' (some (some (.ow b d))) k=k b d:=rfl
theorem DK:gZ te ρ LQ=te ρ fun _ d=>onK d (f:=fun d=>list' d LQ) ⟨⟩:=by unfold gZ onK list'; rfl
def wpAt (d:L2.Q.D) (i:Int) (P:Bool->L2.Q.D->(Bool->L2.Q.D->Env)->Prop) (up:Bool->L2.Q.D->Env):Prop:=match d with
 | .list ds=>∃ j d',ixN ds.length i=some j/\ds[j]? = some d'/\d'.flat=false/\onK d' (f:=fun d'=>P true d' fun fl2 d2=>up fl2 (.list (ds.set j d2))) ⟨⟩
 | .tup ds=>∃ j d',ixN ds.length i=some j/\ds[j]? = some d'/\d'.flat=false/\onK d' (f:=fun d'=>P true d' fun fl2 d2=>up fl2 (.tup (ds.set j d2))) ⟨⟩
 | _=>False
section
variable {P:Bool->L2.Q.D->(Bool->L2.Q.D->Env)->Prop} {up:Bool->L2.Q.D->Env} {ds:List L2.Q.D} {j:Int}
theorem G9:wpAt (.list ds) j P up = ∃ k d',ixN ds.length j=some k/\ds[k]? = some d'/\d'.flat=false/\onK d' (f:=fun d'=>P true d' fun fl2 d2=>up fl2 (.list (ds.set k d2))) ⟨⟩:=rfl
theorem Gx:wpAt (.tup ds) j P up = ∃ k d',ixN ds.length j=some k/\ds[k]? = some d'/\d'.flat=false/\onK d' (f:=fun d'=>P true d' fun fl2 d2=>up fl2 (.tup (ds.set k d2))) ⟨⟩:=rfl
theorem Jo:wpIx p te ρ P=p ρ fun fl d up=>te ρ fun _ y=>fl=true/\onK y (f:=fun y=>int' y fun i=>onK d (f:=fun d=>wpAt d i P up) ⟨⟩) ⟨⟩:=by
 unfold wpIx onK int' wpAt
 rfl
end
end
end L2.Q.R
namespace L2
open PySem PySem.Spec PyProof.Rows Builtin Builtin.Str Builtin.Int
end L2
namespace L2
open PySem PySem.Spec PyProof.Rows
end L2
namespace L2.Q
open PySem PySem.Spec PyProof.Rows
section
variable {X:Cx} {K:PySem.W.Frag} {e a b:Expr} {ta tb:WE} {p pos:Pos} {x:Str} {id:String}
theorem Am {H:Hp} {bs:List Bool} {vs:List V} (r:Reps K H (bs.map D.bl) vs):vs=bs.map V.bl:=by
 induction bs generalizing vs with
 | nil=>exact r.n0
 | cons b bs ih =>
  obtain ⟨u,us,rfl,r1,rs⟩:=Reps.c (d:=D.bl b) r
  cases r1
  rw [ih rs]; rfl
theorem Bh:bootBuiltins "min" = some (.builtin "min"):=by decide +kernel
def zy:R2:=fun x y H Q=>match x,y with
 | .int i,.int j=>Q (.int (if j<i then j else i)) H
 | _,_=>False
def yp:W2:=fun _ x _ y Q=>match x,y with
 | .int i,.int j=>Q .sh (.int (if j<i then j else i))
 | _,_=>False
theorem zR:Br2 K zy yp:=by
 intro Hs H m x v As n y u Bs Qd Qv w rx ry h f
 have r1:=rx.rep w
 have r2:=ry.rep w
 cases r1 with
 | int i=>cases r2 with
  | int j=>exact f.sh w (.int _) h
  | _=>exact h.elim
 | _=>cases r2 <;> exact h.elim
theorem zO {r:R2} {f:W2} (hc:CallR X (.builtin id) fun xs H Q=>∃ x y,xs=[x,y]/\r x y H Q) (br:Br2 K r f) (hg:Gl X x) (hm:X.mg x=none) (hv:bootBuiltins x=some (.builtin id)) (ha:QE X K a ta) (hb:QE X K b tb)
  (hs:starEach [a,b] X.env=(false,eval a X.env) :: starEach [b] X.env:=by rfl) (hs2:starEach [b] X.env=(false,eval b X.env) :: starEach [] X.env:=by rfl) (hn:x ≠ "__name__" := by decide) (hdb:(x == ("__debug__" : Str))=false:=by decide)
  (hpl:(backTo pos (starEach [b] X.env)).any (·.1)=false:=by rfl):QE X K (.Call (.Name x p) [a,b] [] pos) (wOp f ta tb):=by
 refine PE.imp (pe_callB hc hg hm hv (pa_cons ha (pa_cons hb pa_nil hs2) hs) hn hdb hs hpl) fun σ H Qv h=>?_
 obtain ⟨Hs,ρ,tot,Q,sr,h,fin⟩:=jU br σ H Qv h
 exact ⟨Hs,ρ,tot,Q,sr,h,fun v H1 Hs1 m x As g1 r1 f1 q1=>by
  obtain ⟨Hs2,ρ2,tot2,Q2,sr2,h2,fin2⟩:=fin v H1 Hs1 m x As g1 r1 f1 q1
  exact ⟨Hs2,ρ2,tot2,Q2,sr2,h2,fun u H2 Hs3 n y Bs g2 r2 f2 q2=>⟨v,u,rfl,fin2 u H2 Hs3 n y Bs g2 r2 f2 q2⟩⟩⟩
theorem Bg (hc:X.calm=true:=by rfl):CallR X (.builtin "min") fun xs H Q=>∃ x y,xs=[x,y]/\zy x y H Q:=fun pins s σ H xs us Q I r hx9=>by
 obtain ⟨x,y,e,q⟩:=hx9
 subst e
 unfold zy at q
 split at q
 ·exact call_min2 hc pins s σ H _ us Q I r ⟨_,_,rfl,q⟩
 ·exact q.elim
end
end L2.Q
namespace L2.Q.R
open PySem PySem.Spec PyProof.Rows L2.Q
section
variable {Q:Md->L2.Q.D->Prop} {m m':Md} {a b:Int}
theorem Hh:yp m (.int a) m' (.int b) Q=Q .sh (.int (if b<a then b else a)):=rfl
end
end L2.Q.R
namespace L2.Q
open PySem PySem.Spec PyProof.Rows
theorem cu {g:WG} {tc:WT} {te:WE} (O:Nat->List D->Prop) (Iv:Env->Prop):∀ (xs:List D) (i:Nat) (pre:List D) (ρ:Env) (k:List D->Prop),Iv ρ->O i pre ->
  (∀ j x,xs[j]? = some x->∀ ρ,Iv ρ->∀ out,O (i+j) out->∀ N1:Env->Prop,∀ N2:Env->D->Prop,(∀ ρ' d,Iv ρ'->O (i+j+1) (out++[d])->N2 ρ' d)->g x ρ fun ρ1=>tc ρ1 fun b=>if b=true then te ρ1 fun m d=>okEl m d/\N2 ρ1 d else N1 ρ1) ->
  (∀ out,O (i+xs.length) (pre++out)->k out)->gU g tc te xs ρ k
 | [],i,pre,_,k,_,h0,_,h=>h [] (by simpa using h0)
 | x :: xs,i,pre,ρ,k,iv,h0,hs,h=>by
  refine hs 0 x rfl ρ iv pre h0 _ _ (fun ρ' d iv' o'=>?_)
  refine cu O Iv xs (i+1) (pre++[d]) ρ' _ iv' o' (fun j y hy ρ iv out ho=>?_) fun out ho=>?_
  ·have:=hs (j+1) y (by simpa using hy) ρ iv out (by rwa [show i+(j+1)=i+1+j by lia])
   rwa [show i+(j+1)+1=i+1+j+1 by lia] at this
  ·refine h (d :: out) ?_
   rw [xa2] at ho
   rwa [xaL,show i+(xs.length+1)=i+1+xs.length by lia]
end L2.Q
namespace TS
open PySem PySem.SetTable
def adv (M:Nat) (p:Probe):Probe :=
 if p.more>0 then { p with j:=p.j+1,more:=p.more - 1 } else
 { p with j:=(leap M p.i p.perturb).1,more:=runEnd M (leap M p.i p.perturb).1 - (leap M p.i p.perturb).1,i:=(leap M p.i p.perturb).1,perturb:=(leap M p.i p.perturb).2 }
def ps (M:Nat) (h:Int):Nat->Probe
 | 0=>{ j:=bits h % (M+1),more:=runEnd M (bits h % (M+1)) - bits h % (M+1),i:=bits h % (M+1),perturb:=bits h,dummy:=none }
 | n+1=>adv M (ps M h n)
def J (M:Nat) (h:Int) (n:Nat):Nat:=(ps M h n).j
def Up (xs:Array Nat):Prop:=∀ i j:Nat,i<j->j<xs.size->xs.getD i 0<xs.getD j 0
theorem qX {xs:Array Nat} {i d d':Nat} (h:i<xs.size):xs.getD i d=xs.getD i d':=by simp [Array.getD,h]
theorem mU {xs:Array Nat} (U:Up xs) (j:Nat):∀ (fuel lo hi:Nat),hi - lo<=fuel->lo<=hi->hi<=xs.size->(∀ i<lo,xs.getD i 0<j)->(∀ i,hi<=i->i<xs.size->j<=xs.getD i 0) ->
  below.go xs j fuel lo hi<=xs.size/\(∀ i<below.go xs j fuel lo hi,xs.getD i 0<j)/\(∀ i,below.go xs j fuel lo hi<=i->i<xs.size->j<=xs.getD i 0)
 | 0,lo,hi,hf,h1,h2,h3,h4=>by
  obtain rfl:lo=hi:=by lia
  exact ⟨h2,h3,h4⟩
 | fuel+1,lo,hi,hf,h1,h2,h3,h4=>by
  unfold below.go
  by_cases c:lo<hi
  ·rw [if_pos c]
   dsimp only
   have hm:(lo+hi) / 2<xs.size:=by lia
   by_cases d:xs.getD ((lo+hi) / 2) j<j
   ·rw [if_pos d]
    rw [qX (d':=0) hm] at d
    refine mU U j fuel _ _ (by lia) (by lia) h2 (fun i hi'=>?_) h4
    by_cases e:i=(lo+hi) / 2
    ·rw [e]; exact d
    ·exact Nat.lt_trans (U i _ (by lia) hm) d
   ·rw [if_neg d]
    rw [qX (d':=0) hm] at d
    refine mU U j fuel _ _ (by lia) (by lia) (by exact xaK ‹_›) h3 fun i hi' hs=>?_
    by_cases e:i=(lo+hi) / 2
    ·rw [e]; exact xaM ‹_›
    ·have:=U ((lo+hi) / 2) i (by lia) hs; lia
  ·rw [if_neg c]
   obtain rfl:lo=hi:=by lia
   exact ⟨h2,h3,h4⟩
theorem dM {xs:Array Nat} (U:Up xs) (j:Nat):below xs j<=xs.size/\(∀ i<below xs j,xs.getD i 0<j)/\(∀ i,below xs j<=i->i<xs.size->j<=xs.getD i 0) :=
 mU U j xs.size 0 xs.size (by exact xcs _ _) (by exact xap _) (xag _) (fun i h=>absurd h (Nat.not_lt_zero i)) fun i h1 h2=>by lia
theorem below_at {xs:Array Nat} (U:Up xs) {i:Nat} (h:i<xs.size):below xs (xs.getD i 0)=i:=by
 obtain ⟨a,b,c⟩:=dM U (xs.getD i 0)
 by_cases h1:below xs (xs.getD i 0)<i
 ·have:=c _ (xag _) (by walk_at "s2")
  have:=U _ i h1 h
  lia
 ·by_cases h2:i<below xs (xs.getD i 0)
  ·have:=b i h2; exact absurd ‹_› (xa0 _)
  ·lia
def taken (xs:Array Nat) (j:Nat):Bool:=xs[below xs j]? == some j
theorem tQ {xs:Array Nat} {i j:Nat} (h:xs[i]? = some j):i<xs.size/\xs.getD i 0=j:=by
 obtain ⟨h1,h2⟩:=xbu.mp h
 exact ⟨h1,by simp [Array.getD,h1,h2]⟩
theorem yS {xs:Array Nat} {i:Nat} (h:i<xs.size):xs[i]? = some (xs.getD i 0):=by simp [Array.getD,h]
theorem kJ {xs:Array Nat} (U:Up xs) {j:Nat}:taken xs j=true↔∃ i,i<xs.size/\xs.getD i 0=j:=by
 unfold taken
 rw [beq_iff_eq]
 constructor
 ·intro h; exact ⟨_,tQ h⟩
 ·rintro ⟨i,h,rfl⟩
  rw [below_at U h]
  exact yS h
theorem lZ {xs:Array Nat} (U:Up xs) {j:Nat} (h:taken xs j=true):below xs j<xs.size/\xs.getD (below xs j) 0=j:=by
 unfold taken at h
 rw [beq_iff_eq] at h
 exact tQ h
theorem fK {α:Type} (xs:Array α) {p:Nat} (x:α) (h:p<=xs.size):(insertAt xs p x).size=xs.size+1:=by
 unfold insertAt
 simp
 lia
theorem ins_get {α:Type} (xs:Array α) {p:Nat} (x:α) (h:p<=xs.size) (i:Nat):(insertAt xs p x)[i]? = if i<p then xs[i]? else if i=p then some x else xs[i - 1]? := by
 unfold insertAt
 have hs:((xs.extract 0 p).push x).size=p+1:=by simp; exact Nat.min_eq_left ‹_›
 by_cases h1:i<p
 ·rw [if_pos h1,Array.getElem?_append_left (by lia),Array.getElem?_push,if_neg (by simp; lia),xbI]
  rw [if_pos (by lia)]; simp
 ·rw [if_neg h1]
  by_cases h2:i=p
  ·rw [if_pos h2,Array.getElem?_append_left (by lia),Array.getElem?_push,if_pos (by simp; lia)]
  ·rw [if_neg h2,Array.getElem?_append_right (by lia),hs,xbI]
   by_cases h3:i - (p+1)<min xs.size xs.size - p
   ·rw [if_pos h3]
    congr 1; lia
   ·rw [if_neg h3,xaS (by lia)]
theorem dw {xs:Array Nat} {p x:Nat} (h:p<=xs.size) (i:Nat):(insertAt xs p x).getD i 0=if i<p then xs.getD i 0 else if i=p then x else xs.getD (i - 1) 0:=by
 have e:∀ (ys:Array Nat) (k:Nat),ys.getD k 0=ys[k]?.getD 0:=fun ys k=>by
  simp [xbs]
 rw [e,ins_get xs x h]
 split
 ·rw [e]
 ·split
  ·rfl
  ·rw [e]
theorem ye {xs:Array Nat} (U:Up xs) {j:Nat} (hj:taken xs j=false):Up (insertAt xs (below xs j) j):=by
 obtain ⟨a,b,c⟩:=dM U j
 have ne:∀ i,i<xs.size->xs.getD i 0≠j:=fun i hi e=>by
  have:=(kJ U (j:=j)).mpr ⟨i,hi,e⟩
  rw [hj] at this; cases this
 intro i k hik hk
 rw [fK xs j a] at hk
 rw [dw a,dw a]
 by_cases h1:k<below xs j
 ·rw [if_pos (by walk_at "s2"),if_pos h1]; exact U i k hik (by walk_at "s1")
 ·rw [if_neg h1]
  by_cases h2:k=below xs j
  ·rw [if_pos h2,if_pos (by lia)]; exact b i (by lia)
  ·rw [if_neg h2]
   by_cases h3:i<below xs j
   ·rw [if_pos h3]; exact U i (k - 1) (by lia) (by lia)
   ·rw [if_neg h3]
    by_cases h4:i=below xs j
    ·rw [if_pos h4]
     have:=c (k - 1) (by lia) (by lia)
     have:=ne (k - 1) (by lia)
     lia
    ·rw [if_neg h4]; exact U (i - 1) (k - 1) (by lia) (by lia)
theorem ur {xs:Array Nat} (U:Up xs) {j k:Nat} (hj:taken xs j=false):taken (insertAt xs (below xs j) j) k=(decide (k=j) || taken xs k):=by
 have a:=(dM U j).1
 have U':=ye U hj
 apply xa7.mpr
 rw [kJ U',Bool.or_eq_true,decide_eq_true_eq,kJ U]
 rw [fK xs j a]
 constructor
 ·rintro ⟨i,hi,e⟩
  rw [dw a] at e
  by_cases h1:i<below xs j
  ·rw [if_pos h1] at e; exact .inr ⟨i,by lia,e⟩
  ·rw [if_neg h1] at e
   by_cases h2:i=below xs j
   ·rw [if_pos h2] at e; exact .inl e.symm
   ·rw [if_neg h2] at e; exact .inr ⟨i - 1,by lia,e⟩
 ·rintro (rfl | ⟨i,hi,e⟩)
  ·exact ⟨below xs k,by exact xbB ‹_›,by rw [dw a,if_neg (by lia),if_pos rfl]⟩
  ·by_cases h1:i<below xs j
   ·exact ⟨i,by exact xbc ‹_›,by rw [dw a,if_pos h1]; exact e⟩
   ·exact ⟨i+1,by exact xbB ‹_›,by rw [dw a,if_neg (by lia),if_neg (by lia)]; exact e⟩
def Reach (M:Nat) (place:Array Nat) (h:Int) (j:Nat):Prop:=∃ n,n<=10 * (M+13)/\J M h n=j/\∀ k<n,taken place (J M h k)=true
structure TI {α:Type} (t:SetTable) (es:Array (Int × α)):Prop where
 pw:∃ m,t.mask+1=2 ^ m/\3<=m
 sz:t.place.size=es.size
 up:Up t.place
 le:∀ i,i<t.place.size->t.place.getD i 0<=t.mask
 dm:t.dummies = #[]
 few:es.size * 5<t.mask * 3
 path:∀ i h x,es[i]? = some (h,x)->Reach t.mask t.place h (t.place.getD i 0)
section
variable {α:Type} {t:SetTable} {es:Array (Int × α)}
theorem TI.slot (T:TI t es) (j:Nat):t.slot j=if taken t.place j then .live (below t.place j) else .empty:=by
 unfold SetTable.slot taken
 dsimp only
 split
 ·rfl
 ·have:has t.dummies j=false:=by rw [T.dm]; rfl
  rw [this]; rfl
theorem TI.free (T:TI t es):∃ e,e<=t.mask/\taken t.place e=false:=by
 have hf:=T.few
 have hs:=T.sz
 by_cases c:∃ e,e<=t.mask/\taken t.place e=false
 ·exact c
 ·exfalso
  have all:∀ e,e<=t.mask->taken t.place e=true:=fun e he=>by
   cases z:taken t.place e with
   | true=>rfl
   | false=>exact absurd ⟨e,he,z⟩ c
  -- slot e stands at place at most e
  have go:∀ e,e<=t.mask->e<=below t.place e:=by
   intro e
   induction e with
   | zero=>intro _; exact xap _
   | succ e ih =>
    intro he
    have h1:=lZ T.up (all e (by exact xaK ‹_›))
    have h2:=lZ T.up (all (e+1) he)
    have:=ih (by exact xaK ‹_›)
    obtain ⟨_,b,c⟩:=dM T.up (e+1)
    by_cases z:below t.place e<below t.place (e+1)
    ·walk_at "s1"
    ·have:=c (below t.place e) (by exact xaM ‹_›) h1.1
     lia
  have:=go t.mask (xag _)
  have:=(lZ T.up (all t.mask (xag _))).1
  lia
theorem TI.put (T:TI t es) {h:Int} {x:α} {j:Nat} (hj:j<=t.mask) (hn:taken t.place j=false) (hr:Reach t.mask t.place h j) {t':SetTable} (ht:t'.mask=t.mask) (hp:t'.place=insertAt t.place (below t.place j) j) (hd:t'.dummies = #[])
  (hf:(es.size+1) * 5<t.mask * 3):TI t' (insertAt es (below t.place j) (h,x)):=by
 have a:=(dM T.up j).1
 have a':below t.place j<=es.size:=by rw [<- T.sz]; exact a
 refine ⟨by rw [ht]; exact T.pw,by rw [hp,fK _ _ a,fK _ _ a',T.sz],by rw [hp]; exact ye T.up hn,fun i hi=>?_,hd,by rw [fK _ _ a',ht]; exact hf,fun i g y e=>?_⟩
 ·rw [hp,fK _ _ a] at hi
  rw [hp,dw a,ht]
  split
  ·exact T.le i (by walk_at "s1")
  ·split
   ·exact hj
   ·exact T.le (i - 1) (by lia)
 ·have mono:∀ {g:Int} {k:Nat},Reach t.mask t.place g k->Reach t'.mask t'.place g k:=fun {g k} ⟨n,h1,h2,h3⟩=>⟨n,by rw [ht]; exact h1,by rw [ht]; exact h2,fun q hq=>by
   rw [hp,ht,ur T.up hn,h3 q hq,Bool.or_true]⟩
  rw [ins_get es _ a'] at e
  rw [hp,dw a,<- hp]
  by_cases h1:i<below t.place j
  ·rw [if_pos h1] at e ⊢
   exact mono (T.path i g y e)
  ·rw [if_neg h1] at e ⊢
   by_cases h2:i=below t.place j
   ·rw [if_pos h2] at e ⊢
    cases e
    exact mono hr
   ·rw [if_neg h2] at e ⊢
    exact mono (T.path (i - 1) g y e)
end
theorem nY {α:Type} [DecidableEq α]:∀ {l m:List α},l.Nodup->(∀ x∈l,x∈m)->l.length<=m.length
 | [],_,_,_=>xap _
 | x :: l,m,nd,h=>by
  rw [xay] at nd
  have hx:=h x xad
  have:=nY (l:=l) (m:=m.erase x) nd.2 fun y hy=>(List.mem_erase_of_ne (fun e=>nd.1 (by rw [<- e]; exact hy))).mpr (h y (xac _ hy))
  rw [List.length_erase_of_mem hx] at this
  have:0<m.length:=xb2 hx
  simp only [xaL]; lia
def occ (owner:Array (Option Nat)) (j:Nat):Bool:=(owner.getD j (some 0)).isSome
structure OI (M:Nat) (hs:List Int) (owner:Array (Option Nat)):Prop where
 sz:owner.size=M+1
 lt:∀ j v:Nat,owner[j]? = some (some v)->v<hs.length
 inj:∀ j j' v:Nat,owner[j]? = some (some v)->owner[j']? = some (some v)->j=j'
 all:∀ v:Nat,v<hs.length->∃ j:Nat,owner[j]? = some (some v)
 path:∀ j v:Nat,owner[j]? = some (some v)->∃ n,n<=10 * (M+13)/\J M (hs.getD v 0) n=j/\∀ q<n,occ owner (J M (hs.getD v 0) q)=true
theorem zA {owner:Array (Option Nat)} {j:Nat} (h:j<owner.size):occ owner j=true↔∃ v,owner[j]? = some (some v):=by
 unfold occ
 rw [xbj h]
 simp only [Array.getD,h,dite_true,Option.some.injEq]
 cases hh:owner[j] with
 | none =>
  have:owner.getInternal j h=none:=hh
  rw [this]; simp
 | some v =>
  have:owner.getInternal j h=some v:=hh
  rw [this]; simp
theorem OI.free {M:Nat} {hs:List Int} {owner:Array (Option Nat)} (O:OI M hs owner) (hl:hs.length<=M):∃ e,e<=M/\occ owner e=false:=by
 by_cases c:∃ e,e<=M/\occ owner e=false
 ·exact c
 ·exfalso
  have all:∀ e,e<=M->∃ v,owner[e]? = some (some v):=fun e he=>by
   refine (zA (by rw [O.sz]; exact xbB ‹_›)).mp ?_
   cases z:occ owner e with
   | true=>rfl
   | false=>exact absurd ⟨e,he,z⟩ c
  have nd:((List.range (M+1)).map fun j=>(owner.getD j none).getD 0).Nodup:=by
   rw [List.nodup_iff_pairwise_ne,xa3]
   refine List.Pairwise.imp_of_mem ?_ (List.nodup_iff_pairwise_ne.mp List.nodup_range)
   intro a b ha hb hne z
   obtain ⟨va,ea⟩:=all a (by have:=xa6.mp ha; lia)
   obtain ⟨vb,eb⟩:=all b (by have:=xa6.mp hb; lia)
   rw [xbs,xbs,ea,eb] at z
   have z:va=vb:=z
   subst z
   exact hne (O.inj _ _ _ ea eb)
  have:=nY (m:=List.range hs.length) nd fun x hx=>by
   obtain ⟨j,hj,rfl⟩:=xao.mp hx
   obtain ⟨v,e⟩:=all j (by have:=xa6.mp hj; lia)
   rw [xbs,e]
   exact xa6.mpr (O.lt _ _ e)
  simp at this
  lia
theorem OI.nil (M:Nat):OI M [] (Array.replicate (M+1) none):=by
 have no:∀ (j v:Nat),¬ (Array.replicate (M+1) (none:Option Nat))[j]? = some (some v):=fun j v z=>by
  rw [Array.getElem?_replicate] at z
  split at z <;> cases z
 exact ⟨by simp,fun j v z=>absurd z (no j v),fun j j' v z _=>absurd z (no j v),fun v hv=>absurd hv (Nat.not_lt_zero v),fun j v z=>absurd z (no j v)⟩
section
variable {prog:Program} {w:World} {K:Type} [DecidableEq K] {knd:KeyKind prog w K}
abbrev Ex (knd:KeyKind prog w K) (k:List K):Int:=tupleKeyHash knd k
def Fd (knd:KeyKind prog w K) (p:List K × Addr):Int × Value:=(Ex knd p.1,.ref p.2)
structure SetT (knd:KeyKind prog w K) (h:Heap) (a:Addr) (ks:List (List K × Addr)):Prop where
 ob:∃ o es ep t,h.get? a=some o/\o.ExactSet/\o.data=.set es ep t/\TI t es/\t.mask<=8191/\t.led=(!w.params.followText "set-order")/\es.toList=ks.map (Fd knd)
 nd:(ks.map (·.1)).Nodup
 is:∀ p∈ks,IsTupleKey knd h p.1 p.2
end
local macro_rules | `(tactic| walk_at $s:str) => do
 let x:=s.getString
 if x.startsWith "PV" then `(tactic| exact $(Lean.mkIdent (.str (.str (.num (.str (.str (.str .anonymous "_private") "PySem") "SetOps") 0) "PySem") (x.drop 2).toString)))
 else Lean.Macro.throwUnsupported
section
variable {prog:Program} {w:World} {K:Type} [DecidableEq K] {knd:KeyKind prog w K}
theorem IsTupleKey.stay {h h':Heap} {k:List K} {a:Addr} (hk:IsTupleKey knd h k a) (e:∀ o,h.get? a=some o->h'.get? a=some o):IsTupleKey knd h' k a:=by
 obtain ⟨o,items,n,ho,r⟩:=hk
 exact ⟨o,items,n,e o ho,r⟩
theorem SetT.stay {h h':Heap} {a:Addr} {ks:List (List K × Addr)} (S:SetT knd h a ks) (e:∀ b o,h.get? b=some o->h'.get? b=some o):SetT knd h' a ks:=by
 obtain ⟨⟨o,es,ep,t,ho,r⟩,nd,is⟩:=S
 exact ⟨⟨o,es,ep,t,e _ _ ho,r⟩,nd,fun p hp=>IsTupleKey.stay (is p hp) fun o ho=>e _ _ ho⟩
theorem SetT.ne {h:Heap} {a x:Addr} {k:List K} {ks:List (List K × Addr)} (S:SetT knd h a ks) (hx:IsTupleKey knd h k x):x≠a:=by
 obtain ⟨⟨o,es,ep,t,ho,hex,_⟩,_,_⟩:=S
 obtain ⟨o',items,n,ho',hc,_⟩:=hx
 intro z
 subst z
 rw [ho] at ho'
 cases ho'
 rw [hex.1] at hc
 exact absurd hc (by decide)
end
end TS
namespace TS
open PySem PySem.SetTable PyProof.Rows
section
variable {s:Shared}
def SIt (h:Heap) (I:Addr) (first:Value) (i:Nat) (a:Addr) (n ep:Nat):Prop :=
 h.get? I=some { cls:=.type "set_iterator",dict:=none,data:=.fields #[first,.int i 0,.ref a,.int n 0,.int ep 0],slots:=#[] }
def SOb (h:Heap) (a:Addr) (es:Array (Int × Value)) (ep:Nat) (t:SetTable):Prop:=∃ o,h.get? a=some o/\o.data=.set es ep t
variable {a I:Addr} {es:Array (Int × Value)} {ep:Nat} {t:SetTable} {first:Value} {i n:Nat}
theorem SIt.typeIs (h:SIt s.heap I first i a n ep):s.TypeIs (.ref I) "set_iterator" := ⟨_,h,rfl⟩
def PV (ys:List (Int × Value)) (i:Nat) (v:Value):Prop:=∃ e,ys[i]? = some e/\v=e.2
theorem SIt.keep {h h':Heap} (x:SIt h I first i a n ep) (e:∀ o,h.get? I=some o->h'.get? I=some o):SIt h' I first i a n ep:=e _ x
theorem SOb.keep {h h':Heap} (x:SOb h a es ep t) (e:∀ o,h.get? a=some o->h'.get? a=some o):SOb h' a es ep t:=let ⟨o,ho,r⟩:=x; ⟨o,e _ ho,r⟩
end
end TS
namespace Tim
open PySem PyProof.Rows
end Tim
namespace TS
open PySem PySem.SetTable PyProof.Rows
end TS
namespace L2
open PySem PySem.Spec PyProof.Rows
section
variable {X:Cx} {pins:List (Addr × Obj)} {σ:St} {H:Hp} {s:Shared}
theorem Inv.drawn {d} (I:Inv X pins σ H s):Inv X pins σ H { s with drawn:=d }:=⟨I.ok,I.os,I.bare,I.base,I.loc,I.cell,I.free,I.freeC,I.pin,I.hok,I.len⟩
theorem cT.pairs {H:Hp} {ys:List V} {ks:List (List Key)} {vs:List Value} (h:cT H ys ks) (hv:Vals ys vs):∃ xs:List (List Key × Addr),vs=xs.map (fun p=>Value.ref p.2)/\xs.map (·.1)=ks/\∀ p∈xs,H p.2=some (.tup (p.1.map kV)):=by
 induction ys generalizing ks vs with
 | nil=>exact ⟨[],Paired.n0 hv,(show ks=[] from Paired.n0 h).symm,fun p hp=>nomatch hp⟩
 | cons y ys ih =>
  obtain ⟨k,ks,rfl,⟨b,rfl,g⟩,t⟩:=Paired.c h
  obtain ⟨v,vs,rfl,rfl,rs⟩:=Paired.c hv
  obtain ⟨xs,e1,e2,e3⟩:=ih t rs
  refine ⟨(k,b) :: xs,by rw [e1]; rfl,by rw [<- e2]; rfl,fun p hp=>?_⟩
  rcases xaj.mp hp with rfl | hp
  ·exact g
  ·exact e3 p hp
end
end L2
namespace TS
open PySem PySem.SetTable PyProof.Rows
section
variable {prog:Program} {w:World} {K:Type} [DecidableEq K] {knd:KeyKind prog w K}
def entK (knd:KeyKind prog w K) (p:K × Value):Int × Value:=(knd.hash p.1,p.2)
structure SetK (knd:KeyKind prog w K) (h:Heap) (a:Addr) (ks:List (K × Value)):Prop where
 ob:∃ o es ep t,h.get? a=some o/\o.ExactSet/\o.data=.set es ep t/\TI t es/\t.mask<=8191/\t.led=(!w.params.followText "set-order")/\es.toList=ks.map (entK knd)
 nd:(ks.map (·.1)).Nodup
 is:∀ p∈ks,knd.is p.1 p.2=true
end
end TS
namespace L2
open PySem PySem.Spec PyProof.Rows
end L2
namespace L2.Q
open PySem PySem.Spec PyProof.Rows
end L2.Q
namespace L2.Q.R
open PySem PySem.Spec PyProof.Rows L2.Q
end L2.Q.R
namespace L2
open PySem PySem.Spec PyProof.Rows
section
variable {prog:Program} {w:World} {A:Around} {E:Value->Shared->Prop} {s:Shared} {I l:Addr} {items:Array Value}
theorem oG:typeLookup (.type "list_reverseiterator") "__len__" = pure none:=by rw [typeLookup_type,builtinLookup_eq_fast]; kernel_rfl
theorem lR:typeLookup (.type "list_reverseiterator") "__length_hint__" = pure (some (.builtin "list_reverseiterator.__length_hint__")):=by rw [typeLookup_type,builtinLookup_eq_fast]; kernel_rfl
theorem wV {Q:Bool->Shared->Prop} (hT:s.TypeIs (.ref I) "list_reverseiterator") (h:Q false s):wpAny (model prog w) A (Builtin.List.listLengthHint (.ref I)) Q E s:=by
 unfold Builtin.List.listLengthHint
 refine xaa (wpAny_specialOf hT oG ?_)
 dsimp only
 rw [if_neg (by decide +kernel)]
 simp only [Option.isSome_none,xaq,if_false]
 refine xaa (wpAny_specialOf hT lR ?_)
 dsimp only
 rw [show splitId "list_reverseiterator.__length_hint__" = some ("list_reverseiterator", "__length_hint__") by decide +kernel]
 dsimp only
 refine xaa (wpAny_isInstance (T := "list_reverseiterator") (b:=true) hT (by rw [isSubtype_type]; kernel_rfl) ?_)
 refine wpAny_ite_split (fun hab=>absurd hab (by decide)) (fun _=>?_)
 refine wpAny_ite_split (fun _=>?_) (fun hab=>absurd (by decide +kernel) hab)
 refine wpAny_ite_split (fun hab=>absurd hab (by decide)) (fun _=>?_)
 exact xaf h
theorem vV {T:String} {fp:List Addr} {n:Nat} {P:Nat->Value->Prop} {St:Nat->Heap->Prop} {R:Result->Shared->Prop} (W:Walks prog w A.in1 I fp [I] n P St) (hT:s.TypeIs (.ref I) T) (hl1:(Value.type T == Value.type "list")=false) (hl2:(Value.type T == Value.type "tuple")=false)
  (hint:∀ (A':Around) (E':Value->Shared->Prop) (Q':Bool->Shared->Prop),Q' false s->wpAny (model prog w) A' (Builtin.List.listLengthHint (.ref I)) Q' E' s) (st:St 0 s.heap) (hn:n<=sizeLine)
  (S:Addr) (hSI:S≠I) (hSf:S∉fp) (res:Value) (c₀:Nat) (hS:s.heap.get? S=some { cls:=.type "list",data:=.seq #[] c₀ })
  (hR:∀ h' tk acc' c',(∀ b o,b≠S->b≠I->s.heap.get? b=some o->h'.get? b=some o)->h'.get? S=some { cls:=.type "list",dict:=none,data:=.seq acc' c',slots:=#[] }->ItemsOf P acc' n->R (.ok (.ret res)) { s with heap:=h',toks:=tk }) :
  wpAny (model prog w) A.in1 (Builtin.List.listExtendWith (.ref S) (.ref I) res)
   (fun fin s'=>match fin with | .done f=>R (.ok f) s' | .again c'=>c'.quiet=true/\codeAny (model prog w) A c' R s') (fun e s'=>R (.error e) s') s:=by
 have key:∀ (h:Heap) (c₁ tk:Nat),St 0 h->(∀ b o,b≠S->s.heap.get? b=some o->h.get? b=some o) ->
   h.get? S=some { cls:=.type "list",data:=.seq #[] c₁ }->codeAny (model prog w) A (.builtin "list.extend.loop" ⟨[.ref S,.ref I,res],[]⟩) R { s with heap:=h,toks:=tk }:=by
  intro h c₁ tk hst hk hS₁
  refine codeAny_extend_loopS W.toS hn S hSf res n 0 _ #[] c₁ rfl (xap _) hst hS₁ (ItemsOf.nil _) fun s' acc' c' hm hS' hacc=>?_
  rw [Moved.eq_with hm]
  refine hR s'.heap s'.toks acc' c' (fun b o hb hb2 e=>hm.heap b o (fun hmem=>?_) (hk b o hb e)) hS' hacc
  rcases xaj.mp hmem with e' | hmem
  ·exact hb e'
  ·exact hb2 (xaJ.mp hmem)
 unfold Builtin.List.listExtendWith
 refine xaa (wpAny_typeOf (T:=T) hT ?_)
 have h1:Builtin.List.listSameRef (.ref S) (.ref I)=false:=by simp [Builtin.List.listSameRef,hSI]
 simp only [h1,hl1,hl2,Bool.or_false,xaq,if_false]
 refine xaa (W.self 0 _ _ _ st ?_)
 refine xaa (wpAny_holding (hint _ _ _ ?_))
 refine wpAny_ite_split (fun _=>?_) (fun _=>xaf ⟨plainId_quiet PySem.F.plain_extend_loop _,key _ c₀ _ st (fun b o _ e=>e) hS⟩)
 refine xaa (wpAny_rule ?_)
 refine xaa ?_
 show wpAny _ _ (updateSeq S (·.push .none) >>= fun _=>updateSeq S (·.pop)) _ _ _
 refine xaa (wpAny_updateSeq hS rfl ?_)
 have hS₂:=xbk (Obj.mapSeq (·.push Value.none)) hS rfl
 refine wpAny_updateSeq (hz:=by seq_fits) hS₂ rfl ?_
 have hS₃:=xbk (Obj.mapSeq (·.pop)) hS₂ rfl
 refine xaf ⟨plainId_quiet PySem.F.plain_extend_loop _,key _ _ _ ?_ (fun b o hb e=>?_) hS₃⟩
 ·refine W.frame 0 _ _ st fun b hb o e=>?_
  have hbS:b≠S:=fun h=>hSf (h ▸ hb)
  exact (xbe _ _ (Ne.symm hbS)).trans ((xbe _ _ (Ne.symm hbS)).trans e)
 ·exact (xbe _ _ (Ne.symm hb)).trans ((xbe _ _ (Ne.symm hb)).trans e)
theorem mO {Q:Value->Shared->Prop} (hh:A.handled=none) (hI:s.heap.IsRevIter I l ((items.size:Int) - 1)) (hl:s.heap.IsList l items) (hne:l≠I) (hn:items.size<=sizeLine)
  (hQ:∀ h' tk c',(∀ b o,b≠I->s.heap.get? b=some o->h'.get? b=some o)->h'.get? s.heap.objs.size=some { cls:=.type "list",dict:=none,data:=.seq items.reverse c',slots:=#[] }->Q (.ref s.heap.objs.size) { s with heap:=h',toks:=tk }) :
  wpAny (model prog w) A (call (.type "list") [.ref I]) Q E s:=by
 have hIl:I<s.heap.objs.size:=by obtain ⟨o,ho,_⟩:=hI; exact xak ho
 have hll:l<s.heap.objs.size:=by obtain ⟨o,ho,_⟩:=hl; exact xak ho
 refine callType_codes (Q₁:=fun obj s₁=>obj=.ref s.heap.objs.size/\s₁={ s with heap:=s.heap.push { cls:=.type "list",data:=.seq #[] } }) PySem.F.called_list (PySem.F.typeCall_list_1 _) PySem.F.entry_list_init
  (code_list_new _ ⟨rfl,rfl⟩) fun obj s₁ h₁=>?_
 obtain ⟨rfl,rfl⟩:=h₁
 have hS:(s.heap.push { cls:=.type "list",data:=.seq #[] }).get? s.heap.objs.size=some { cls:=.type "list",data:=.seq #[] }:=xaC _ rfl
 refine ⟨⟨_,hS,rfl⟩,PySem.F.args_list_init_2 _ _,?_⟩
 show wpAny _ _ (do let old <- Builtin.List.listItems (.ref s.heap.objs.size); Builtin.List.listUpdate (.ref s.heap.objs.size) (fun _=>#[]); letGo old.toList.reverse; Builtin.List.listExtendWith (.ref s.heap.objs.size) (.ref I) .none) _ _ _
 refine xaa ?_
 unfold Builtin.List.listItems
 refine xaa (wpAny_seqItems hS rfl (xaf ?_))
 show wpAny _ _ (updateSeq s.heap.objs.size (fun _=>#[]) >>= fun _=>letGo (#[]:Array Value).toList.reverse >>= fun _=>Builtin.List.listExtendWith (.ref s.heap.objs.size) (.ref I) .none) _ _ _
 refine xaa (wpAny_updateSeq hS rfl ?_)
 have hS₂:=xbk (Obj.mapSeq (fun _=>(#[]:Array Value))) hS rfl
 have oth:∀ b o,s.heap.get? b=some o->((s.heap.push { cls:=.type "list",data:=.seq #[] }).update s.heap.objs.size (Obj.mapSeq (fun _=>(#[]:Array Value)))).get? b=some o :=
  fun b o e=>(xbe _ _ (Ne.symm (xaw (xak e)))).trans (xal _ e)
 refine xaa (wpAny_letGo ?_)
 have hI':Heap.IsRevIter ((s.heap.push { cls:=.type "list",data:=.seq #[] }).update s.heap.objs.size (Obj.mapSeq (fun _=>(#[]:Array Value)))) I l ((items.size:Int) - 1):=hI.at fun o e=>oth _ _ e
 refine vV (A:=A.in1) (Walks.listRev (show A.in1.in1.handled=none from hh) I l hne items) hI'.typeIs (by decide) (by decide) (fun A' E' Q' q=>wV hI'.typeIs q) ⟨xap _,by simpa using hI',?_⟩ hn s.heap.objs.size (xbU hIl) (by
  simp only [xaj,xbF,or_false,not_or]
  exact ⟨xbU hIl,xbU hll⟩) .none _ hS₂ fun h' tk acc' c' hk hS' hacc=>?_
 ·exact hl.at fun o e=>oth _ _ e
 ·have e:acc'=items.reverse:=by
   apply Array.ext_getElem?
   intro i
   by_cases hi:i<items.size
   ·have hi':i<acc'.size:=by rw [hacc.1]; exact hi
    have:=hacc.2 i acc'[i] (xbj hi')
    rw [xbj hi',<- this,Array.getElem?_reverse hi]
   ·rw [xaS (by rw [hacc.1]; lia),xaS (by rw [Array.size_reverse]; lia)]
  rw [e] at hS'
  exact ⟨rfl,hQ h' tk c' (fun b o hb e=>hk b o (xaw (xak e)) hb (oth b o e)) hS'⟩
end
section
variable {X:Cx} {e:Expr} {te:TE} {p p2 pos pos2:Pos}
def jk (K:PySem.W.Frag):V->Hp->VK->Prop:=fun x H Q=>match x with
 | .ref a=>∃ ys,SqL K H a ys/\∀ l,H l=none->Q (.ref l) (upd H l (.lst ys.reverse))
 | _=>False
theorem Vals.rev {xs:List V} {vs:List Value} (h:Vals xs vs):Vals xs.reverse vs.reverse:=by
 induction xs generalizing vs with
 | nil=>rw [Paired.n0 h]; exact .nil
 | cons x xs ih =>
  obtain ⟨v,vs,rfl,r,rs⟩:=Paired.c h
  rw [xbz,xbz]
  exact Vals.append (ih rs) (.cons r .nil)
theorem sH (hc:X.calm=true) (hg:Gl X "list") (hm:X.mg "list" = none) (hg2:Gl X "reversed") (hm2:X.mg "reversed" = none) (he:PE X e te)
  (hv:bootBuiltins "list" = some (.type "list")) (hv2:bootBuiltins "reversed" = some (.type "reversed"))
  (hs2:starEach [e] X.env=(false,eval e X.env) :: starEach [] X.env:=by rfl)
  (hs:starEach [.Call (.Name "reversed" p2) [e] [] pos2] X.env=(false,eval (.Call (.Name "reversed" p2) [e] [] pos2) X.env) :: starEach [] X.env:=by rfl) :
  PE X (.Call (.Name "list" p) [.Call (.Name "reversed" p2) [e] [] pos2] [] pos) (tUn (jk X.K) te):=by
 intro pins s σ H Q I h
 refine wpAny_Call_Name_kw (ld_blt I hg hm hv ?_ (by decide) (by decide))
 refine PyProof.Rows.callWith_type1 ?_ hs rfl
 rw [hs]
 refine Calls.spliced_cons ?_
 refine wpAny_Call_Name_kw (ld_blt I hg2 hm2 hv2 ?_ (by decide) (by decide))
 refine PyProof.Rows.callWith_type1 ?_ hs2 rfl
 rw [hs2]
 refine Calls.spliced_cons (thn (he pins s σ H _ I h) fun u s1 hx5=>L2.ex2 hx5 fun x H1 I1 r1 q1=>Calls.spliced_nil ?_)
 have q1:jk X.K x H1 Q:=q1
 obtain ⟨a,rfl⟩:∃ a,x=.ref a:=by
  unfold jk at q1
  split at q1
  ·exact ⟨_,rfl⟩
  ·exact q1.elim
 obtain ⟨ys,hl,q⟩:=q1
 cases r1
 obtain ⟨vs,rv,pl,hz⟩:=I1.list hl
 have hhd:X.A.handled=none:=I1.ok.hd hc
 have hl1:s1.heap.IsList a vs.toArray:=pl.isList
 have hal:a<s1.heap.objs.size:=by obtain ⟨o,ho,_⟩:=hl1; exact xak ho
 refine call_reversed_list hl1 ?_
 refine Calls.spliced_nil ?_
 have hlen:=rv.length
 refine mO (s:={ s1 with heap:=s1.heap.push (revObj a ((vs.toArray.size:Int) - 1)) }) hhd ⟨_,xaC _ rfl,rfl,rfl⟩ (hl1.push _) (xaw hal) (by rw [xau]; lia) fun h' tk c' kp eo=>?_
 have hs2':(s1.heap.push (revObj a ((vs.toArray.size:Int) - 1))).objs.size=s1.heap.objs.size+1:=Heap.size_push ..
 refine ⟨.ref (s1.heap.push (revObj a ((vs.toArray.size:Int) - 1))).objs.size,_,I1.laid (a:=(s1.heap.push (revObj a ((vs.toArray.size:Int) - 1))).objs.size) (t':=tk) (fun b o e=>kp b o (xaw (xak e)) (xal _ e)) (by rw [hs2']; exact Nat.le_succ _) (show ObjOk X.prog X.w _ h' _ (.lst ys.reverse) from ⟨by rw [xbR]; exact hz,vs.reverse,c',rv.rev,by simpa using eo⟩),rfl,q _ (I1.hok.fresh (by rw [hs2']; exact Nat.le_succ _))⟩
end
end L2
namespace L2.Q
open PySem PySem.Spec PyProof.Rows
section
variable {X:Cx} {K:PySem.W.Frag} {e:Expr} {te:WE} {p p2 pos pos2:Pos}
def jq:W1:=fun m x Q=>match x with
 | .list xs=>flats xs=true/\Q (.ow true) (.list xs.reverse)
 | _=>False
theorem Reps.rev {H:Hp} {ds:List D} {vs:List V} (r:Reps K H ds vs):Reps K H ds.reverse vs.reverse:=by
 induction ds generalizing vs with
 | nil=>rw [r.n0]; exact .nil
 | cons d ds ih =>
  obtain ⟨u,us,rfl,r,rs⟩:=r.c
  rw [xbz,xbz]
  exact (ih rs).append (.cons r .nil)
theorem uW {xs:List D} (h:flats xs=true):flats xs.reverse=true:=fu.mpr fun x hx=>fu.mp h x (List.mem_reverse.mp hx)
theorem sS:Br1 K (jk K) jq:=by
 intro Hs H m x v As Qd Qv w rx h f
 have r1:=rx.rep w
 cases r1 with
 | list z s q =>
  have hl:=q.length
  exact ⟨_,s,f.lst w (by rw [xbR]; lia) q.rev (uW h.1) h.2⟩
 | _=>exact h.elim
theorem qu:bootBuiltins "reversed" = some (.type "reversed"):=by decide +kernel
theorem tV (hg:Gl X "list") (hm:X.mg "list" = none) (hg2:Gl X "reversed") (hm2:X.mg "reversed" = none) (he:QE X K e te) (hc:X.calm=true:=by rfl) (hK:X.K=K:=by rfl)
  (hs2:starEach [e] X.env=(false,eval e X.env) :: starEach [] X.env:=by rfl)
  (hs:starEach [.Call (.Name "reversed" p2) [e] [] pos2] X.env=(false,eval (.Call (.Name "reversed" p2) [e] [] pos2) X.env) :: starEach [] X.env:=by rfl) :
  QE X K (.Call (.Name "list" p) [.Call (.Name "reversed" p2) [e] [] pos2] [] pos) (wUn jq te):=by
 subst hK
 refine PE.imp (sH hc hg hm hg2 hm2 he kI qu hs2 hs) fun σ H Qv hx=>ex4 hx fun Hs ρ tot Q sr h fin=>?_
 exact ⟨Hs,ρ,tot,_,sr,h,fun v H1 Hs1 m x As g1 r1 f1 q1=>sS Hs1 H1 m x v As Q Qv g1.wf r1 q1 (Fin.after fin g1)⟩
end
end L2.Q
namespace L2.Q.R
open PySem PySem.Spec PyProof.Rows L2.Q
section
variable {Q:Md->L2.Q.D->Prop} {m:Md} {xs:List L2.Q.D}
theorem Ce:jq m (.list xs) Q=(flats xs=true/\Q (.ow true) (.list xs.reverse)):=rfl
end
end L2.Q.R
namespace L2.Q
open PySem PySem.Spec PyProof.Rows PySem.W
abbrev bmVE:List Value:=[.type "ValueError",.type "Exception",.type "BaseException",.type "object"]
structure XcK (K:PySem.W.Frag) (C:Addr):Prop where
 ex:excIn K C bmVE "ValueError.__new__" = true
 gx:findIn K (.ref C) "__getattr__" = some none
 ga:findIn K (.ref C) "__getattribute__" = some (some (.builtin "BaseException.__getattribute__"))
 cl:findIn K (.ref C) "__class__" = some (some (.builtin "object.__class__"))
 ob:mroIn K C (.type "object")=some true
theorem XcK.obj {K:PySem.W.Frag} {C:Addr} {h:Heap} (x:XcK K C) (X:K.In h):∃ bm N nm q bs hdct sn sub ab col dd k0 k1 k2 k3 k5 mN,
  h.get? C=some (excClassObj nm q C N bs bm hdct sn sub ab col dd k0 k1 k2 k3 k5 "ValueError.__new__")/\h.Ns N mN/\mN "__init__" = none/\OwnTail h bmVE bm:=by
 have q:=x.ex
 unfold excIn at q
 split at q
 ·rename_i dd cd sl ho
  split at q
  ·rename_i C' bm k0 k1 k2 k3 n k5 hm hs
   simp only [xaG,beq_iff_eq,xcp] at q
   obtain ⟨⟨⟨⟨⟨e1,e2⟩,hdel⟩,ht⟩,hok⟩,hni⟩:=q
   cases e1; cases e2
   cases cd
   dsimp only at hm hdel hok hni
   cases hm; cases hdel
   have hsl:sl = #[k0,k1,k2,k3,some (.builtin "ValueError.__new__"),k5]:=by
    cases sl
    dsimp only at hs
    rw [hs]
   cases hsl
   exact ⟨bm,_,_,_,_,_,_,_,_,_,dd,k0,k1,k2,k3,k5,_,X _ _ ho,.of_isNs (isNs_of_in X hok),nsMap_none_of_in X hok hni,tail_of_in X ht⟩
  ·cases q
 ·cases q
section
variable {prog:Program} {w:World} {A:Around} {E:Value->Shared->Prop} {h:Heap} {g:Array GenState} {d:Drawn} {t:Nat} {os:OsState} {a C:Addr} {o:Obj} {K:PySem.W.Frag}
theorem vW {R:Result->Shared->Prop} (x:XcK K C) (X:K.In h) (hx:h.get? a=some o) (hc:o.cls=.ref C) (hq:R (.ok (.ret (.ref C))) ⟨h,g,d,t,os⟩) :
  codeAny (model prog w) A (.call (.builtin "getset_descriptor.__get__") ⟨[.builtin "object.__class__",.ref a,.ref C],[]⟩) R ⟨h,g,d,t,os⟩:=by
 obtain ⟨bm,N,nm,q,bs,hdct,sn,sub,ab,col,dd,k0,k1,k2,k3,k5,mN,hC,hN,hni,T⟩:=x.obj X
 have hT5:(⟨h,g,d,t,os⟩:Shared).TypeIs (.builtin "object.__class__") "getset_descriptor" := F.typeOf_object_class
 have hcB:(Value.ref C :: bm).contains (.type (".".intercalate ("object.__class__".cutAt '.').dropLast))=true:=by
  rw [F.owner_object_class,xcm,T.hasType (X := "object") (b:=true) rfl]; rfl
 refine codeAny_call_builtin F.slot_gs_get.plain F.entry_gs_get (F.slot_gs_get.check _ _ _ _ _ _ _ _ hT5 (F.args_gs_get _ _ _) ?_)
 repeat (any_goals (first | assumption | (with_reducible refine wpAny_loadPart_at hx ?_; rw [hc]) | (with_reducible refine wpAny_isSubtype_exc hC ?_; rw [hcB]) | wp_step))
 refine ⟨Code.quiet_builtin _ (by decide +kernel),codeAny_builtin F.entry_object_class ?_⟩
 repeat (any_goals (first | assumption | (with_reducible refine wpAny_loadPart_at hx ?_; rw [hc]) | wp_step))
theorem su {tk:Tok} {Q:PySem.Fin->Shared->Prop} (x:XcK K C) (X:K.In h) (hx:h.get? a=some o) (hc:o.cls=.ref C) (hq:Q (.done (.ret (.ref C))) ⟨h,g,d,t,os⟩) :
  wpAny (model prog w) A (Builtin.«object.__getattribute__» ⟨[.ref a,.str "__class__" tk],[]⟩) Q E ⟨h,g,d,t,os⟩:=by
 have hT5:(⟨h,g,d,t,os⟩:Shared).TypeIs (.builtin "object.__class__") "getset_descriptor" := F.typeOf_object_class
 have f5:=F.typeOf_object_class
 have f6:=F.slot_gs_get.lookup
 have f7:=F.slot_gs_set.lookup
 have Lk:=looks_findIn (M:=model prog w) X x.cl
 repeat (any_goals (first | assumption | (with_reducible refine wpAny_loadPart_at hx ?_; rw [hc]) | with_reducible refine Lk.at ?_ | wp_step))
 refine vW x X hx hc ?_
 repeat (any_goals (first | assumption | wp_step))
theorem zp {tk:Tok} {Q:Value->Shared->Prop} (x:XcK K C) (X:K.In h) (hx:h.get? a=some o) (hc:o.cls=.ref C) (hq:Q (.ref C) ⟨h,g,d,t,os⟩) :
  wpAny (model prog w) A (getAttrBy (.ref a) (.str "__class__" tk) false) Q E ⟨h,g,d,t,os⟩:=by
 have f3:=F.attr_ValueError.ga.bind (.ref a)
 have hx2:(Value.builtin "BaseException.__getattribute__" == Value.builtin "object.__getattribute__")=false:=by decide +kernel
 have hx1:(onTheHeap (Value.ref C) && Value.builtin "BaseException.__getattribute__" == Value.builtin "object.__getattribute__")=false:=by rw [hx2]; rfl
 have Lk:=looks_findIn (M:=model prog w) X x.ga
 have Lg:=looks_findIn (M:=model prog w) X x.gx
 repeat (any_goals (first | assumption | (with_reducible refine wpAny_loadPart_at hx ?_; rw [hc]) | with_reducible refine Lk.at ?_ | with_reducible refine Lg.at ?_ | wp_step))
 obtain ⟨bm,N,nm,q,bs,hdct,sn,sub,ab,col,dd,k0,k1,k2,k3,k5,mN,hC,hN,hni,T⟩:=x.obj X
 have hk:builtinKind "BaseException.__getattribute__" = some .slot:=by decide +kernel
 have hsplit:splitId "BaseException.__getattribute__" = some ("BaseException", "__getattribute__"):=by decide +kernel
 have hcB:(Value.ref C :: bm).contains (.type "BaseException")=true:=by rw [xcm,T.hasType (X := "BaseException") (b:=true) rfl]; rfl
 have chk:∀ {Q':Unit->Shared->Prop} {E':Value->Shared->Prop} {A':Around},Q' () ⟨h,g,d,t,os⟩->wpAny (model prog w) A' (checkBuiltinCall "BaseException.__getattribute__" ⟨[.ref a,.str "__class__" tk],[]⟩) Q' E' ⟨h,g,d,t,os⟩:=fun {Q' E' A'} hq'=>by
  have ha:=F.args_bexc_ga (.ref a) (.str "__class__" tk)
  simp only [checkBuiltinCall,hk,hsplit]
  refine xaa ?_
  unfold isInstance
  repeat (first | (with_reducible refine wpAny_loadPart_at hx ?_; rw [hc]) | (with_reducible refine wpAny_isSubtype_exc hC ?_; rw [hcB]) | wp_step)
  exact hq'
 refine codeAny_call_builtin F.attr_ValueError.ga.plain F.entry_bexc_ga (chk (su x X hx hc ?_))
 repeat (any_goals (first | assumption | wp_step))
theorem uE {Q:Option Value->Shared->Prop} (x:XcK K C) (X:K.In h) (hx:h.get? a=some o) (hc:o.cls=.ref C) (hq:Q (some (.ref C)) ⟨h,g,d,t+1,os⟩):wpAny (model prog w) A (getAttr? (.ref a) "__class__") Q E ⟨h,g,d,t,os⟩:=by
 unfold getAttr? getAttrBy?
 repeat (any_goals (first | assumption | with_reducible apply zp x X hx hc | wp_step))
end
def XAt (a C:Addr) (h:Heap):Prop:=∃ o,h.get? a=some o/\o.cls=.ref C
theorem XcK.looks {K:PySem.W.Frag} {C:Addr} {h:Heap} {M:Model} (x:XcK K C) (X:K.In h):Looks M h (isType (.ref C)) true:=by
 obtain ⟨bm,N,nm,q,bs,hdct,sn,sub,ab,col,dd,k0,k1,k2,k3,k5,mN,hC,hN,hni,T⟩:=x.obj X
 intro A' Q' E' s' k q
 unfold isType loadHead
 exact xaa (wpAny_loadPart (k _ _ hC) (xaf q))
theorem vM {K:PySem.W.Frag} {a C:Addr} (x:XcK K C):KitX K (.ref a) (.ref C) (XAt a C) where
 ty:=fun M h X p=>by
  obtain ⟨o,h1,h2⟩:=p
  exact h2 ▸ (Looks.ld h1).andThen .now
 it:=fun M h X p=>x.looks X
 ne:=fun h tp dd its n sl X htp=>by
  obtain ⟨bm,N,nm,q,bs,hdct,sn,sub,ab,col,dd,k0,k1,k2,k3,k5,mN,hC,hN,hni,T⟩:=x.obj X
  refine Bool.eq_false_iff.mpr fun q=>?_
  have e:C=tp:=Value.ref.inj (beq_iff_eq.mp q)
  subst e
  have z:=congrArg (fun o=>o.map (·.data)) (hC.symm.trans htp)
  cases z
 ca:=fun {prog w A E Q s} X p k=>by
  obtain ⟨h,g,d,t,os⟩:=s
  obtain ⟨o,h1,h2⟩:=p
  exact uE x X h1 h2 k
theorem qb {M:Model} {A:Around} {E:Value->Shared->Prop} {K:PySem.W.Frag} {a C R:Addr} {h:Heap} {g:Array GenState} {d:Drawn} {t:Nat} {os:OsState} {Q:Bool->Shared->Prop} (x:XcK K C) (r:XcK K R) (sub:mroIn K C (.ref R)=some true) (X:K.In h) (p:XAt a C h)
  (hq:Q true ⟨h,g,d,t,os⟩):wpAny M A (excMatches (.ref a) (.ref R)) Q E ⟨h,g,d,t,os⟩:=by
 obtain ⟨bm,N,nm,q,bs,hdct,sn,sub',ab,col,dd,k0,k1,k2,k3,k5,mN,hC,hN,hni,T⟩:=r.obj X
 obtain ⟨oe,he,hcls⟩:=p
 have hcB:(Value.ref R :: bm).contains (.type "BaseException")=true:=by rw [xcm,T.hasType (X := "BaseException") (b:=true) rfl]; rfl
 have f:=tc_notTuple
 have Lk:=looks_mroIn (M:=M) X sub
 unfold excMatches
 repeat (first | (with_reducible refine wpAny_loadPart_at he ?_; rw [hcls]) | with_reducible refine wpAny_loadPart_at hC ?_ | (with_reducible refine wpAny_isSubtype_exc hC ?_; rw [hcB]) | with_reducible refine Lk.at ?_ | wp_step)
 exact hq
theorem FunFrames.rebase {h base B:Heap}:∀ {l:List PySem.Env},h.FunFrames base l->(∀ b∈frs l,B.get? b=none)->h.FunFrames B l
 | [],_,_=>trivial
 | env :: rest,⟨hk,⟨L,o,hf,hn,ho,hd⟩,hr⟩,hB=>⟨hk,⟨L,o,hf,hB L (by unfold frs; rw [xaV,hf]; exact xad),ho,hd⟩,
   FunFrames.rebase hr fun b hb=>hB b (by unfold frs; rw [xaV,hf]; exact xac _ hb)⟩
theorem ObjOk.there {P:Program} {w:World} {H:Hp} {h:Heap} {a:Addr} {o:HO} (x:ObjOk P w H h a o):∃ u,h.get? a=some u:=by
 cases o with
 | lst xs=>obtain ⟨_,_,_,_,e⟩:=x; exact ⟨_,e⟩
 | tup xs=>obtain ⟨_,_,_,_,e,_⟩:=x; exact ⟨_,e⟩
 | dK kvs=>obtain ⟨_,_,_,_,o,_,_,e,_⟩:=x; exact ⟨_,e⟩
 | dT kvs=>obtain ⟨_,_,_,_,o,_,_,e,_⟩:=x; exact ⟨_,e⟩
 | set S n=>obtain ⟨o,_,_,_,e,_⟩:=x; exact ⟨_,e⟩
 | ins C dx fs=>obtain ⟨_,_,_,e,_⟩:=x; exact ⟨_,e⟩
 | own y=>exact x
 | xd fs=>obtain ⟨_,⟨_,_,_,e,_⟩,_⟩:=x; exact ⟨_,e⟩
 | rng lo hi=>obtain ⟨_,_,_,e⟩:=x; exact ⟨_,e⟩
 | frz ob u=>obtain ⟨e,_⟩:=x; exact ⟨_,e⟩
 | tbl ps=>exact ⟨_,(show h.get? a=some _ from x)⟩
 | met f y=>exact ⟨_,(show h.get? a=some _ from x)⟩
 | ext φ=>obtain ⟨_,e,_⟩:=x; exact e
def Cov (B:Heap) (fs:List Addr) (H':Hp) (h₀ h:Heap):Prop:=∀ b o,h.get? b=some o->(H' b≠none\/h₀.get? b≠none)->b∉fs->B.get? b=some o
def CXx (P:Program) (w:World) (mg:Str->Option Value) (rn:List Str):CXT:=fun outer H s E e s' =>
 ∃ a n C a0 H' B,e=.ref a/\(n∈rn/\mg n=some (.ref C))/\s'.os=s.os/\AllBare s'.gens/\Un (frs outer) [] H H' s.heap s'.heap/\HOk P w H' s'.heap /\
  Heap.FlyingW B outer a (.ref C) a0 s'.heap/\Cov B (frs outer) H' s.heap s'.heap/\(∀ b∈frs outer,H' b=none)/\E (.ref C) none H'
structure dU (fs:List Addr) (H':Hp) (h₀ h h':Heap):Prop where
 keep:∀ b o,h.get? b=some o->(H' b≠none\/h₀.get? b≠none)->b∉fs->h'.get? b=some o
 slot:∀ b o,h.get? b=some o->b∈fs->∃ sl,h'.get? b=some { o with slots:=sl }
theorem dU.of {B:Heap} {l:List PySem.Env} {base:Heap} {H':Hp} {h₀ h h':Heap} (c:Cov B (frs l) H' h₀ h) (st:B.StaysIn h') (up:h.UpToSlots h') (ff:h.FunFrames base l):dU (frs l) H' h₀ h h' :=
 ⟨fun b o e k n=>st b o (c b o e k n),fun b o e m=>by
  obtain ⟨_,o',e',d⟩:=ff.mem m
  rw [e] at e'; cases e'
  exact up b o e d⟩
theorem dU.trans {fs:List Addr} {H':Hp} {h₀ h h1 h2:Heap} (a:dU fs H' h₀ h h1) (b:dU fs H' h₀ h1 h2):dU fs H' h₀ h h2 :=
 ⟨fun x o e k n=>b.keep x o (a.keep x o e k n) k n,fun x o e m=>by
  obtain ⟨_,e1⟩:=a.slot x o e m
  obtain ⟨sl,e2⟩:=b.slot x _ e1 m
  exact ⟨sl,e2⟩⟩
theorem dU.un {fs:List Addr} {H H':Hp} {h₀ h h':Heap} (m:dU fs H' h₀ h h') (u:Un fs [] H H' h₀ h):Un fs [] H H' h₀ h' where
 keep:=fun b o e n nb nx=>m.keep b o (u.keep b o e n nb nx) (.inr (by rw [e]; exact fun z=>nomatch z)) nb
 slot:=fun b o e n hb nx=>by
  obtain ⟨_,e1⟩:=u.slot b o e n hb nx
  obtain ⟨sl,e2⟩:=m.slot b _ e1 hb
  exact ⟨sl,e2⟩
 free:=u.free
 there:=fun b o e nx=>by
  obtain ⟨o',e1⟩:=u.there b o e nx
  by_cases hb:b∈fs
  ·obtain ⟨sl,e2⟩:=m.slot b o' e1 hb
   exact ⟨_,e2⟩
  ·exact ⟨o',m.keep b o' e1 (.inr (by rw [e]; exact fun z=>nomatch z)) hb⟩
 tups:=u.tups
 frzs:=u.frzs
 tbls:=u.tbls
theorem dU.hok {P:Program} {w:World} {fs:List Addr} {H':Hp} {h₀ h h':Heap} (m:dU fs H' h₀ h h') (f:∀ b∈fs,H' b=none) (x:HOk P w H' h):HOk P w H' h':=fun a o e =>
 (x a o e).stay (fun b u hb q=>by
  have hH:H' b≠none:=by
   rcases hb with z | z
   ·rw [z,e]; exact fun z=>nomatch z
   ·rw [z]; exact fun z=>nomatch z
  exact m.keep b u q (.inl hH) fun z=>hH (f b z)) (fun _ q=>q) fun _ _ q=>q
section
variable {X:Cx} {pins:List (Addr × Obj)} {σ:St} {H H':Hp} {s:Shared} {e:Value}
theorem Cov.up {B h h':Heap} (hst:X.stack=X.env :: X.outer) (hf:X.env.frame=some X.env.locals) (hex:X.ex=[]) (I:Inv X pins σ H s) (un:Un (frs X.stack) [] H H' s.heap h) (c:Cov B (frs X.stack) H' s.heap h) (m:dU (frs X.stack) H' s.heap h h') (fr:∀ b∈frs X.stack,H' b=none) (hok:HOk X.prog X.w H' h) :
  Un X.fs [] X.H₀ H' X.s₀.heap h'/\Cov B X.fs H' X.s₀.heap h':=by
 have hs:∀ b,b∈frs X.stack↔b=X.env.locals\/b∈X.fs:=fun b=>by
  rw [hst]; unfold frs; rw [xaV,hf]; exact xaj
 have neL:∀ b o,X.s₀.heap.get? b=some o->b≠X.env.locals:=fun b o e=>xaw (xav (xak e) I.ok.above)
 have nex:∀ b:Addr,b∉X.ex:=fun b z=>by rw [hex] at z; exact nomatch z
 have m':=m.un un
 have th:∀ b o,X.s₀.heap.get? b=some o->∃ o',s.heap.get? b=some o':=fun b o e=>I.base.there b o e (nex b)
 refine ⟨⟨fun b o e n nb nx=>?_,fun b o e n hb nx=>?_,fun b o e n nx=>?_,fun b o e nx=>?_,fun b xs e=>un.tups b xs (I.base.tups b xs e),fun b ob u e=>un.frzs b ob u (I.base.frzs b ob u e),fun b ps e=>?_⟩,fun b o e k nb=>?_⟩
 ·exact m'.keep b o (I.base.keep b o e n nb (nex b)) (I.base.free b o e n (nex b)) (fun z=>((hs b).mp z).elim (neL b o e) nb) (by simp)
 ·obtain ⟨_,e1⟩:=I.base.slot b o e n hb (nex b)
  obtain ⟨sl,e2⟩:=m'.slot b _ e1 (I.base.free b o e n (nex b)) ((hs b).mpr (.inr hb)) (by simp)
  exact ⟨sl,e2⟩
 ·obtain ⟨o',e1⟩:=th b o e
  exact un.free b o' e1 (I.base.free b o e n (nex b)) (by simp)
 ·obtain ⟨o',e1⟩:=th b o e
  exact m'.there b o' e1 (by simp)
 ·obtain ⟨m1,e1⟩:=I.base.tbls b ps e
  obtain ⟨m2,e2⟩:=un.tbls b _ e1
  exact ⟨m1++m2,by rw [e2,xbt]⟩
 ·have key:∀ o',h.get? b=some o'->(H' b≠none\/s.heap.get? b≠none)->b∉frs X.stack->B.get? b=some o:=fun o' e' k' n'=>by
   have:=m.keep b o' e' k' n'
   rw [e] at this; cases this
   exact c b o e' k' n'
  rcases k with k | k
  ·have nf:b∉frs X.stack:=fun z=>k (fr b z)
   cases q:H' b with
   | none=>exact absurd q k
   | some u =>
    obtain ⟨o',e'⟩:=ObjOk.there (hok b u q)
    exact key o' e' (.inl k) nf
  ·cases q:X.s₀.heap.get? b with
   | none=>exact absurd q k
   | some o0 =>
    obtain ⟨o1,e1⟩:=th b o0 q
    obtain ⟨o2,e2⟩:=un.there b o1 e1 (by simp)
    exact key o2 e2 (.inr (by rw [e1]; exact fun z=>nomatch z)) fun z=>((hs b).mp z).elim (neL b o0 q) nb
end
section
variable {P:Program} {w:World} {K:PySem.W.Frag} {mg:Str->Option Value} {base:Heap} {N:List Str} {qual:Str} {scope:Scope} {f:Addr} {cd:Value} {A:Around} {outer:List PySem.Env} {s₀:Shared} {H₀:Hp} {E:XK} {rn:List Str}
theorem tU {env:PySem.Env} {L b:Addr} {l:List PySem.Env} (hf:env.frame=some L) (h:b∈frs l):b∈frs (env :: l):=by
 unfold frs; rw [xaV,hf]; exact xac _ h
theorem zM:Passes (CXx P w mg rn) (cxOf (CXx P w mg rn) P w K mg base N qual scope f cd A outer s₀ H₀ E) E:=by
 intro pins σ H s e s' I hx
 obtain ⟨a,n,C,a0,H',B,he,hn,os,bare,un,hok,fly,cov,fr,hE⟩:=hx
 subst he
 refine wpAny_leaves_onW I.ok.frames rfl fly fun h' fly' up=>?_
 have mv:=dU.of cov fly'.1 up fly.2.2.1
 obtain ⟨u1,c1⟩:=Cov.up (X:=cxOf (CXx P w mg rn) P w K mg base N qual scope f cd A outer s₀ H₀ E) rfl rfl rfl I un cov mv fr hok
 exact ⟨a,n,C,a0,H',B,rfl,hn,os.trans I.os,bare,u1,mv.hok fr hok,fly',c1,fun b hb=>fr b (tU rfl hb),hE⟩
def pG (X:Cx) (rn:List Str) (E:XK):Prop:=∀ (pins:List (Addr × Obj)) (σ:St) (H:Hp) (s:Shared) (h':Heap) (e:Addr) (n:Str) (C:Addr) (vs:List Value),Inv X pins σ H s->Heap.MadeExcOf s.heap h' e (.ref C) vs ->
 n∈rn->X.mg n=some (.ref C)->E (.ref C) none H->X.xe (.ref e) { s with heap:=h' }
theorem Bp:pG (cxOf (CXx P w mg rn) P w K mg base N qual scope f cd A outer s₀ H₀ E) rn E:=by
 intro pins σ H s h' e n C vs I hx hn hm hE
 have st:=I.stack
 have ff:s.heap.FunFrames (hideAll s.heap (frs (envOfC qual scope s₀.heap.objs.size f cd :: outer))) (envOfC qual scope s₀.heap.objs.size f cd :: outer):=FunFrames.rebase st fun b hb=>hideAll_none _ hb
 refine wpAny_leaves_madeW (h:=s.heap) I.ok.frames rfl (fun b o q=>of_hideAll _ q) ff hx fun h'' t fly tup hnt up=>?_
 have ff':h'.FunFrames (hideAll s.heap (frs (envOfC qual scope s₀.heap.objs.size f cd :: outer))) (envOfC qual scope s₀.heap.objs.size f cd :: outer):=ff.of_keeps fun b o q _=>⟨o,hx.keeps b o q,rfl⟩
 have hok:HOk P w H h':=I.hok.kept hx.keeps
 have fr:∀ b∈frs (envOfC qual scope s₀.heap.objs.size f cd :: outer),H b=none:=I.stkFree
 have cov:Cov (hideAll s.heap (frs (envOfC qual scope s₀.heap.objs.size f cd :: outer))) (frs (envOfC qual scope s₀.heap.objs.size f cd :: outer)) H s.heap h':=fun b o q k nb=>by
  have ho:∃ o1,s.heap.get? b=some o1:=by
   rcases k with k | k
   ·cases z:H b with
    | none=>exact absurd z k
    | some u=>exact ObjOk.there (I.hok b u z)
   ·exact Option.ne_none_iff_exists'.mp k
  obtain ⟨o1,e1⟩:=ho
  have e2:=hx.keeps b o1 e1
  rw [q] at e2; cases e2
  exact hideAll_get _ e1 nb
 have mv:dU (frs (envOfC qual scope s₀.heap.objs.size f cd :: outer)) H s.heap h' h'':=dU.of cov fly.1 up ff'
 obtain ⟨u1,c1⟩:=Cov.up (X:=cxOf (CXx P w mg rn) P w K mg base N qual scope f cd A outer s₀ H₀ E) rfl rfl rfl I (Un.kept hx.keeps) cov mv fr hok
 exact ⟨e,n,C,_,H,_,rfl,⟨hn,hm⟩,I.os,I.bare,u1,mv.hok fr hok,fly,c1,fun b hb=>fr b (tU rfl hb),hE⟩
theorem Fe {X:Cx}:Passes (CXx P w mg rn) X E0:=by
 intro _ _ _ _ _ _ _ hx
 obtain ⟨_,_,_,_,_,_,_,_,_,_,_,_,_,_,_,h⟩:=hx
 exact h.elim
def LX (rn:List Str) (mg:Str->Option Value) (E:XK):Str->Hp->Prop:=fun n H'=>n∈rn->∀ C,mg n=some (.ref C)->E (.ref C) none H'
def dW (K:PySem.W.Frag) (rn:List Str) (mg:Str->Option Value) (sp:SpD):Sp:=fun vs H Qv E=>∃ ds Qd,Reps K H ds vs/\sp ds Qd /\
 (∀ v H' Hs' m d As,Same H Hs'->Wf Hs' H'->RM K Hs' H' m d v As->As.Nodup->(∀ a∈As,Hs' a=none)->Qd m d->Qv v H') /\
 ∀ n H',Same H H'->Qd (.ow false) (.str n)->LX rn mg E n H'
theorem sV {sp:SpD} {t:WS} {vs:List V} {H:Hp} {Qv:VK} (h:dW K rn mg sp vs H Qv E) (hp:∀ ds Q,sp ds Q->t { nx:=fun _=>Q .sh .non,rt:=Q } (bC N.length ds)) :
  tpS K (LX rn mg E) t { nx:=fun _ H'=>Qv .non H',rt:=Qv } (start N vs) H:=by
 obtain ⟨ds,Qd,rs,hs,fin,fx⟩:=h
 have hl:=rs.length
 refine ⟨H,bC N.length ds,[],{ nx:=fun _=>Qd .sh .non,rt:=Qd },⟨?_,⟨Same.refl _,fun _ _ e=>e⟩,xaO,fun a h=>nomatch h⟩,hp ds Qd hs,?_,?_,?_,?_,fx⟩
 ·unfold bC start
  rw [hl]
  exact SR.start rs
 ·exact fun σ' H' Hs' ρ' tot' s sr q=>fin .non H' Hs' .sh .non [] s sr.wf ⟨rfl,.non⟩ xaO (fun a h=>nomatch h) q
 ·exact fun σ' H' Hs' ρ' tot' s sr q=>q.elim
 ·exact fun σ' H' Hs' ρ' tot' s sr q=>q.elim
 ·exact fun v H' Hs' m d As s w r nd own q=>fin v H' Hs' m d As s w r nd own q
theorem FunX.ok {x:Str} {st:Stmt} {fd:FuncData} {ps:List Str} {k:Nat} {sp:SpD} {t:WS} (F:Fun K x qual st f fd) (S:FnScope N ps (defScope st)) (len:∀ ds Q,sp ds Q->ds.length=ps.length)
  (hbody:∀ (cdv:Value) (A:Around) (outer:List PySem.Env) (s:Shared) (H:Hp) (E:XK),Room k (A.deeper (envOfC qual (defScope st) s.heap.objs.size f cdv))->QSs (cxOf (CXx P w mg rn) P w K mg base N qual (defScope st) f cdv A outer s H E) K (LX rn mg E) (defBody st) t)
  (hp:∀ ds Q,sp ds Q->t { nx:=fun _=>Q .sh .non,rt:=Q } (bC N.length ds)):FnOk P w K mg base (CXx P w mg rn) (k+1) f fd ps (dW K rn mg sp):=by
 obtain ⟨oc,od,kV,doc,pm,an,cdv,ct,osl,rfl,lk,hcd⟩:=F.ex
 exact fn_of lk hcd S (fun vs H Q E ⟨ds,Qd,rs,hs,_⟩=>by rw [<- rs.length]; exact len ds Qd hs) fun A outer s H vs Q E hr hsp=>⟨_,hbody cdv A outer s H E hr,sV hsp hp⟩
structure CalX (P:Program) (w:World) (K:PySem.W.Frag) (mg:Str->Option Value) (base:Heap) (rn:List Str) (k:Nat) (x:Str) (ps:List Str) (sp:SpD):Prop where
 ex:∃ (g:Addr) (fd:FuncData),mg x=some (.ref g)/\PySem.W.keepIn K (.ref g)=true/\Binds K fd ps []/\FnOk P w K mg base (CXx P w mg rn) k g fd ps (dW K rn mg sp)
theorem Fun.calX {k:Nat} {x qual:Str} {st:Stmt} {f:Addr} {fd:FuncData} {ps:List Str} {sp:SpD} (F:Fun K x qual st f fd) (hm:mg x=some (.ref f)) (ok:FnOk P w K mg base (CXx P w mg rn) k f fd ps (dW K rn mg sp))
  (h:∀ (kV doc pm:Value) (an:Option Addr) (cdv ct:Value) (us:List Value),us.length=ps.length->bindArgs (PySem.W.fnOf x qual (defArgs st) (defBody st) (defScope st) .none kV doc pm an cdv ct) ⟨us,[]⟩=pure (ps.zip us)):CalX P w K mg base rn k x ps sp:=⟨f,fd,hm,F.kp,F.binds h,ok⟩
end
def XCl (K:PySem.W.Frag) (mg:Str->Option Value) (n:Str):Prop:=∃ C,mg n=some (.ref C)/\XcK K C
def xch (m:Md) (d:D) (Y:Str->Prop) (N:Prop):Prop:=match m,d with
 | .ow false,.str n=>Y n
 | _,_=>N
theorem tY {K:PySem.W.Frag} {Hs H:Hp} {m:Md} {d:D} {v:V} {As:List Addr} {Y:Str->Prop} {N:Prop} (r:RM K Hs H m d v As) (h:xch m d Y N):N:=by
 unfold xch at h
 split at h
 ·obtain ⟨r,ne⟩:=r
  cases r
  exact absurd rfl ne
 ·exact h
section
variable {X:Cx} {K:PySem.W.Frag} {rn:List Str} {E:XK} {e:Expr} {es:List Expr} {te:WE} {t:WA} {pos:Pos}
def vA (n:Str) (te:WE):WS:=fun E ρ=>te ρ fun _ _=>E.rt (.ow false) (.str n)
theorem wH {x:Str} {C:Addr} {ta:TA} {np cpos:Pos} (hc:X.calm=true) (ok:pG X rn E) (hn:x∈rn) (hm:X.mg x=some (.ref C)) (xc:XcK X.K C) (ha:PA X [e] ta) (hg:Gl X x) (hdb:(x == ("__debug__" : Str))=false)
  (he:starEach [e] X.env=[(false,eval e X.env)]):PS X (.Raise (some (.Call (.Name x np) [e] [] cpos)) none pos) (fun D σ H=>ta σ H fun vs H1=>vs.length<=sizeLine/\E (.ref C) none H1):=by
 intro pins s σ H D I h
 obtain ⟨bm,N,nm,q,bs,hdct,sn,sub,ab,col,dd,k0,k1,k2,k3,k5,mN,hC,hN,hni,T⟩:=xc.obj I.mod.kin
 refine wpAny_Raise_call_subT (C:=C) (nm:=nm) (q:=q) (N:=N) (bs:=bs) (bm:=bm) (hdct:=hdct) (sn:=sn) (sub:=sub) (ab:=ab) (col:=col) (dd:=dd) (k0:=k0) (k1:=k1) (k2:=k2) (k3:=k3) (k5:=k5)
  F.excBase_ValueError (mN:=mN) (T.hasType F.excBase_ValueError.hasBase) (I.ok.hd hc) (by rw [he]; rfl) hni (ld_glob I hg hm ⟨rfl,?_⟩ hdb)
 have h2:=ha cpos pins s σ H _ I h
 rw [he] at h2 ⊢
 exact Calls.evalArgs_plain (thn h2 fun vs s1 ⟨xs,H1,I1,r,hl,q⟩=>⟨rfl,by rw [<- r.length]; exact hl,I1.bk _ _ hC,hN.keeps I1.bk,T.keeps I1.bk,fun h' e' hx=>ok pins σ H1 s1 h' e' x C vs I1 hx hn hm q⟩)
theorem wA {x:Str} {np cpos:Pos} (hc:X.calm=true) (ok:pG X rn E) (xc:XCl K X.mg x) (hn:x∈rn) (he:QE X K e te) (hg:Gl X x:=by rfl) (hdb:(x == ("__debug__" : Str))=false:=by decide) (hK:X.K=K:=by rfl)
  (hs:starEach [e] X.env=[(false,eval e X.env)]:=by rfl):QS X K (LX rn X.mg E) (.Raise (some (.Call (.Name x np) [e] [] cpos)) none pos) (vA x te):=by
 subst hK
 obtain ⟨C,hm,xc⟩:=xc
 refine PS.imp (wH hc ok hn hm xc (pa_cons he pa_nil hs) hg hdb hs) fun D σ H hx=>gB hx fun Hs ρ tot E' sr h k1 k2 k3 k4 kx=>?_
 exact ⟨Hs,ρ,tot,_,sr,h,fun v H1 Hs1 m d As g1 r1 f1 q1=>⟨(by decide:1<=sizeLine),kx x H1 (g1.sh.trans g1.wf.sub) q1 hn C hm⟩⟩
section
variable {k:Nat} {x:Str} {ps:List Str} {sp:SpD} {p cpos:Pos}
theorem uD (C:CalX X.prog X.w X.K X.mg X.base rn k x ps sp) (hr:Room k X.A) (hx:Passes (CXx X.prog X.w X.mg rn) X E) {ta:TA} (ha:PA X (e :: es) ta) (hg:Gl X x) (hdb:(x == ("__debug__" : Str))=false) (he:starEach (e :: es) X.env=(false,eval e X.env) :: starEach es X.env)
  (hpl:(backTo pos (starEach es X.env)).any (·.1)=false):PE X (.Call (.Name x p) (e :: es) [] pos) (tCall (dW X.K rn X.mg sp) [] E ta):=by
 obtain ⟨g,fd,hm,hk,hb,F⟩:=C.ex
 exact pe_call F hr hg hm hk hb .nil hx ha hdb he hpl
theorem lG {σ:St} {H:Hp} {Qv:VK} {Hs:Hp} {ρ:Env} {tot:List Addr} {Y:Str->Prop} {Q:Md->D->Prop} (sr:SRel K Hs ρ σ H tot) (h:t ρ fun ps=>sp (ps.map (·.2)) fun m d=>xch m d Y (onK (m,d) (f:=fun p=>Q (retM p.1 p.2) p.2) ⟨⟩))
  (f:∀ v H' Hs' m d As,Grow Hs H Hs' H'->RM K Hs' H' m d v As->cM Hs' H As->Q m d->Qv v H') (fx:∀ n H',Same Hs H'->Y n->LX rn X.mg E n H'):tCall (dW K rn X.mg sp) [] E (tpA K t) σ H Qv:=by
 refine ⟨Hs,ρ,tot,_,sr,h,fun vs H1 Hs1 ps As g1 r1 f1 q1=>?_⟩
 refine ⟨_,_,by rw [xaI]; exact r1.reps g1.wf,q1,fun v H' Hs' m d As s w r nd own q=>?_,fun n H' s q=>fx n H' (g1.sh.trans (g1.wf.sub.trans s)) q⟩
 obtain ⟨As',r',fr⟩:=pH g1.wf s w r nd own
 exact Fin.after f g1 v H' _ (retM m d) d As' (ie g1.wf s w) r' fr (tY r q)
def qQ (sp:SpD) (t:WA):WE:=fun ρ Q=>t ρ fun ps=>sp (ps.map (·.2)) fun m d=>xch m d (fun _=>False) (onK (m,d) (f:=fun p=>Q (retM p.1 p.2) p.2) ⟨⟩)
def lF (sp:SpD) (t:WA):WS:=fun E ρ=>t ρ fun ps=>sp (ps.map (·.2)) fun m d=>xch m d (fun n=>E.rt (.ow false) (.str n)) (onK (m,d) (f:=fun _=>E.nx ρ) ⟨⟩)
variable (C:CalX X.prog X.w X.K X.mg X.base rn k x ps sp) (hr:Room k X.A)
include C hr
theorem xN (ha:QA X K (e :: es) t) (hK:X.K=K:=by rfl) (hg:Gl X x:=by rfl) (hdb:(x == ("__debug__" : Str))=false:=by decide) (he:starEach (e :: es) X.env=(false,eval e X.env) :: starEach es X.env:=by rfl)
  (hpl:(backTo pos (starEach es X.env)).any (·.1)=false:=by rfl):QE X K (.Call (.Name x p) (e :: es) [] pos) (qQ sp t):=by
 subst hK
 exact PE.imp (uD C hr Fe ha hg hdb he hpl) fun σ H Qv h=>ex4 h fun Hs ρ tot Q sr h f=>lG sr h f fun n H' _ z=>z.elim
variable (hx:Passes (CXx X.prog X.w X.mg rn) X E)
include hx
theorem jo (ha:QA X K (e :: es) t) (hs:swapsWith (.Call (.Name x p) (e :: es) [] cpos) none pos.line X.env=pure false:=by rfl) (hK:X.K=K:=by rfl) (hg:Gl X x:=by rfl) (hdb:(x == ("__debug__" : Str))=false:=by decide) (he:starEach (e :: es) X.env=(false,eval e X.env) :: starEach es X.env:=by rfl)
  (hpl:(backTo cpos (starEach es X.env)).any (·.1)=false:=by rfl):QS X K (LX rn X.mg E) (.Expr (.Call (.Name x p) (e :: es) [] cpos) pos) (lF sp t):=by
 subst hK
 exact PS.imp (ps_expr (uD C hr hx ha hg hdb he hpl) hs) fun D σ H hx=>gB hx fun Hs ρ tot E' sr h k1 k2 k3 k4 kx=>lG (Q:=fun _ _=>E'.nx ρ) sr h (fun v H1 Hs1 m d As g1 r1 f1 q1=>k1 σ H1 Hs1 ρ tot g1.sh (sr.grow g1) q1) kx
end
def wIsx (j:Nat) (a:Addr) (b:Bool):WE:=fun ρ Q=>ρ[j]? = some (some (.xc a))/\Q .sh (.bl b)
theorem DY {j:Nat} {a C:Addr} {oe:Obj} {c:Value} {vc:V} {b:Bool} {e2:Expr} {p:Pos} (hm:X.mg "isinstance" = none) (hp:(a,oe)∈X.pn) (hcl:oe.cls=.ref C) (xc:XcK X.K C) (hk:kitOne X.K (.ref C) c=some b) (he:PE X e (tVar j)) (ht:PE X e2 (tC vc)) (hvc:∀ u,RelV vc u->u=c)
  (hg:Gl X "isinstance" := by rfl) (hs:starEach (e :: [e2]) X.env=(false,eval e X.env) :: starEach [e2] X.env:=by rfl) (hs2:starEach (e2 :: []) X.env=(false,eval e2 X.env) :: starEach [] X.env:=by rfl) (hpl:(backTo pos (starEach [e2] X.env)).any (·.1)=false:=by rfl) :
  QE X K (.Call (.Name "isinstance" p) [e,e2] [] pos) (wIsx j a b):=by
 have hc:CallR X (.builtin "isinstance") (fun xs H Q=>xs=[.ref a,vc]/\Q (.bl b) H):=by
  intro pins s σ H xs us Q I r h
  obtain ⟨rfl,q⟩:=h
  obtain ⟨u,v,rfl,ru,rv⟩:=Vals.two r
  obtain rfl:u=Value.ref a:=ru
  obtain rfl:=hvc v rv
  obtain ⟨ho,_⟩:=I.pin (a,oe) (xai _ hp)
  exact kia_one (vM xc) I.kIn ⟨oe,ho,hcl⟩ hk (fun z=>nomatch z) fun tk=>⟨.bl b,H,I.tok tk,rfl,q⟩
 refine PE.imp (pe_callB hc hg hm g8 (pa_cons he (pa_cons ht pa_nil hs2) hs) (by decide) (by decide) hs hpl) fun σ H Qv hx=>ex4 hx fun Hs ρ tot Q sr h f=>?_
 obtain ⟨ea,q⟩:=h
 obtain ⟨v,e1,r⟩:=sr.sr.get ea
 have r:v=V.ref a:=r
 subst r
 exact ⟨_,e1,rfl,Fin.sh f sr.wf (.bl _) q⟩
end
abbrev fV (X:Cx) (pn:List (Addr × Obj)) (xe:Value->Shared->Prop):Cx:={ X with pn:=pn,xe:=xe }
abbrev inHand (X:Cx) (pn:List (Addr × Obj)) (a:Addr):Cx:={ X with A:=X.A.mark (some (.ref a)),calm:=false,pn:=pn,xe:=fun _ _=>False }
abbrev yr (X:Cx) (H:Hp) (s:Shared) (p:Addr × Obj):Prop:=s.heap.get? p.1=some p.2/\H p.1=none/\p.1≠X.env.locals/\p.1∉X.fs/\∀ v,p.2.data≠.cell v
section
variable {X:Cx} {pins pins' pn:List (Addr × Obj)} {σ:St} {H:Hp} {s:Shared} {xe:Value->Shared->Prop} {a:Addr}
theorem Inv.fV (I:Inv X pins σ H s) (h:∀ p∈pn++pins',yr X H s p):Inv (fV X pn xe) pins' σ H s :=
 ⟨⟨I.ok.mod,I.ok.kind,I.ok.glob,I.ok.blt,I.ok.above,I.ok.inj,I.ok.has,I.ok.cab,I.ok.hd,I.ok.frames,I.ok.stk,I.ok.exf,I.ok.bs,I.ok.bsz,I.ok.noex,I.ok.exfs,I.ok.funs,I.ok.frf⟩,I.os,I.bare,I.base,I.loc,I.cell,I.free,I.freeC,h,I.hok,I.len⟩
theorem Inv.jH (I:Inv (L2.Q.fV X pn xe) pins' σ H s) (h:∀ p∈X.pn++pins,p∈pn++pins'):Inv X pins σ H s :=
 ⟨⟨I.ok.mod,I.ok.kind,I.ok.glob,I.ok.blt,I.ok.above,I.ok.inj,I.ok.has,I.ok.cab,I.ok.hd,I.ok.frames,I.ok.stk,I.ok.exf,I.ok.bs,I.ok.bsz,I.ok.noex,I.ok.exfs,I.ok.funs,I.ok.frf⟩,I.os,I.bare,I.base,I.loc,I.cell,I.free,I.freeC,fun p hp=>I.pin p (h p hp),I.hok,I.len⟩
theorem Inv.inHand {pn2 pins2:List (Addr × Obj)} (I:Inv (L2.Q.fV X pn xe) pins' σ H s) (h:∀ p∈pn2++pins2,yr X H s p):Inv (L2.Q.inHand X pn2 a) pins2 σ H s :=
 ⟨⟨I.ok.mod,I.ok.kind,I.ok.glob,I.ok.blt,I.ok.above,I.ok.inj,I.ok.has,I.ok.cab,(fun z=>nomatch z),I.ok.frames,I.ok.stk,I.ok.exf,I.ok.bs,I.ok.bsz,I.ok.noex,I.ok.exfs,I.ok.funs,I.ok.frf⟩,I.os,I.bare,I.base,I.loc,I.cell,I.free,I.freeC,h,I.hok,I.len⟩
theorem Inv.EY {xe2:Value->Shared->Prop} (I:Inv (L2.Q.fV X pn xe) pins σ H s):Inv (L2.Q.fV X pn xe2) pins σ H s :=
 ⟨⟨I.ok.mod,I.ok.kind,I.ok.glob,I.ok.blt,I.ok.above,I.ok.inj,I.ok.has,I.ok.cab,I.ok.hd,I.ok.frames,I.ok.stk,I.ok.exf,I.ok.bs,I.ok.bsz,I.ok.noex,I.ok.exfs,I.ok.funs,I.ok.frf⟩,I.os,I.bare,I.base,I.loc,I.cell,I.free,I.freeC,I.pin,I.hok,I.len⟩
theorem Inv.zF (I:Inv (L2.Q.inHand X pn a) pins' σ H s) (hd:X.calm=true->X.A.handled=none) (h:∀ p∈X.pn++pins,p∈pn++pins'):Inv X pins σ H s :=
 ⟨⟨I.ok.mod,I.ok.kind,I.ok.glob,I.ok.blt,I.ok.above,I.ok.inj,I.ok.has,I.ok.cab,hd,I.ok.frames,I.ok.stk,I.ok.exf,I.ok.bs,I.ok.bsz,I.ok.noex,I.ok.exfs,I.ok.funs,I.ok.frf⟩,I.os,I.bare,I.base,I.loc,I.cell,I.free,I.freeC,fun p hp=>I.pin p (h p hp),I.hok,I.len⟩
theorem SP.jH {D:Ends} {f:Flow} (h:SP (L2.Q.fV X pn xe) pins' D f s) (hp:∀ p∈X.pn++pins,p∈pn++pins'):SP X pins D f s:=by
 cases f with
 | next=>obtain ⟨σ',H',I,q⟩:=h; exact ⟨σ',H',Inv.jH I hp,q⟩
 | brk=>obtain ⟨σ',H',I,q⟩:=h; exact ⟨σ',H',Inv.jH I hp,q⟩
 | cont=>obtain ⟨σ',H',I,q⟩:=h; exact ⟨σ',H',Inv.jH I hp,q⟩
 | ret u=>obtain ⟨v,σ',H',I,r,q⟩:=h; exact ⟨v,σ',H',Inv.jH I hp,r,q⟩
theorem Inv.forget {h':Heap} {m:Str->Option Value} {t:Nat} (I:Inv X pins σ H s) (hn:h'.Ns X.env.locals m) (hs:Heap.SameBut X.env.locals s.heap h'):Inv X pins (List.replicate X.N.length none) H { s with heap:=h',toks:=t }:=by
 have ne:∀ b o,X.s₀.heap.get? b=some o->b≠X.env.locals:=fun b o e=>xaw (xav (xak e) I.ok.above)
 refine ⟨I.ok,I.os,I.bare,⟨fun b o e n hb hx=>(hs.2 b (ne b o e)).trans (I.base.keep b o e n hb hx),fun b o e n hb hx=>?_,I.base.free,fun b o e hx=>?_,I.base.tups,I.base.frzs,I.base.tbls⟩,⟨m,hn,fun i x v e1 e2=>?_⟩,fun x c e=>?_,I.free,I.freeC,fun p hp=>?_,fun b o e=>?_,xb3⟩
 ·obtain ⟨sl,e1⟩:=I.base.slot b o e n hb hx
  exact ⟨sl,(hs.2 b (ne b o e)).trans e1⟩
 ·obtain ⟨o',e1⟩:=I.base.there b o e hx
  exact ⟨o',(hs.2 b (ne b o e)).trans e1⟩
 ·rw [xbV] at e2
  split at e2 <;> cases e2
 ·obtain ⟨v,z⟩:=I.cell x c e
  exact ⟨v,z.sameBut hs (I.cne x c e)⟩
 ·obtain ⟨e,n,nl,nf,d⟩:=I.pin p hp
  exact ⟨(hs.2 p.1 nl).trans e,n,nl,nf,d⟩
 ·refine (I.hok b o e).stay (fun c u hc q=>(hs.2 c ?_).trans q) (fun _ q=>q) fun _ _ q=>q
  intro z
  rcases hc with w | w
  ·rw [<- w,z,I.free] at e; cases e
  ·rw [z,I.free] at w; cases w
end
theorem SR.nones {K:PySem.W.Frag} {Hs H:Hp}:∀ σ:St,SR K Hs H (List.replicate σ.length none) σ []
 | []=>.nil
 | _ :: σ=>.non (SR.nones σ)
theorem SR.exc {K:PySem.W.Frag} {Hs H:Hp} {a:Addr}:∀ (σ:St) (j:Nat),SR K Hs H ((List.replicate σ.length none).set j (some (.xc a))) (σ.set j (some (.ref a))) []
 | [],_=>.nil
 | _ :: σ,0=>.xc (SR.nones σ)
 | _ :: σ,j+1=>.non (SR.exc σ j)
theorem Cov.next {P:Program} {w:World} {B:Heap} {fs:List Addr} {H':Hp} {h₀ h h':Heap} (c:Cov B fs H' h₀ h) (m:dU fs H' h₀ h h') (hok:HOk P w H' h) (th:∀ b o,h₀.get? b=some o->∃ o',h.get? b=some o'):Cov B fs H' h₀ h':=fun b o e k nb=>by
 have ho:∃ o',h.get? b=some o':=by
  rcases k with k | k
  ·cases z:H' b with
   | none=>exact absurd z k
   | some u=>exact ObjOk.there (hok b u z)
  ·obtain ⟨o0,e0⟩:=Option.ne_none_iff_exists'.mp k
   exact th b o0 e0
 obtain ⟨o',e'⟩:=ho
 have e2:=m.keep b o' e' k nb
 rw [e] at e2; cases e2
 exact c b o e' k nb
structure By (K:PySem.W.Frag) (mg:Str->Option Value) (rn:List Str) (R:Str):Prop where
 ex:∃ r,mg R=some (.ref r)/\XcK K r/\∀ n C,n∈rn->mg n=some (.ref C)->XcK K C/\mroIn K C (.ref r)=some true
end L2.Q
namespace L2.Q
open PySem PySem.Spec PyProof.Rows
end L2.Q
namespace L2.Q.R
open PySem PySem.Spec PyProof.Rows L2.Q
section
variable {E:iD} {ρ:Env} {Q:Md->L2.Q.D->Prop} {te:WE} {tar:WA} {j:Nat} {a:Addr} {b:Bool} {sp:SpD} {n:Str} {d:L2.Q.D} {Y:Str->Prop} {N:Prop}
theorem DR:vA n te E ρ=te ρ fun _ _=>E.rt (.ow false) (.str n):=rfl
theorem Fw:qQ sp tar ρ Q=tar ρ fun ps=>sp (ps.map (·.2)) fun m d=>xch m d (fun _=>False) (onK (m,d) (f:=fun p=>Q (retM p.1 p.2) p.2) ⟨⟩):=rfl
theorem El:lF sp tar E ρ=tar ρ fun ps=>sp (ps.map (·.2)) fun m d=>xch m d (fun n=>E.rt (.ow false) (.str n)) (onK (m,d) (f:=fun _=>E.nx ρ) ⟨⟩):=rfl
theorem Ia:wIsx j a b ρ Q=(ρ[j]? = some (some (.xc a))/\Q .sh (.bl b)):=rfl
theorem Ie:xch (.ow false) (.str n) Y N=Y n:=rfl
theorem GC:xch .sh d Y N=N:=rfl
theorem GD:xch .bo d Y N=N:=rfl
theorem Hu:xch (.ow true) d Y N=N:=rfl
theorem Ii {xs:List L2.Q.D}:xch (.ow b) (.list xs) Y N=N:=by cases b <;> rfl
theorem Ji {xs:List L2.Q.D}:xch (.ow b) (.tup xs) Y N=N:=by cases b <;> rfl
theorem Jk {xs:List (Key × L2.Q.D)}:xch (.ow b) (.dK xs) Y N=N:=by cases b <;> rfl
theorem Js {xs:List (List Key × L2.Q.D)}:xch (.ow b) (.dT xs) Y N=N:=by cases b <;> rfl
end
end L2.Q.R
namespace L2.Q
open PySem PySem.Spec PyProof.Rows PySem.W
theorem wQ {α:Type} {l:List α} (h:l.Nodup) {i j:Nat} {x:α} (a:l[i]? = some x) (b:l[j]? = some x):i=j:=by
 obtain ⟨hi,ei⟩:=xan.mp a
 obtain ⟨hj,ej⟩:=xan.mp b
 exact (List.getElem_inj h).mp (ei.trans ej.symm)
section
variable {X:Cx} {pins:List (Addr × Obj)} {σ:St} {H:Hp} {s:Shared}
theorem Inv.Ff {h':Heap} {m:Str->Option Value} {t j:Nat} {en:Str} {v:Option Value} (I:Inv X pins σ H s) (hN:X.N.Nodup) (hj:X.N[j]? = some en) (lk:∀ (i:Nat) (x:Str) (v:V),X.N[i]? = some x->σ[i]? = some (some v)->Vis X.env.scope x->∃ u,RelV v u/\Look X.env s.heap m x u)
  (hn:h'.Ns X.env.locals fun x=>if x=en then v else m x) (hs:Heap.SameBut X.env.locals s.heap h'):Inv X pins (σ.set j none) H { s with heap:=h',toks:=t }:=by
 have F:=Inv.forget (t:=t) I hn hs
 refine ⟨F.ok,F.os,F.bare,F.base,⟨_,hn,fun i x v' e1 e2 vs=>?_⟩,F.cell,F.free,F.freeC,F.pin,F.hok,by rw [List.length_set]; exact I.len⟩
 have hij:j≠i:=fun z=>by
  subst z
  rw [xcq] at e2
  split at e2
  ·split at e2 <;> cases e2
  ·rename_i z; exact z rfl
 rw [xbL hij] at e2
 obtain ⟨u,r,l⟩:=lk i x v' e1 e2 vs
 refine ⟨u,r,?_⟩
 rcases l with ⟨a,b⟩ | ⟨a,c,b,d⟩
 ·refine .inl ⟨a,?_⟩
  show (if x=en then v else m x)=some u
  rw [if_neg fun z=>hij ?_]
  ·exact b
  ·subst z
   exact wQ hN hj e1
 ·exact .inr ⟨a,c,b,d.sameBut hs (I.cne x c b)⟩
end
def zN (body:WS) (ρk:Addr->Env) (wr:Addr->Str->WS):WS:=fun E ρ =>
 body { E with nx:=fun _=>False,rt:=fun m d=>xch m d (fun n=>∀ a,wr a n E (ρk a)) (E.rt m d) } ρ
theorem wg {X:Cx} {K:PySem.W.Frag} {L:Str->Hp->Prop} {rn:List Str} {R:Str} {body rest:List Stmt} {np hpos pos p1 p2 p3:Pos} {i j:Nat} {en y:Str} {wb:WS} {ρk:Addr->Env} {wr:Addr->Str->WS}
  (xr:By X.K X.mg rn R) (hN:X.N.Nodup) (hj:X.N[j]? = some en) (hl:X.env.scope.names.lookup en=some .local) (hi:X.N[i]? = some y) (hy:X.env.scope.names.lookup y=some .local) (hst:X.stack=X.env :: X.outer) (hf:X.env.frame=some X.env.locals)
  (hρ:∀ a,ρk a=(List.replicate X.N.length none).set i (some (.xc a)))
  (hb:∀ pn xe E1,Passes (CXx X.prog X.w X.mg rn) (fV X pn xe) E1->QSs (fV X pn xe) K (LX rn X.mg E1) body wb)
  (hk:∀ pn a oe n C,n∈rn->X.mg n=some (.ref C)->XcK X.K C->(a,oe)∈pn->oe.cls=.ref C->QSs (fV X pn X.xe) K L rest (wr a n)) (hij:i≠j:=by decide) (hg:Gl X R:=by rfl) (hdb:(R == ("__debug__" : Str))=false:=by decide)
  (hd1:(en == ("__debug__" : Str))=false:=by decide) (hd2:(en == ("__classdict__" : Str))=false:=by decide) (hsw:swapsWith (.Name en p2) (some (.Name y p1)) p3.line X.env=pure false:=by rfl) :
  QSs X K L (.Try body [.ExceptHandler (some (.Name R np)) (some en) [.Assign [.Name y p1] (.Name en p2) p3] hpos] [] [] pos :: rest) (zN wb ρk wr):=by
 intro pins s σ H D I hx
 obtain ⟨Hs,ρ,tot,E,sr,h,k1,k2,k3,k4,kx⟩:=hx
 obtain ⟨r,hm,xr,sub⟩:=xr.ex
 have sp0:∀ p∈X.pn++pins,p∈(X.pn++pins)++[]:=fun p hp=>by rw [xaI]; exact hp
 have hbody:=hb (X.pn++pins) (fun e s'=>∃ pins' σ' H1 s1,Inv (fV X (X.pn++pins) X.xe) pins' σ' H1 s1/\CXx X.prog X.w X.mg rn X.stack H1 s1 (fun c _ H'=>∃ n C,c=.ref C/\n∈rn/\X.mg n=some (.ref C)/\Same Hs H'/\∀ a,wr a n E (ρk a)) e s') _
  (fun pins' σ' H1 s1 e s' I1 c=>⟨pins',σ',H1,s1,Inv.EY I1,c⟩)
  [] s σ H { D with nx:=fun _ _=>False } (Inv.fV I fun p hp=>I.pin p (by rw [xaI] at hp; exact hp)) ⟨Hs,ρ,tot,_,sr,h,fun _ _ _ _ _ _ _ z=>z,k2,k3,fun v H' Hs' m d As s2 w2 r2 nd own q=>k4 v H' Hs' m d As s2 w2 r2 nd own (tY r2 q),fun n H' s2 q hn C hC=>⟨n,C,rfl,hn,hC,s2,q⟩⟩
 refine wpAny_execs_cons (wpAny_Try_except (xaZ hbody (fun f s1 hs=>?_) fun e s' hx=>?_))
 ·have hs:=SP.jH hs sp0
  cases f with
  | next =>
   obtain ⟨σ',H',I',q⟩:=hs
   exact q.elim
  | brk=>exact hs
  | cont=>exact hs
  | ret u=>exact hs
 ·obtain ⟨pins',σ',H1,s1,I1,a,n',C,a0,H',B,rfl,hn',os,bare,un,hok,fly,cov,fr,n,C2,eC,hn,hm2,sm,hq⟩:=hx
  cases eC
  obtain ⟨xc,hsub⟩:=sub n C hn hm2
  obtain ⟨hh',g',d',t',os'⟩:=s'
  obtain rfl:os'=s1.os:=os
  have fly1:Heap.FlyingW B (X.env :: X.outer) a (.ref C) a0 hh':=hst ▸ fly
  have th:∀ b o,s1.heap.get? b=some o->∃ o',hh'.get? b=some o':=fun b o e=>un.there b o e (by simp)
  refine wpAny_looks_onW (hst ▸ I.ok.frames) hf fly1 fun h4 held up4=>wpAny_landsW held fun h5 fly5 up5=>?_
  have mv5:dU (frs X.stack) H' s1.heap hh' h5:=dU.of cov fly5.1 (up4.trans up5) fly.2.2.1
  have cov5:=cov.next mv5 hok th
  have un5:=mv5.un un
  have hok5:=mv5.hok fr hok
  have I5:Inv (fV X (X.pn++pins) X.xe) pins' σ' H' ⟨h5,g',d',t',s1.os⟩:=I1.call (h':=h5) (g':=g') (d':=d') (t':=t') (ch:=[]) un5 hok5 bare (fun b z=>absurd z (by simp))
  refine wpAny_handleBy_cons (codeAny_handlers_test ?_) (by intro q; cases q)
  refine ld_glob (X:=inHand X (X.pn++pins) a) (pins:=pins') (Inv.inHand I5 fun p hp=>I5.pin p hp) hg hm ?_ hdb
  refine qb xc xr hsub I5.kIn fly5.there (codeAny_handlers_suite_as ?_)
  refine lands_againW fly5 fun h6 fly6 up6=>?_
  have ff5:h5.FunFrames B X.stack:=hst ▸ fly5.2.2.1
  have mv6:dU (frs X.stack) H' s1.heap h5 h6:=dU.of cov5 fly6.1 up6 ff5
  have un6:=mv6.un un5
  have hok6:=mv6.hok fr hok5
  have I6:Inv (fV X (X.pn++pins) X.xe) pins' σ' H' ⟨h6,g',d',t',s1.os⟩:=I1.call (h':=h6) (g':=g') (d':=d') (t':=t') (ch:=[]) un6 hok6 bare (fun b z=>absurd z (by simp))
  obtain ⟨oe,vs,he,hcl,hdt,_⟩:=fly6.first
  have nf:a∉frs X.stack:=fun z=>by
   have ff6:h6.FunFrames B X.stack:=hst ▸ fly6.2.2.1
   obtain ⟨_,o,e1,d1⟩:=ff6.mem z
   rw [he] at e1; cases e1
   exact d1 vs hdt
  have na:H' a=none:=by
   cases z:H' a with
   | none=>rfl
   | some u =>
    have:=(cov5.next mv6 hok5 fun b o e=>un5.there b o e (by simp)) a oe he (.inl (by rw [z]; exact fun z=>nomatch z)) nf
    rw [fly6.2.1] at this; cases this
  have frm:∀ b,b∈frs X.stack↔b=X.env.locals\/b∈X.fs:=fun b=>by
   rw [hst]; unfold frs; rw [xaV,hf]; exact xaj
  have pa:yr X H' ⟨h6,g',d',t',s1.os⟩ (a,oe):=⟨he,na,fun z=>nf ((frm a).mpr (.inl z)),fun z=>nf ((frm a).mpr (.inr z)),fun v z=>by rw [hdt] at z; cases z⟩
  have I6h:Inv (inHand X ((a,oe) :: (X.pn++pins)) a) [] σ' H' ⟨h6,g',d',t',s1.os⟩:=Inv.inHand I6 fun p hp=>by
   rw [xaI] at hp
   rcases xaj.mp hp with z | z
   ·rw [z]; exact pa
   ·exact I6.pin p (xai _ z)
  refine store_ok2 (X:=inHand X ((a,oe) :: (X.pn++pins)) a) (v:=.ref a) I6h hN hj (.inl hl) rfl (fun s7 I7 _=>?_) (.inr hl)
  refine xaZ (pss_one (ps_set (X:=inHand X ((a,oe) :: (X.pn++pins)) a) hN hi (.inl hy) (pe_var hj (.inl hl) hd1 hd2) hsw (.inr hy)) [] s7 (σ'.set j (some (.ref a))) H' { nx:=fun σ8 H8=>σ8=(σ'.set j (some (.ref a))).set i (some (.ref a))/\H8=H',rt:=fun _ _=>False } I7 ⟨.ref a,?_,rfl,rfl⟩) (fun f s8 hs=>?_) fun _ _ z=>z.elim
  ·rw [xb0 (by rw [show σ'.length=X.N.length from I1.len]; exact (xan.mp hj).1)]
  cases f with
  | next =>
   obtain ⟨σ8,H8,I8,rfl,rfl⟩:=hs
   have I9:Inv (fV X ((a,oe) :: (X.pn++pins)) X.xe) [] _ H8 s8:=Inv.zF (X:=fV X ((a,oe) :: (X.pn++pins)) X.xe) I8 I.ok.hd fun p hp=>hp
   obtain ⟨m,hn8,lk⟩:=id I9.loc
   refine wpAny_nameGoes_keeps hl hn8 (by rw [I9.ok.kind]; rfl) fun h9 v hn9 sb=>?_
   refine thn (hk ((a,oe) :: (X.pn++pins)) a oe n C hn hm2 xc xad hcl [] _ _ H8 D (Inv.Ff I9 hN hj lk hn9 sb) ⟨H8,ρk a,[],E,⟨?_,⟨Same.refl _,fun _ _ e=>e⟩,xaO,fun a h=>nomatch h⟩,hq a,
    fun σ2 H2 Hs2 ρ2 tot2 s2=>k1 σ2 H2 Hs2 ρ2 tot2 (sm.trans s2),fun σ2 H2 Hs2 ρ2 tot2 s2=>k2 σ2 H2 Hs2 ρ2 tot2 (sm.trans s2),fun σ2 H2 Hs2 ρ2 tot2 s2=>k3 σ2 H2 Hs2 ρ2 tot2 (sm.trans s2),fun v H2 Hs2 m d As s2=>k4 v H2 Hs2 m d As (sm.trans s2),fun n H2 s2=>kx n H2 (sm.trans s2)⟩) fun f s10 hs=>SP.jH hs fun p hp=>xai _ (xac _ hp)
   rw [List.set_comm _ _ hij,List.set_set,hρ a,show X.N.length=(σ'.set j none).length by rw [List.length_set]; exact I1.len.symm]
   exact SR.exc (σ'.set j none) i
  | brk=>obtain ⟨_,_,_,z⟩:=hs; exact z.elim
  | cont=>obtain ⟨_,_,_,z⟩:=hs; exact z.elim
  | ret u=>obtain ⟨_,_,_,_,_,z⟩:=hs; exact z.elim
end L2.Q
namespace L2.Q.R
open PySem PySem.Spec PyProof.Rows L2.Q
theorem G4 {E:iD} {ρ:Env} {t:WS} {ρk:Addr->Env} {wr:Addr->Str->WS}:zN t ρk wr E ρ=t { E with nx:=fun _=>False,rt:=fun m d=>xch m d (fun n=>∀ a,wr a n E (ρk a)) (E.rt m d) } ρ:=rfl
end L2.Q.R
namespace L2.Q
open PySem PySem.Spec PyProof.Rows
def two' (m:Md) (d:D) (S:D->D->Prop) (O:D->D->Prop):Prop:=match m,d with
 | .sh,.tup [a,b]=>S a b
 | .ow true,.tup [a,b]=>a.flat=false/\b.flat=false/\O a b
 | _,_=>False
def yW (i j:Nat) (te:WE):WS:=fun E ρ=>te ρ fun m d=>two' m d (fun a b=>E.nx ((ρ.set i (some (.sh a))).set j (some (.sh b)))) fun a b=>E.nx ((ρ.set i (some (.ow true a))).set j (some (.ow true b)))
theorem yt {X:Cx} {K:PySem.W.Frag} {L:Str->Hp->Prop} {e:Expr} {te:WE} {i j:Nat} {x y:Str} {k:Nat} {p1 p2 p3 pos:Pos} (hc:X.calm=true) (hN:X.N.Nodup) (hi:X.N[i]? = some x) (hx:Loc X.env.scope x) (hj:X.N[j]? = some y) (hy:Loc X.env.scope y) (he:QE X K e te) (hK:X.K=K:=by rfl)
  (hf:X.fn x=true\/X.env.scope.names.lookup x=some .local:=by first | exact .inl rfl | exact .inr rfl | assumption) (hf2:X.fn y=true\/X.env.scope.names.lookup y=some .local:=by first | exact .inl rfl | exact .inr rfl | assumption)
  (hn:(assignEach [.Name x p1,.Name y p2] X.env).length=2:=by rfl) (hst:(assignEach [.Name x p1,.Name y p2] X.env).findIdx? (·.1)=none:=by rfl)
  (hs:swapsWithSole [.Tuple [.Name x p1,.Name y p2] k p3] e pos.line X.env=pure false:=by rfl) (hw:swappedStores [.Tuple [.Name x p1,.Name y p2] k p3] e X.env=pure none:=by rfl)
  (h1:(assignEach [.Tuple [.Name x p1,.Name y p2] k p3] X.env).map (·.2)=[assign (.Tuple [.Name x p1,.Name y p2] k p3) X.env]:=by rfl) (h2:(assignEach [.Name x p1,.Name y p2] X.env).map (·.2)=assign (.Name x p1) X.env :: (assignEach [.Name y p2] X.env).map (·.2):=by rfl)
  (h3:(assignEach [.Name y p2] X.env).map (·.2)=assign (.Name y p2) X.env :: (assignEach [] X.env).map (·.2):=by rfl) :
  QS X K L (.Assign [.Tuple [.Name x p1,.Name y p2] k p3] e pos) (yW i j te):=by
 subst hK
 refine PS.imp (ps_asg he (pg_tup hc (pgs_cons (pg_name hN hi hx hf) (pgs_cons (pg_name hN hj hy hf2) pgs_nil h3) h2) hn hst) hs hw h1) fun D σ H hx=>gj hx fun Hs ρ tot E sr h k1 k2 k3 k4=>?_
 refine ⟨Hs,ρ,tot,_,sr,h,fun v H1 Hs1 m d As g1 r1 f1 q1=>?_⟩
 have sr1:=sr.grow g1
 unfold two' at q1
 split at q1
 ·rename_i a b
  obtain ⟨_,r⟩:=r1
  cases r with
  | tup z e rs =>
   cases rs with
   | cons ra rs=>cases rs with
    | cons rb rs=>cases rs with
     | nil =>
      obtain ⟨t1,m1,s1⟩:=sr1.z9 i ra
      obtain ⟨t2,m2,s2⟩:=s1.z9 j rb
      exact ⟨_,_,rfl,.inl (.inl (g1.wf.sub _ _ e)),rfl,_,_,rfl,_,_,rfl,rfl,k1 _ H1 Hs1 _ t2 g1.sh s2 q1⟩
 ·rename_i a b
  obtain ⟨fa,fb,q1⟩:=q1
  obtain ⟨r,ne⟩:=r1
  cases r with
  | sh _ _=>exact absurd rfl ne
  | tup z e n rs =>
   cases rs with
   | @cons _ v1 _ _ A1 _ ra rs=>cases rs with
    | @cons _ v2 _ _ A2 _ rb rs=>cases rs with
     | nil =>
      obtain ⟨nd,fr⟩:=f1
      rw [xaI] at nd fr
      obtain ⟨n1,n2,n3⟩:=xam.mp nd
      have dj:∀ c∈A1++A2,c∉tot:=fun c hc z=>(sr.sr.own c z).ne (fr c hc).2
      obtain ⟨t1,a1,b1,c1⟩:=SR.tG (ra.ne fa) ra n1 i sr1.sr sr1.nod fun c hc=>dj c (xai _ hc)
      obtain ⟨t2,a2,b2,c2⟩:=SR.tG (rb.ne fb) rb n2 j c1 a1 fun c hc z=>by
       rcases b1 c z with w | w
       ·exact dj c (xae _ hc) w
       ·exact n3 c w c hc rfl
      refine ⟨_,_,rfl,.inl (.inl (g1.wf.sub _ _ e)),rfl,_,_,rfl,_,_,rfl,rfl,k1 _ H1 Hs1 _ t2 g1.sh ⟨c2,g1.wf,a2,fun c hc=>?_⟩ q1⟩
      rcases b2 c hc with w | w
      ·rcases b1 c w with w | w
       ·exact sr1.own c w
       ·exact (fr c (xai _ w)).1
      ·exact (fr c (xae _ w)).1
 ·exact q1.elim
end L2.Q
namespace L2.Q.R
open PySem PySem.Spec PyProof.Rows L2.Q
section
variable {E:iD} {ρ:Env} {te:WE} {i j:Nat} {x y:L2.Q.D} {S O:L2.Q.D->L2.Q.D->Prop}
theorem Gi:yW i j te E ρ=te ρ fun m d=>onK (m,d) (f:=fun p=>two' p.1 p.2 (fun a b=>E.nx ((ρ.set i (some (.sh a))).set j (some (.sh b)))) fun a b=>E.nx ((ρ.set i (some (.ow true a))).set j (some (.ow true b)))) ⟨⟩:=rfl
theorem DG:two' .sh (.tup [x,y]) S O=S x y:=rfl
theorem Eo:two' (.ow true) (.tup [x,y]) S O=(x.flat=false/\y.flat=false/\O x y):=rfl
end
end L2.Q.R
namespace L2
open PySem PySem.Spec PyProof.Rows Builtin Builtin.Str Builtin.Int
end L2
namespace L2.Q
open PySem PySem.Spec PyProof.Rows
section
variable {X:Cx} {K:PySem.W.Frag} {a:Expr} {ta:WE}
def wFz (t:WE):WE:=fun ρ Q=>t ρ fun m d=>ph m/\Q .sh d
theorem q_fz (h:QE X K a ta):QE X K a (wFz ta):=by
 refine PE.imp h fun σ H Qv hx=>ex4 hx fun Hs ρ tot Q sr h fin=>?_
 refine ⟨Hs,ρ,tot,_,sr,h,fun v H1 Hs1 m d As g1 r1 f1 q1=>?_⟩
 obtain ⟨nb,q⟩:=q1
 cases m with
 | sh=>exact fin v H1 Hs1 .sh d As g1 r1 f1 q
 | bo=>exact nb.elim
 | ow fl =>
  obtain ⟨r,ne⟩:=r1
  have hn:∀ a∈As,Hs1 a=none:=fun a h=>(f1.2 a h).1
  have s:=gW (H:=H1) hn
  refine fin v H1 (frzH Hs1 H1 As) .sh d [] ⟨g1.all,g1.sh.trans s,tR g1.wf r.own,fun c hc=>?_⟩ ⟨rfl,r.rep s fun c hc=>by unfold frzH; rw [if_pos hc]⟩ ⟨xaO,fun _ h=>mem0 h⟩ q
  unfold frzH at hc
  split at hc
  ·rename_i m
   exact .inr (f1.2 c m).2
  ·exact g1.new c hc
def owl (o:Option (Option Sl)) (k:List D->Prop):Prop:=match o with
 | some (some (.ow true (.list xs)))=>k xs
 | _=>False
def intD (y:D) (k:Int->Prop):Prop:=match y with
 | .int i=>k i
 | _=>False
def outM (d:D):Md:=bif d.flat then .sh else .ow true
end
end L2.Q
namespace L2.Q.R
open PySem PySem.Spec PyProof.Rows L2.Q
section
variable {ρ:Env} {te:WE} {m:Md} {ys:List L2.Q.D} {Q:Md->L2.Q.D->Prop}
theorem G5 {k:List L2.Q.D->Prop}:owl (some (some (.ow true (.list ys)))) k=k ys:=rfl
theorem Gp {i:Int} {k:Int->Prop}:intD (.int i) k=k i:=rfl
theorem wFz_:wFz te ρ Q=te ρ fun m d=>ph m/\Q .sh d:=rfl
end
end L2.Q.R
namespace L2
open PySem PySem.Spec PyProof.Rows
section
variable {prog:Program} {w:World} {A:Around} {E:Value->Shared->Prop} {s:Shared}
theorem zu {κ:Type} [DecidableEq κ] {kd:HeapKind prog w κ} {d b:Addr} {xs:List (κ × Addr × Value)} {k:κ} {r:Value} {Q:Value->Shared->Prop} (hu:kd.room A) (hk:kd.is s.heap k b) (hm:s.heap.DictOfH kd d xs) (hz:xs.length<=sizeLine)
  (h1:∀ p,atKey xs k=some p->Q p.2 { s with toks:=s.toks+kd.draws k })
  (h2:atKey xs k=none->∀ h',h'.DictOfH kd d (storedH xs k b r)->Heap.SameBut d s.heap h'->Q r { s with heap:=h',toks:=s.toks+kd.draws k }):wpAny (model prog w) A (dictSetDefault d (.ref b) r) Q E s:=by
 obtain ⟨o,es,ep,ho,hc,hd,he,his,hn⟩:=hm
 unfold dictSetDefault
 try with_reducible refine wpAny_holding ?_
 refine xaa (kd.pyHash hu hk (xaa (wpAny_dictFind_heap (s:={ s with toks:=s.toks+kd.draws k }) hu hk ho hd he his hn (fun no=>?_) fun j p hj=>?_)))
 ·have nk:=atKey_none_of_get no
  refine xaa (wpAny_rule (xaa (wpAny_updateDictKeys (hz:=by have e:=size_of_entries he; lia) (s:={ s with toks:=s.toks+kd.draws k }) ho hd (xaf (h2 nk _ ?_ (Heap.SameBut.update ..))))))
  rw [storedH_new nk]
  refine ⟨_,_,ep+1,xbk _ ho (Obj.isFreed_of_dict (Obj.data_mapDictKeys hd _)),hc.mapDictKeys _,Obj.data_mapDictKeys hd _,by simp [he,entryOfKey],fun x hx=>?_,?_⟩
  ·rcases xah.mp hx with q | q
   ·exact kd.keeps (his x q) ho hd (Heap.SameBut.update ..)
   ·obtain rfl:=xaJ.mp q
    exact kd.keeps hk ho hd (Heap.SameBut.update ..)
  ·rw [xaP]
   refine xam.mpr ⟨hn,by simp,fun x hx y hy e=>?_⟩
   obtain rfl:y=k:=by simpa using hy
   exact not_mem_keys_of_get no (e ▸ hx)
 ·refine xaa (wpAny_dictEntries (s:={ s with toks:=s.toks+kd.draws k }) ho hd ?_)
  rw [entry_at he j,hj]
  exact xaa (wpAny_rule (xaf (h1 _ (atKey_of_get hn hj))))
theorem wR {κ:Type} [DecidableEq κ] (kd:HeapKind prog w κ) (d b:Addr) (hd:(d == sysModules)=false) (r:Value) :
  MeetsIn prog w (Builtin.«dict.setdefault» ⟨[.ref d,.ref b,r],[]⟩) (fun A R s=>kd.room A.in1/\∃ k xs,kd.is s.heap k b/\s.heap.DictOfH kd d xs/\xs.length<=sizeLine /\
   (∀ p,atKey xs k=some p->R (.ok (.ret p.2)) { s with toks:=s.toks+kd.draws k }) /\
   (atKey xs k=none->∀ h',h'.DictOfH kd d (storedH xs k b r)->Heap.SameBut d s.heap h'->R (.ok (.ret r)) { s with heap:=h',toks:=s.toks+kd.draws k })) :=
 .of_wp fun A R s hx9=>by
  obtain ⟨hu,k,xs,hk,hm,hz,h1,h2⟩:=hx9
  unfold Builtin.«dict.setdefault» Builtin.Dict.keyAndDefault
  refine xaa (xaa (wpAny_notOrdered_dict hm.typeIs ?_))
  refine (show wpAny _ _ (pure (d,Value.ref b,some r)) _ _ s from xaf ?_)
  refine (show wpAny _ _ (if (d == sysModules)=true then _ else (dictSetDefault d (Value.ref b) r >>= _)) _ _ s from ?_)
  rw [if_neg (by rw [hd]; decide)]
  exact xaa (zu hu hk hm hz (fun p q=>xaf ⟨p.2,rfl,h1 p q⟩) fun q h' a c=>xaf ⟨r,rfl,h2 q h' a c⟩)
end
section
variable {X:Cx} {pins:List (Addr × Obj)} {σ:St} {H:Hp} {s:Shared} {a b:Addr} {A:Around} {E:Value->Shared->Prop}
theorem vD {kvs:List (List Key × V)} {k:List Key} {v:V} {r:Value} {Q:Value->Shared->Prop} (hu:A.units+1<cLine) (I:Inv X pins σ H s) (e:H a=some (.dT kvs)) (eb:H b=some (.tup (k.map kV))) (hl:kvs.length<sizeLine) (rv:RelV v r)
  (h1:∀ v' w' s',valV kvs k=some v'->Inv X pins σ H s'->RelV v' w'->Q w' s') (h2:valV kvs k=none->∀ s',Inv X pins σ (upd H a (.dT (putK kvs k v))) s'->Q r s') :
  wpAny (model X.prog X.w) A (call (.builtin "dict.setdefault") [.ref a,.ref b,r]) Q E s:=by
 obtain ⟨z,hd,xs,rel,dd⟩:=dt_of I.hok e
 have hz:xs.length<=sizeLine:=by rw [<- Paired.length rel]; exact z
 have hp:(putK kvs k v).length<=sizeLine:=by have:=length_putK kvs k v; lia
 have vl:=rel.val k
 refine call_meetsIn PySem.F.slot_dict_setdefault dd.typeIs PySem.F.entry_dict_setdefault (PySem.F.args_dict_setdefault_3 _ _ _) (wR (tupleKind (mixKind X.prog X.w)) a b hd r) ⟨tupleKind_room_in1 hu,k,xs,key_of I.hok eb,dd,hz,fun p hp'=>?_,fun hn h' dd' hs=>?_⟩
 ·rw [hp'] at vl
  cases ev:valV kvs k with
  | none=>rw [ev] at vl; exact (vl:False).elim
  | some v'=>rw [ev] at vl; exact h1 v' _ _ ev (I.tok _) vl
 ·have ev:valV kvs k=none:=by
   rw [hn] at vl
   cases ev:valV kvs k with
   | none=>rfl
   | some v'=>rw [ev] at vl; exact (vl:False).elim
  refine h2 ev _ ?_
  obtain ⟨q,es,ep,hq,g2,g3,g4,_,g5⟩:=dd'
  refine d_write I (by rw [e]; exact True.intro) hs ⟨q,hq⟩ ⟨hp,hd,_,(rel.put k eb rv).keeps fun c ys ec=>?_,q,es,ep,hq,g2,g3,g4,g5⟩
  rw [upd_ne (ne_of ec e fun z=>nomatch z)]
  exact ec
end
def tSd (td ty tx:TE):TE:=fun σ H Q=>td σ H fun x H1=>∃ a,x=.ref a/\IsD H1 a/\ty σ H1 fun y H2=>tx σ H2 fun z H3=>∃ kvs k b,H3 a=some (.dT kvs)/\y=.ref b/\H3 b=some (.tup (k.map kV))/\kvs.length<sizeLine /\
 (∀ v,valV kvs k=some v->Q v H3)/\(valV kvs k=none->Q z (upd H3 a (.dT (putK kvs k z))))
theorem Dr {X:Cx} {o e f:Expr} {apos cpos:Pos} {td ty tx:TE} (hu:X.A.units+1<cLine) (ho:PE X o td) (he:PE X e ty) (hf:PE X f tx) (m:M2 X o "setdefault" apos e f cpos):PE X (.Call (.Attribute o "setdefault" apos) [e,f] [] cpos) (tSd td ty tx):=by
 intro pins s σ H Q I h
 refine wpAny_Call_method m.base m.few m.line PySem.F.plainAttrs_dict PySem.F.slot_dict_setdefault PySem.F.type_dict_setdefault (thn (ho pins s σ H _ I h) fun u s1 hx9=>?_)
 obtain ⟨x,H1,I1,rx,a,ex,d,q1⟩:=hx9
 subst ex
 cases (show u=Value.ref a from rx)
 have td:=isD_at I1 d
 refine ⟨td.1,td.2.1,?_⟩
 rw [m.trees]
 refine Calls.callWith_builtin rfl (Calls.evalArgs_plain (Calls.spliced_cons (thn (he pins s1 σ H1 _ I1 q1) fun iv s2 hx5=>L2.ex2 hx5 fun y H2 I2 ry q2=>Calls.spliced_cons (thn (hf pins s2 σ H2 _ I2 q2) fun fv s3 ⟨z,H3,I3,rz,kvs,k,b,e1,e2,e3,hl,q3,q4⟩=>Calls.spliced_nil ?_))))
 subst e2
 cases (show iv=Value.ref b from ry)
 exact vD hu I3 e1 e3 hl rz (fun v' w' s' ev I' r'=>⟨v',H3,I',r',q3 v' ev⟩) fun ev s' I'=>⟨z,_,I',rz,q4 ev⟩
end L2
namespace L2.Q
open PySem PySem.Spec PyProof.Rows
section
variable {X:Cx} {K:PySem.W.Frag} {a b c:Expr} {ta tb tc:WE} {pos apos cpos:Pos}
def onD (x:D) (f:List (Key × D)->Prop) (g:List (List Key × D)->Prop):Prop:=match x with
 | .dK kvs=>f kvs
 | .dT kvs=>g kvs
 | _=>False
def tupD (y:D) (k:List D->Prop):Prop:=match y with
 | .tup ys=>k ys
 | _=>False
def gotG (o:Option D) (m n:Md) (z:D) (Q:Md->D->Prop):Prop:=match o with
 | some d=>Q (itm m d) d
 | none=>Q n z
def wGet (ta tb tc:WE):WE:=fun ρ Q=>ta ρ fun m x=>onD x (fun kvs=>tb ρ fun _ y=>tc ρ fun n z=>∃ k,y.key1=some k/\gotG (getG kvs k) m n z Q)
 (fun kvs=>tb ρ fun _ y=>tc ρ fun n z=>tupD y fun ys=>∃ ks,dq ys=some ks/\gotG (getG kvs ks) m n z Q)
theorem wX {σ:St} {H:Hp} {Qv:VK} (hx:tpE K (wGet ta tb tc) σ H Qv):tDGet2 (tpE K ta) (tpE K tb) (tpE K tc) σ H Qv:=ex4 hx fun Hs ρ tot Q sr h fin=>by
 refine ⟨Hs,ρ,tot,_,sr,h,fun v H1 Hs1 m x As g1 r1 f1 q1=>?_⟩
 have got:∀ {o:Option V} {d? : Option D} {H2 H3 Hs2 Hs3:Hp} {w:V} {n:Md} {z:D} {Cs:List Addr},Grow Hs1 H1 Hs2 H2->Grow Hs2 H2 Hs3 H3->RM K Hs3 H3 n z w Cs->cM Hs3 H2 Cs->(match d? with
   | some d=>∃ v,o=some v/\Rep K H3 d v/\(m=.sh->Rep K Hs3 d v)
   | none=>o=none)->gotG d? m n z Q->Qv (o.getD w) H3:=by
  intro o d? H2 H3 Hs2 Hs3 w n z Cs g2 g3 r3 f3 l q
  cases d? with
  | none=>rw [show o=none from l]; exact fin w H3 Hs3 n z Cs ((g1.trans g2).trans g3) r3 (f3.of (g1.trans g2).all) q
  | some d =>
   obtain ⟨v',e,u1,u2⟩:=l
   rw [e]
   exact (Fin.after fin ((g1.trans g2).trans g3)).itm g3.wf u1 u2 q
 have core:∀ G:Hp,Same G H1->(∀ H3 Hs3,Grow Hs1 H1 Hs3 H3->∀ d v,Rep K G d v->Rep K H3 d v/\(m=.sh->Rep K Hs3 d v))->Rep K G x v->∃ a,v=.ref a/\IsD H1 a/\tpE K tb σ H1 fun y H2=>tpE K tc σ H2 fun z H3=>∃ o,DGet H3 a y o/\Qv (o.getD z) H3:=by
  intro G sg up r
  cases r with
  | dK kk s q =>
   refine ⟨_,rfl,.inl ⟨_,Same.rd sg s⟩,Hs1,ρ,tot,_,sr.grow g1,q1,fun u H2 Hs2 n y Bs g2 r2 f2 q2=>⟨Hs2,ρ,tot,_,(sr.grow g1).grow g2,q2,fun w H3 Hs3 n3 z Cs g3 r3 f3 q3=>?_⟩⟩
   have ry:=(r2.grow g3).rep g3.wf
   obtain ⟨k,hk,q4⟩:=q3
   have ev:=ry.key hk
   subst ev
   refine ⟨_,DGet.k' (Same.rd (g2.trans g3).all (Same.rd sg s)),got g2 g3 r3 f3 ?_ q4⟩
   have z:=zip_get (k:=k) q
   split
   ·rename_i d e
    rw [e] at z
    obtain ⟨v',e',r'⟩:=z
    exact ⟨v',e',up _ _ (g2.trans g3) _ _ r'⟩
   ·rename_i e
    rw [e] at z
    exact z
  | dT kk s q =>
   refine ⟨_,rfl,.inr ⟨_,Same.rd sg s⟩,Hs1,ρ,tot,_,sr.grow g1,q1,fun u H2 Hs2 n y Bs g2 r2 f2 q2=>⟨Hs2,ρ,tot,_,(sr.grow g1).grow g2,q2,fun w H3 Hs3 n3 z Cs g3 r3 f3 q3=>?_⟩⟩
   have ry:=(r2.grow g3).rep g3.wf
   cases ry with
   | tup t2 e2 p2 =>
    obtain ⟨k,hk,q4⟩:=q3
    obtain ⟨b',eb,e3⟩:=Rep.keyT (.tup t2 e2 p2) hk
    cases eb
    refine ⟨_,DGet.t' (Same.rd (g2.trans g3).all (Same.rd sg s)) e3,got g2 g3 r3 f3 ?_ q4⟩
    have z:=zip_get (k:=k) q
    split
    ·rename_i d e
     rw [e] at z
     obtain ⟨v',e',r'⟩:=z
     exact ⟨v',e',up _ _ (g2.trans g3) _ _ r'⟩
    ·rename_i e
     rw [e] at z
     exact z
   | _=>exact q3.elim
  | _=>exact q1.elim
 rcases r1.here g1.wf with ⟨hm,r⟩ | ⟨hm,r⟩
 ·exact core Hs1 g1.wf.sub (fun H3 Hs3 g d v q=>⟨q.same (g1.wf.sub.trans g.all),fun _=>q.same g.sh⟩) r
 ·exact core H1 (Same.refl H1) (fun H3 Hs3 g d v q=>⟨q.same g.all,fun z=>absurd z hm⟩) r
theorem Fj (hu:X.A.units+64<cLine) (ha:QE X K a ta) (hb:QE X K b tb) (hc:QE X K c tc) (hm:M2 X a "get" apos b c cpos:=by exact ⟨rfl,rfl,rfl,rfl⟩):QE X K (.Call (.Attribute a "get" apos) [b,c] [] cpos) (wGet ta tb tc) :=
 PE.imp (pe_dget2 (by lia) ha hb hc hm) fun σ H Qv hx=>wX hx
def appD (d x:D):D:=match d with
 | .list xs=>.list (xs++[x])
 | d=>d
def sdG:List (List Key × D)->List Key->D->List (List Key × D)
 | [],k,x=>[(k,.list [x])]
 | p :: r,k,x=>if p.1=k then (p.1,appD p.2 x) :: r else p :: sdG r k x
def sdN (kvs:List (List Key × D)) (k:List Key):List (List Key × D):=match getG kvs k with
 | some _=>kvs
 | none=>kvs++[(k,.list [])]
def xK:Option D->Prop
 | none=>True
 | some (.list xs)=>xs.length<sizeLine
 | _=>False
def owdT (o:Option (Option Sl)) (k:List (List Key × D)->Prop):Prop:=match o with
 | some (some (.ow true (.dT kvs)))=>k kvs
 | _=>False
def wSd (i:Nat) (tk te:WE):WS:=fun E ρ=>owdT ρ[i]? fun kvs=>tk ρ fun _ y=>tupD y fun ys=>∃ ks,dq ys=some ks/\kvs.length<sizeLine/\xK (getG kvs ks) /\
 te (ρ.set i (some (.ow true (.dT (sdN kvs ks))))) fun _ x=>x.flat=true/\E.nx (ρ.set i (some (.ow true (.dT (sdG kvs ks x)))))
theorem bK {κ β:Type} [DecidableEq κ] (p:κ × β) (r:List (κ × β)) (k:κ):getG (p :: r) k=if p.1=k then some p.2 else getG r k:=by
 by_cases h:p.1=k <;> simp [getG,h]
theorem B_ {k:List Key} {d:D}:∀ {kvs:List (List Key × D)},getG kvs k=some d->∃ j,(kvs.map (·.2))[j]? = some d/\(∀ vs:List V,vs.length=kvs.length->valV ((kvs.map (·.1)).zip vs) k=vs[j]?) /\
  ∀ x,(sdG kvs k x).map (·.1)=kvs.map (·.1)/\(sdG kvs k x).map (·.2)=(kvs.map (·.2)).set j (appD d x)
 | [],h=>by simp [getG] at h
 | p :: kvs,h=>by
  rw [bK] at h
  by_cases e:p.1=k
  ·rw [if_pos e] at h
   cases h
   refine ⟨0,rfl,fun vs hl=>?_,fun x=>?_⟩
   ·cases vs with
    | nil=>cases hl
    | cons v vs=>exact valV_pos (p:=(p.1,v)) e
   ·simp [sdG,e]
  ·rw [if_neg e] at h
   obtain ⟨j,h1,h2,h3⟩:=B_ h
   refine ⟨j+1,by simpa using h1,fun vs hl=>?_,fun x=>?_⟩
   ·cases vs with
    | nil=>cases hl
    | cons v vs =>
     show valV ((p.1,v) :: (kvs.map (·.1)).zip vs) k=_
     rw [valV_neg (p:=(p.1,v)) e,h2 vs (by simpa using hl)]
     rfl
   ·simp [sdG,e,h3 x]
theorem oK {k:List Key} {d:D}:∀ {kvs:List (List Key × D)},getG kvs k=none->getG (kvs++[(k,d)]) k=some d
 | [],_=>by simp [getG]
 | p :: kvs,h=>by
  rw [bK] at h
  by_cases e:p.1=k
  ·rw [if_pos e] at h; cases h
  ·rw [if_neg e] at h
   rw [xb4,bK,if_neg e,oK h]
theorem q_ {k:List Key} {x:D}:∀ {kvs:List (List Key × D)},getG kvs k=none->sdG (kvs++[(k,.list [])]) k x=sdG kvs k x
 | [],_=>by simp [sdG,appD]
 | p :: kvs,h=>by
  rw [bK] at h
  by_cases e:p.1=k
  ·rw [if_pos e] at h; cases h
  ·rw [if_neg e] at h
   rw [xb4,sdG,sdG,if_neg e,if_neg e,q_ h]
theorem SRel.place {Hs H:Hp} {ρ:Env} {σ:St} {tot:List Addr} {i:Nat} {fl:Bool} {d:D} (sr:SRel K Hs ρ σ H tot) (e:ρ[i]? = some (some (.ow fl d))):∃ v,σ[i]? = some (some v)/\Place K Hs H σ fl d v fun fl2 d2=>ρ.set i (some (.ow fl2 d2)):=by
 obtain ⟨v,As,t,e2,ne,r,sb,g⟩:=SR.put i sr.sr e sr.nod
 refine ⟨v,e2,As,r,ne,sb.nodup sr.nod,fun a h=>sr.own a (sb.subset h),fun Hs2 H2 fl2 d2 As2 s2 w2 n2 _ r2 ne2 nd2 o2 st=>?_⟩
 obtain ⟨t2,x,y,z⟩:=g Hs2 H2 fl2 d2 As2 s2 r2 ne2 nd2 (fun a ha m=>(o2 a ha).2.elim id fun q=>absurd q (sr.sr.own a m).ne) fun a ha m=>st a (sr.sr.own a ha).ne m
 exact ⟨t2,z,w2,x,fun a h=>(y a h).elim (fun q=>n2 a (sr.own a q) (sr.sr.own a q).ne) fun q=>(o2 a q).1⟩
theorem qz {Hs H:Hp} {ρ:Env} {σ:St} {tot:List Addr} {i:Nat} {kvs:List (List Key × D)} {ks:List Key} {xs:List D} (sr:SRel K Hs ρ σ H tot) (e1:ρ[i]? = some (some (.ow true (.dT kvs)))) (hg:getG kvs ks=some (.list xs)) :
  ∃ a kvv c ws,σ[i]? = some (some (.ref a))/\H a=some (.dT kvv)/\valV kvv ks=some (.ref c)/\H c=some (.lst ws)/\ws.length=xs.length /\
   ∀ x y,x.flat=true->Rep K Hs x y->ws.length<sizeLine->∃ tot2,SRel K Hs (ρ.set i (some (.ow true (.dT (sdG kvs ks x))))) σ (upd H c (.lst (ws++[y]))) tot2:=by
 obtain ⟨v,e2,pl⟩:=sr.place e1
 obtain ⟨As',r,ne,nd,own,k⟩:=pl.ex
 cases r with
 | sh hf _=>exact absurd rfl ne
 | @dT a0 vs _ A kk e rs =>
  obtain ⟨na,nA⟩:=xay.mp nd
  obtain ⟨j,ej,ev,es⟩:=B_ hg
  obtain ⟨w,B,e3,r3,sb,g⟩:=rs.at ej nA
  have hl:vs.length=kvs.length:=by have:=rs.length; rw [xab] at this; exact this.symm
  cases r3 with
  | sh hf _=>exact absurd (hf rfl) (by simp [D.flat])
  | @list c ws _ B' hz ec rs' =>
   have cA:c∈A:=sb.subset xad
   refine ⟨a0,_,c,ws,e2,e,(ev vs hl).trans e3,ec,rs'.length.symm,fun x y hx rx hw=>?_⟩
   have hca:a0≠c:=fun z=>na (z ▸ cA)
   obtain ⟨nc,nB⟩:=xay.mp (sb.nodup nA)
   have r4:RepO K Hs (upd H c (.lst (ws++[y]))) true (.list (xs++[x])) (.ref c) (c :: B'):=by
    have:=(rs'.stay (H':=upd H c (.lst (ws++[y]))) (Same.refl _) fun b hb=>upd_ne fun z=>nc (z ▸ hb)).append (aB.cons (As:=[]) (.sh (fun _=>hx) rx) .nil)
    rw [xaI,xaI] at this
    exact .list (by rw [xaA]; exact hw) upd_same this
   obtain ⟨As2,n2,y2,_,r5⟩:=g Hs (upd H c (.lst (ws++[y]))) true _ _ (Same.refl _) id r4 (sb.nodup nA) (fun _ h _=>h) (fun b _ nb=>upd_ne fun z=>nb (z ▸ xad))
   have in2:∀ b∈As2,b∈A:=fun b hb=>(y2 b hb).elim (fun q=>q.1) fun q=>sb.subset q
   obtain ⟨k1,k2⟩:=es x
   have kl:(sdG kvs ks x).length=kvs.length:=by have:=congrArg List.length k1; simpa using this
   refine k Hs _ true (.dT (sdG kvs ks x)) (a0 :: As2) (Same.refl _) (tL sr.wf (own c (xac _ cA)) fun _ z=>nomatch z) (fun _ h _=>h) id (.dT (vs:=vs) ⟨by rw [kl]; exact kk.1,fun p hp=>?_⟩ (by rw [upd_ne hca,k1]; exact e) (by rw [k2]; exact r5)) (by simp) (xay.mpr ⟨fun z=>na (in2 _ z),n2⟩) (fun b hb=>?_) fun b _ nb=>upd_ne fun z=>nb (z ▸ xac _ cA)
   ·have:p.1∈kvs.map (·.1):=k1 ▸ List.mem_map_of_mem hp
    obtain ⟨p',hp',e'⟩:=xao.mp this
    rw [<- e']; exact kk.2 p' hp'
   ·have hb':b∈a0 :: A:=(xaj.mp hb).elim (fun z=>z ▸ xad) fun z=>xac _ (in2 b z)
    exact ⟨own b hb',.inl hb'⟩
theorem xU {te:WE} {Hs H:Hp} {ρ:Env} {σ:St} {tot:List Addr} {i:Nat} {kvs:List (List Key × D)} {ks:List Key} {xs:List D} {a:Addr} {kvv:List (List Key × V)} {v':V} {R:Env->Prop} {G:Hp->Prop} (sr:SRel K Hs ρ σ H tot) (e1:ρ[i]? = some (some (.ow true (.dT kvs)))) (hg:getG kvs ks=some (.list xs)) (hz:xs.length<sizeLine)
  (eσ:σ[i]? = some (some (.ref a))) (eH:H a=some (.dT kvv)) (ev:valV kvv ks=some v') (q:te ρ fun _ x=>x.flat=true/\R (ρ.set i (some (.ow true (.dT (sdG kvs ks x)))))) (k1:∀ H' Hs' ρ' tot',Same Hs Hs'->SRel K Hs' ρ' σ H' tot'->R ρ'->G H') :
  tyV K "list" v' H/\tCons (tpE K te) tNil σ H fun us H2=>rAppend v' us H2 fun _ H3=>G H3:=by
 obtain ⟨a',kv',c,ws,f1,f2,f3,f4,f5,f6⟩:=qz sr e1 hg
 have ea:a'=a:=by rw [f1] at eσ; cases eσ; rfl
 subst ea
 have ek:kv'=kvv:=by rw [f2] at eH; cases eH; rfl
 subst ek
 have e':v'=.ref c:=by rw [f3] at ev; cases ev; rfl
 subst e'
 refine ⟨.inl ⟨rfl,_,.inl (.inl f4)⟩,Hs,ρ,tot,_,sr,q,fun y H2 Hs2 m x Cs g2 r2 fr2 q2=>?_⟩
 obtain ⟨hx,q2⟩:=q2
 obtain ⟨b',kv2,c2,ws2,h1,h2,h3,h4,h5,h6⟩:=qz (sr.grow g2) e1 hg
 have ea:b'=a':=by rw [f1] at h1; cases h1; rfl
 subst ea
 have ek:kv2=kv':=by rw [g2.all _ _ f2] at h2; cases h2; rfl
 subst ek
 have e':c2=c:=by rw [f3] at h3; cases h3; rfl
 subst e'
 obtain ⟨tot2,sr2⟩:=h6 x y hx (r2.flat g2.wf hx) (by lia)
 exact ⟨c2,ws2,y,rfl,rfl,h4,by lia,k1 _ Hs2 _ tot2 g2.sh sr2 q2⟩
theorem set_own {α:Type} {ρ:List α} {i:Nat} {x:α} (h:ρ[i]? = some x):ρ.set i x=ρ:=by
 apply xbA
 intro j
 rw [xcq]
 split
 ·rename_i e
  subst e
  have:=(xan.mp h).1
  rw [if_pos this,h]
 ·rfl
theorem Ei {L:Str->Hp->Prop} {i:Nat} {p1 p2 p3 p4 p5:Pos} (hu:X.A.units+64<cLine) (he:PE X a (tVar i)) (hb:QE X K b tb) (hc:QE X K c tc) (hK:X.K=K:=by rfl) (hm:M2 X a "setdefault" p1 b (.List [] p2) p3:=by exact ⟨rfl,rfl,rfl,rfl⟩)
  (hs:swapsWith (.Call (.Attribute (.Call (.Attribute a "setdefault" p1) [b,.List [] p2] [] p3) "append" p4) [c] [] p5) none pos.line X.env=pure false:=by rfl)
  (hbase:attributeBase (.Call (.Attribute a "setdefault" p1) [b,.List [] p2] [] p3) "append" X.env (eval (.Call (.Attribute a "setdefault" p1) [b,.List [] p2] [] p3) X.env)=eval (.Call (.Attribute a "setdefault" p1) [b,.List [] p2] [] p3) X.env:=by rfl)
  (hfew:((backTo p5 (starEach [c] X.env)).all (fun x=>!x.1) && (backToKw p5 (keywordEach [] X.env)).all (fun x=>x.1.isSome)
   && decide ([c].length+([]:List Keyword).length+(if ([]:List Keyword).isEmpty then 0 else 1)<30))=true:=by rfl)
  (hline:(p4.endLine == p5.line)=true:=by rfl) (hss:starEach (c :: []) X.env=(false,eval c X.env) :: starEach [] X.env:=by rfl) (hplain:(backTo p5 (starEach [] X.env)).any (·.1)=false:=by rfl) :
  QS X K L (.Expr (.Call (.Attribute (.Call (.Attribute a "setdefault" p1) [b,.List [] p2] [] p3) "append" p4) [c] [] p5) pos) (wSd i tb tc):=by
 subst hK
 refine PS.imp (ps_expr (pe_bm PySem.F.plainAttrs_list PySem.F.slot_list_append PySem.F.type_list_append mt_append (Dr (by lia) he hb (gq (K:=X.K) ao) hm) (pa_cons hc pa_nil hss) hbase hfew hline hss hplain) hs) fun D σ H hx=>gj hx fun Hs ρ tot E sr h k1 k2 k3 k4=>?_
 unfold wSd owdT at h
 split at h
 ·rename_i kvs e1
  obtain ⟨v,e2,pl⟩:=sr.place e1
  obtain ⟨As',r,ne,nd,own,k⟩:=pl.ex
  have lv:∀ x∈As',Hs x=none/\H x≠none:=fun x hx=>⟨own x hx,(r.own x hx).ne⟩
  cases r with
  | sh hf _=>exact absurd rfl ne
  | @dT a0 vs _ A kk e rs =>
   refine ⟨_,e2,a0,rfl,.inr ⟨_,.inl e⟩,Hs,ρ,tot,_,sr,h,fun u H2 Hs2 m y Bs g2 r2 f2 q2=>?_⟩
   refine ⟨Hs2,ρ,tot,fun m d=>m=.ow true/\d=.list [],sr.grow g2,⟨xap _,rfl,rfl⟩,fun w H3 Hs3 n z Cs g3 r3 f3 q3=>?_⟩
   obtain ⟨rfl,rfl⟩:=q3
   have ry:=(r2.grow g3).rep g3.wf
   cases ry with
   | tup t2 ey p2 =>
    obtain ⟨ks,hk,hz,hsh,q⟩:=q2
    obtain ⟨b',eb,e3⟩:=Rep.keyT (.tup t2 ey p2) hk
    cases eb
    have g:=g2.trans g3
    have hl:kvs.length=vs.length:=by have:=rs.length; rwa [xab] at this
    have srg:=sr.grow g
    have zg:=zip_get (k:=ks) (rs.reps (G:=H) sr.wf.sub fun _ _=>rfl)
    refine ⟨_,ks,_,g.all _ _ e,rfl,e3,by rw [xbS,xab,<- hl,xcj]; exact hz,fun v' ev=>?_,fun ev=>?_⟩
    ·cases hg:getG kvs ks with
     | none=>rw [hg] at zg; rw [zg] at ev; cases ev
     | some d =>
      rw [hg] at hsh
      cases d with
      | list xs =>
       rw [show sdN kvs ks=kvs by unfold sdN; rw [hg],set_own e1] at q
       exact xU (G:=fun H'=>D.nx σ H') srg e1 hg hsh e2 (g.all _ _ e) ev q fun H' Hs' ρ' tot' s1 s2 q'=>k1 σ H' Hs' ρ' tot' (g.sh.trans s1) s2 q'
      | _=>exact hsh.elim
    ·have hg:getG kvs ks=none:=by
      cases hg:getG kvs ks with
      | none=>rfl
      | some d=>rw [hg] at zg; obtain ⟨v',z,_⟩:=zg; rw [z] at ev; cases ev
     rw [show sdN kvs ks=kvs++[(ks,.list [])] by unfold sdN; rw [hg]] at q
     obtain ⟨r3,_⟩:=r3
     cases r3 with
     | sh hf _=>exact absurd (hf rfl) (by simp [Q.D.flat])
     | @list c ws _ B' hw ec rs' =>
      cases rs'
      obtain ⟨na,nA⟩:=xay.mp nd
      have fc:=f3.2 c xad
      have hHc:H c=none:=g2.all.free fc.2
      have cA:∀ b∈a0 :: A,b≠c:=fun b hb z=>by
       subst z
       rcases xaj.mp hb with rfl | hb
       ·rw [e] at hHc; cases hHc
       ·exact (rs.own _ hb).ne hHc
      have ek:putK ((kvs.map (·.1)).zip vs) ks (V.ref c)=((kvs++[(ks,Q.D.list [])]).map (·.1)).zip (vs++[V.ref c]):=by
       have:=valV_any ks ((kvs.map (·.1)).zip vs)
       rw [ev] at this
       unfold putK
       rw [this,if_neg (by decide),xaP,List.zip_append (by rw [xab]; exact hl)]
       rfl
      obtain ⟨kl,ko⟩:=qP p2 hk
      have l1:=p2.length
      have rs3:=rs.grow g.sh g.all
      have rs4:aB X.K Hs3 (upd H3 a0 (.dT (((kvs++[(ks,Q.D.list [])]).map (·.1)).zip (vs++[V.ref c])))) true ((kvs++[(ks,Q.D.list [])]).map (·.2)) (vs++[V.ref c]) (A++[c]):=by
       have q1:=rs3.stay (H':=upd H3 a0 (.dT (((kvs++[(ks,Q.D.list [])]).map (·.1)).zip (vs++[V.ref c])))) (Same.refl _) fun b hb=>upd_ne fun z=>na (z ▸ hb)
       have q2:=q1.append (aB.cons (RepO.list (ds:=[]) (As:=[]) hw ((upd_ne fun z=>cA a0 xad z.symm).trans ec) .nil) .nil)
       rw [show (kvs++[(ks,Q.D.list [])]).map (·.2)=kvs.map (·.2)++[Q.D.list []] by simp]
       exact q2
      obtain ⟨tot2,sr2⟩:=k.node (fl2:=true) (d2:=.dT (kvs++[(ks,.list [])])) (C:=A++[c]) g lv (fun _ z=>by cases z) id
       (.dT ⟨by rw [xaA]; exact hz,fun p hp=>(xah.mp hp).elim (kk.2 p) fun z=>by
        obtain rfl:p=(ks,.list []):=by simpa using z
        exact ⟨by show ks.length<=_; lia,ko⟩⟩ upd_same rs4)
       (xam.mpr ⟨nA,by simp,fun x hx y hy z=>cA x (xac _ hx) (by rw [z]; simpa using hy)⟩) (fun z=>(xah.mp z).elim na fun z=>cA a0 xad (by simpa using z))
       (fun x hx=>(xah.mp hx).imp id fun z=>by
        obtain rfl:x=c:=by simpa using z
        exact ⟨fc.1,hHc⟩)
      rw [ek]
      have hi:i<ρ.length:=(xan.mp e1).1
      refine xU (G:=fun H'=>D.nx σ H') (R:=E.nx) (kvs:=kvs++[(ks,.list [])]) (xs:=[]) sr2 (by simp [hi]) (oK hg) (by rw [sizeLine_eq]; decide) e2 upd_same (by rw [<- ek,valV_put,if_pos rfl]) ?_ fun H' Hs' ρ' tot' s1 s2 q'=>k1 σ H' Hs' ρ' tot' (g.sh.trans s1) s2 q'
      simp only [List.set_set,q_ hg]
      exact q
   | _=>exact q2.elim
 ·exact h.elim
end
end L2.Q
namespace L2
open PySem PySem.Spec PyProof.Rows
end L2
namespace L2.Q
open PySem PySem.Spec PyProof.Rows
section
variable {K:PySem.W.Frag} {a b c:Expr}
def owdK (d:D) (k:List (Key × D)->Prop):Prop:=match d with
 | .dK kvs=>k kvs
 | _=>False
theorem SR.take {Hs H:Hp} {ρ:Env} {σ:St} {tot:List Addr} (i:Nat) {fl:Bool} {d:D} (s:SR K Hs H ρ σ tot):ρ[i]? = some (some (.ow fl d))->tot.Nodup ->
  ∃ (v:V) (As tot':List Addr),σ[i]? = some (some v)/\RepO K Hs H fl d v As/\As.Sublist tot/\tot'.Sublist tot/\(∀ a∈As,a∉tot')/\SR K Hs H (ρ.set i none) σ tot':=by
 induction s generalizing i with
 | nil=>intro e; simp at e
 | non q ih =>
  intro e n
  cases i with
  | zero=>simp at e
  | succ i =>
   obtain ⟨v,As,t,o,a,b,c,d,f⟩:=ih i e n
   exact ⟨v,As,t,o,a,b,c,d,.non f⟩
 | sh r q ih =>
  intro e n
  cases i with
  | zero=>simp at e
  | succ i =>
   obtain ⟨v,As,t,o,a,b,c,d,f⟩:=ih i e n
   exact ⟨v,As,t,o,a,b,c,d,.sh r f⟩
 | xc q ih =>
  intro e n
  cases i with
  | zero=>simp at e
  | succ i =>
   obtain ⟨v,As,t,o,a,b,c,d,f⟩:=ih i e n
   exact ⟨v,As,t,o,a,b,c,d,.xc f⟩
 | ow ne r q ih =>
  intro e n
  obtain ⟨n1,n2,n3⟩:=xam.mp n
  cases i with
  | zero =>
   simp at e
   obtain ⟨rfl,rfl⟩:=e
   exact ⟨_,_,_,rfl,r,xa8 _ _,xar _ _,fun a h m=>n3 a h a m rfl,.non q⟩
  | succ i =>
   obtain ⟨v,As,t,o,a,b,c,d,f⟩:=ih i e n2
   exact ⟨v,As,_,o,a,b.trans (xar _ _),c.append_left _,nG n b d,.ow ne r f⟩
 | lk ne r q ih =>
  intro e n
  obtain ⟨n1,n2,n3⟩:=xam.mp n
  cases i with
  | zero=>simp at e
  | succ i =>
   obtain ⟨v,As,t,o,a,b,c,d,f⟩:=ih i e n2
   exact ⟨v,As,_,o,a,b.trans (xar _ _),c.append_left _,nG n b d,.lk ne r f⟩
end
end L2.Q
namespace L2.Q.R
open PySem PySem.Spec PyProof.Rows L2.Q
section
variable {ρ:Env} {E:iD} {te tb tc tk:WE} {m:Md} {x y:L2.Q.D} {ys:List L2.Q.D} {Q:Md->L2.Q.D->Prop} {i k:Nat}
theorem Jv {kvs:List (Key × L2.Q.D)} {k:List (Key × L2.Q.D)->Prop}:owdK (.dK kvs) k=k kvs:=rfl
theorem HX:wGet te tb tc ρ Q=te ρ fun m x=>onK x (f:=fun x=>onD x (fun kvs=>tb ρ fun _ y=>tc ρ fun n z=>∃ k,y.key1=some k/\gotG (getG kvs k) m n z Q)
 (fun kvs=>tb ρ fun _ y=>tc ρ fun n z=>onK y (f:=fun y=>tupD y fun ys=>∃ ks,dq ys=some ks/\gotG (getG kvs ks) m n z Q) ⟨⟩)) ⟨⟩:=rfl
theorem Jz {kvs:List (Key × L2.Q.D)} {f:List (Key × L2.Q.D)->Prop} {g:List (List Key × L2.Q.D)->Prop}:onD (.dK kvs) f g=f kvs:=rfl
theorem Jh {kvs:List (List Key × L2.Q.D)} {f:List (Key × L2.Q.D)->Prop} {g:List (List Key × L2.Q.D)->Prop}:onD (.dT kvs) f g=g kvs:=rfl
theorem Ja {k:List L2.Q.D->Prop}:tupD (.tup ys) k=k ys:=rfl
theorem wSd_:wSd i tk te E ρ=onK ρ[i]? (f:=fun o=>owdT o fun kvs=>tk ρ fun _ y=>onK y (f:=fun y=>tupD y fun ys=>∃ ks,dq ys=some ks/\kvs.length<sizeLine/\xK (getG kvs ks) /\
 te (ρ.set i (some (.ow true (.dT (sdN kvs ks))))) fun _ x=>x.flat=true/\E.nx (ρ.set i (some (.ow true (.dT (sdG kvs ks x)))))) ⟨⟩) ⟨⟩:=rfl
theorem Im {kvs:List (List Key × L2.Q.D)} {k:List (List Key × L2.Q.D)->Prop}:owdT (some (some (.ow true (.dT kvs)))) k=k kvs:=rfl
end
end L2.Q.R
namespace L2
open PySem PySem.Spec PyProof.Rows
section
variable {X:Cx}
def rAny (K:PySem.W.Frag):List V->Hp->VK->Prop:=fun xs H Q=>match xs with
 | [.ref a]=>∃ bs:List Bool,SqL K H a (bs.map V.bl)/\Q (.bl (bs.any id)) H
 | _=>False
theorem uZ (hc:X.calm=true):CallR X (.builtin "any") (rAny X.K):=by
 intro pins s σ H xs us Q I r h
 unfold rAny at h
 split at h
 ·rename_i a
  obtain ⟨bs,e,q⟩:=h
  obtain ⟨u,rfl,ru⟩:=Vals.one r
  cases ru
  obtain ⟨its,rv,pl,hz⟩:=I.list e
  have hl:s.heap.IsList a its.toArray:=pl.isList
  obtain ⟨o,ho,hoc,n,hod⟩:=id hl
  have hlen:=rv.length
  rw [xab] at hlen
  refine call_any_walk (wpAny_pyIter_list hl ?_)
  have hne:a≠s.heap.objs.size:=xaw (xak ho)
  have hhd:X.A.in1.handled=none:=I.ok.hd hc
  refine ⟨s.heap.objs.size,_,_,_,_,_,fun i=>bs.getD i false,rfl,Walks.list hhd s.heap.objs.size a hne its.toArray,⟨⟨_,xaC _ rfl,rfl,rfl⟩,⟨_,xal _ ho,hoc,n,hod⟩⟩,?_,fun h' tk hk=>?_⟩
  ·intro i v s' Q' E' hv hq
   have hv':its[i]? = some v:=by simpa using (show its.toArray[i]? = some v from hv)
   have hi:i<bs.length:=by
    have:=(xan.mp hv').1
    lia
   obtain ⟨w',e1,r1⟩:=rv.get (i:=i) (x:=V.bl bs[i]) (by simp [hi])
   rw [hv'] at e1
   cases e1
   cases (show v=Value.bool bs[i] from r1)
   have hq:Q' (bs.getD i false) s':=hq
   rw [show bs.getD i false=bs[i] by simp [List.getD,hi]] at hq
   exact wpAny_truthy_bool hq
  ·have e3:((List.range its.toArray.size).any fun i=>bs.getD i false)=bs.any id:=by
    rw [xau,<- hlen]
    apply xa7.mpr
    simp only [xa1,xa6,id]
    constructor
    ·rintro ⟨i,hi,h⟩
     exact ⟨bs[i],xcd hi,by simpa [List.getD,hi] using h⟩
    ·rintro ⟨b,hb,h⟩
     obtain ⟨i,hi,rfl⟩:=List.mem_iff_getElem.mp hb
     exact ⟨i,hi,by simpa [List.getD,hi] using h⟩
   rw [e3]
   refine ⟨.bl (bs.any id),H,?_,rfl,q⟩
   exact I.kept (t':=tk) fun b o e=>hk b o (by simp; exact xaw (xak e)) (xal _ e)
 ·exact h.elim
def insL {α:Type} (xs:List α) (k:Nat) (y:α):List α:=xs.take k++y :: xs.drop k
end
end L2
namespace L2.Q
open PySem PySem.Spec PyProof.Rows
section
variable {X:Cx} {K:PySem.W.Frag} {e:Expr}
theorem kAny (hc:X.calm=true:=by rfl) (hK:X.K=K:=by rfl):CallR X (.builtin "any") (rAny K):=by subst hK; exact uZ hc
theorem vf:bootBuiltins "any" = some (.builtin "any"):=by decide +kernel
def fAny:W1:=fun _ x Q=>match x with
 | .list xs=>∃ bs:List Bool,xs=bs.map D.bl/\Q .sh (.bl (bs.any (fun b=>b)))
 | _=>False
theorem uO:BrC K (rAny K) fAny:=by
 intro Hs H m x v As Qd Qv w rx h f
 have r1:=rx.rep w
 cases r1 with
 | list z s q =>
  obtain ⟨bs,rfl,h⟩:=h
  cases Am q
  exact ⟨bs,s,f.sh w (.bl _) h⟩
 | _=>exact h.elim
theorem xV:bootBuiltins "int" = some (.type "int"):=by decide +kernel
def fInt:W1:=fun _ x Q=>match x with
 | .int i=>Q .sh (.int i)
 | .bl b=>Q .sh (.int (if b then 1 else 0))
 | _=>False
theorem BZ:BrC K (fun xs H Q=>(∃ i,xs=[.int i]/\Q (.int i) H)\/∃ k,xs=[.bl k]/\Q (.int (if k then 1 else 0)) H) fInt:=by
 intro Hs H m x v As Qd Qv w rx h f
 have r1:=rx.rep w
 cases r1 with
 | int i=>exact .inl ⟨i,rfl,f.sh w (.int _) h⟩
 | bl b=>exact .inr ⟨b,rfl,f.sh w (.int _) h⟩
 | _=>exact h.elim
theorem aB.ins {Hs H:Hp} {fl:Bool} {d:D} {v:V} (r:RepO K Hs H fl d v []) {ds:List D} {vs:List V} {As:List Addr} (k:Nat) (q:aB K Hs H fl ds vs As):aB K Hs H fl (insL ds k d) (insL vs k v) As:=by
 induction k generalizing ds vs As with
 | zero=>exact aB.cons r q
 | succ k ih =>
  cases ds with
  | nil =>
   obtain ⟨rfl,rfl⟩:=q.n0
   exact aB.cons r .nil
  | cons e ds =>
   obtain ⟨u,us,A,B,rfl,rfl,q,qs⟩:=q.c
   exact aB.cons q (ih qs)
end
end L2.Q
namespace L2.Q.R
open PySem PySem.Spec PyProof.Rows L2.Q
section
variable {m:Md} {Q:Md->L2.Q.D->Prop} {xs:List L2.Q.D} {k:List L2.Q.D->Prop}
def lstD (d:L2.Q.D) (k:List L2.Q.D->Prop):Prop:=match d with
 | .list xs=>k xs
 | _=>False
theorem HH:lstD (.list xs) k=k xs:=rfl
theorem Gb {d z:L2.Q.D} {n:Md}:gotG (some d) m n z Q=Q (itm m d) d:=rfl
theorem Hw {z:L2.Q.D} {n:Md}:gotG none m n z Q=Q n z:=rfl
theorem Ht {i:Int}:fInt m (.int i) Q=Q .sh (.int i):=rfl
theorem Gn {b:Bool}:fInt m (.bl b) Q=Q .sh (.int (if b then 1 else 0)):=rfl
theorem Jb:fAny m (.list xs) Q = ∃ bs:List Bool,xs=bs.map L2.Q.D.bl/\Q .sh (.bl (bs.any (fun b=>b))):=rfl
end
end L2.Q.R
namespace L2
open PySem PySem.Spec PyProof.Rows PySem.SeqAt
section
variable {X:Cx}
def lV:List V->Hp->VK->Prop:=fun xs H Q=>match xs with
 | [.ref p]=>∃ kvs b0 sh,Rd H p (.dT kvs)/\(∀ k∈kvs.map (·.1),shOf k=b0 :: sh) /\
   ∀ zs ms l,cT H zs ms->ms.Perm (kvs.map (·.1))->(ms.Pairwise fun a b=>ltK b a=false)->H l=none->Q (.ref l) (upd H l (.lst zs))
 | _=>False
theorem pR (hc:X.calm=true):CallR X (.builtin "sorted") lV:=by
 intro pins s σ H xs us Q I r h
 unfold lV at h
 split at h
 ·rename_i p
  obtain ⟨kvs,b0,sh,e,hs,q⟩:=h
  obtain ⟨u,rfl,ru⟩:=Vals.one r
  cases ru
  obtain ⟨z,y,ps,rel,o,es,ep,h1,h2,h3,h4,h5⟩:=(show ObjOk X.prog X.w H s.heap p (.dT kvs) from I.rd e)
  obtain ⟨ta,va⟩:=pL (prog:=X.prog) (w:=X.w) rel
  have hlen:es.size=kvs.length:=by
   have:=congrArg List.length h4
   rw [xaW,xab] at this
   rw [this]; exact rel.length.symm
  have hpl:ps.length=kvs.length:=rel.length.symm
  refine Tim.rW (κ:=tuples' true) (R:=fun vs=>Vals (ps.map fun q=>V.ref q.2.1) vs) (r:=fun v=>rkK (kvs.map (·.1)) (qm H v)) (P:=fun v=>∃ b k,v=.ref b/\H b=some (.tup (k.map kV))/\shOf k=b0 :: sh/\k∈kvs.map (·.1)) (fun A' E' Q' hA hQ=>?_) (fun vs rv=>?_) (fun vs rv v hv=>?_)
   (fun vs rv h2 A' E' s' kp Q' q'=>?_) (fun s' kp=>vK I kp) fun vs h' a out n tk rv pm pw kp ha eo=>?_
  ·refine Tim.ql (tM (es:=es) (ep:=ep) y) (hA.trans (I.ok.hd hc)) ⟨o,h1,h2,h3⟩ (by lia) fun h' tk acc kp hz hacc=>hQ _ h' tk ?_ kp hz
   have hv:acc.toList=(ps.map (entryOfKey (tupleKind (mixKind X.prog X.w)))).map (·.key):=by
    apply xbA
    intro i
    by_cases hi:i<es.size
    ·have hi2:i<acc.size:=by rw [hacc.1]; exact hi
     obtain ⟨en,e1,e2⟩:=hacc.2 i acc[i] (by simp [hi2])
     rw [<- h4,xaE,xaD,xaD,e1]
     simp [hi2,e2]
    ·rw [<- h4,xaE,xaD,xaD,xaS (by rw [hacc.1]; lia),xaS (by lia)]
     rfl
   rw [hv]; exact va
  ·have:=rv.length
   rw [xab] at this
   lia
  ·obtain ⟨_,mem⟩:=ta.keys rv
   obtain ⟨b,k,e1,e2,e3⟩:=mem v hv
   exact ⟨b,k,e1,e2,hs k e3,e3⟩
  ·obtain ⟨fs,f1,f2,f3⟩:=kat_tups I kp ta rv hs
   cases b0 with
   | true =>
    refine PySem.W.kat_kind (T:=.type "int") f1 (by lia) (fun f hf=>?_) (by decide) q'
    obtain ⟨i,t,rfl⟩:=(f3 f hf).1 rfl
    exact .now
   | false =>
    refine PySem.W.kat_kind (T:=.type "str") f1 (by lia) (fun f hf=>?_) (by decide) q'
    obtain ⟨i,t,rfl⟩:=(f3 f hf).2 rfl
    exact .now
  ·obtain ⟨ek,mem⟩:=ta.keys rv
   obtain ⟨zs,z1,z2⟩:=cT.of (H:=H) (ks:=kvs.map (·.1)) out fun v hv=>mem v (pm.mem_iff.mp hv)
   have zl:=z2.length
   have ol:=pm.length_eq
   have vl:=rv.length
   rw [xab] at vl
   have pms:(out.map (qm H)).Perm (kvs.map (·.1)):=by rw [<- ek]; exact pm.map _
   refine ⟨.ref a,_,I.laid (a:=a) (t':=tk) kp ha (show ObjOk X.prog X.w _ h' _ (.lst zs) from ⟨by lia,out,n,z2,eo⟩),rfl,q zs _ _ z1 pms ?_ (I.hok.fresh ha)⟩
   rw [xa3]
   refine pw.imp_of_mem fun {x y} mx my hle=>?_
   obtain ⟨b,k,rfl,hb,kk⟩:=mem x (pm.mem_iff.mp mx)
   obtain ⟨c,m,rfl,hc,km⟩:=mem y (pm.mem_iff.mp my)
   rw [fQ hb,fQ hc] at *
   have:=xX (L:=kvs.map (·.1)) ((hs m km).trans (hs k kk).symm) km
   rw [<- this]
   exact decide_eq_false (by lia)
 ·exact h.elim
end
end L2
namespace L2.Q
open PySem PySem.Spec PyProof.Rows PySem.SeqAt
section
variable {X:Cx} {K:PySem.W.Frag}
def lW:W1:=fun _ x Q=>match x with
 | .dT kvs=>∃ b0 sh,(∀ p∈kvs,shOf p.1=b0 :: sh)/\∀ ms:List (List Key),ms.Perm (kvs.map (·.1))->(ms.Pairwise fun a b=>ltK b a=false)->Q (.ow true) (.list (ms.map keyT))
 | _=>False
theorem oY:BrC K lV lW:=by
 intro Hs H m x v As Qd Qv w rx h f
 have r1:=rx.rep w
 cases r1 with
 | @dT a vs kvs kk e q =>
  obtain ⟨b0,sh,hs,h⟩:=h
  have hlen:=q.length
  rw [xab] at hlen
  have ez:((kvs.map (·.1)).zip vs).map (·.1)=kvs.map (·.1):=xbG (by rw [xab]; exact xbK hlen)
  refine ⟨_,b0,sh,e,fun k hk=>?_,fun zs ms l tz pm pw hl=>?_⟩
  ·rw [ez] at hk
   obtain ⟨p,hp,rfl⟩:=xao.mp hk
   exact hs p hp
  ·rw [ez] at pm
   refine f.lst w (by rw [xab,pm.length_eq,xab]; exact kk.1) (mq (K:=K) tz fun k hk=>?_) (gO ms) (h ms pm pw) l hl
   obtain ⟨p,hp,rfl⟩:=xao.mp (pm.mem_iff.mp hk)
   exact kk.2 p hp
 | _=>exact h.elim
theorem uL (hc:X.calm=true:=by rfl):CallR X (.builtin "sorted") lV:=pR hc
end
end L2.Q
namespace L2.Q.R
open PySem PySem.Spec PyProof.Rows L2.Q PySem.SeqAt
section
variable {Q:Md->L2.Q.D->Prop} {m:Md}
theorem CV {kvs:List (List Key × L2.Q.D)}:lW m (.dT kvs) Q = ∃ b0 sh,(∀ p∈kvs,shOf p.1=b0 :: sh)/\∀ ms:List (List Key),ms.Perm (kvs.map (·.1))->(ms.Pairwise fun a b=>ltK b a=false)->Q (.ow true) (.list (ms.map keyT)):=rfl
end
end L2.Q.R
namespace L2.Q
open PySem PySem.Spec PyProof.Rows
structure Sim (H G:Hp):Prop where
 tup:∀ a vs,H a=some (.tup vs)->G a=some (.tup vs)
 lst:∀ a vs,Rd H a (.lst vs)->Rd G a (.lst vs)
 dct:∀ a u,jf u->Rd H a u->Rd G a u
section
variable {K:PySem.W.Frag} {H G Hs Gs:Hp} {p:Addr} {u:HO} {o:Obj}
theorem Sim.rep2 (s:Sim H G):(∀ {d:D} {v:V},Rep K H d v->Rep K G d v)/\∀ {ds:List D} {vs:List V},Reps K H ds vs->Reps K G ds vs :=
 Rep.ind .non .bl .int (fun _ h=>.str h) (fun _ _ _ z h _ ih=>.list z (h.imp (s.lst _ _) id) ih) (fun _ _ _ z h _ ih=>.tup z (s.tup _ _ h) ih) (fun _ _ _ kk h _ ih=>.dK kk (s.dct _ _ trivial h) ih) (fun _ _ _ kk h _ ih=>.dT kk (s.dct _ _ trivial h) ih) .nil fun _ _ _ _ _ _ a b=>.cons a b
theorem Sim.rep (s:Sim H G) {d:D} {v:V} (r:Rep K H d v):Rep K G d v:=s.rep2.1 r
theorem Sim.zq {fl:Bool} (s:Sim Hs Gs):(∀ {d:D} {v:V} {As:List Addr},RepO K Hs H fl d v As->(∀ a∈As,G a=H a)->RepO K Gs G fl d v As)/\∀ {ds:List D} {vs:List V} {As:List Addr},aB K Hs H fl ds vs As->(∀ a∈As,G a=H a)->aB K Gs G fl ds vs As :=
 RepO.ind (m1:=fun d v As=>(∀ a∈As,G a=H a)->RepO K Gs G fl d v As) (m2:=fun ds vs As=>(∀ a∈As,G a=H a)->aB K Gs G fl ds vs As) (fun _ _ f r _=>.sh f (s.rep r))
  (fun _ _ _ _ z e _ ih k=>.list z ((k _ xad).trans e) (ih fun a h=>k a (xac _ h))) (fun _ _ _ _ z e n _ ih k=>.tup z (s.tup _ _ e) n (ih k)) (fun _ _ _ _ z e _ ih k=>.dK z ((k _ xad).trans e) (ih fun a h=>k a (xac _ h)))
  (fun _ _ _ _ z e _ ih k=>.dT z ((k _ xad).trans e) (ih fun a h=>k a (xac _ h))) (fun _=>.nil) fun _ _ _ _ _ _ _ _ i1 i2 k=>.cons (i1 fun a h=>k a (xai _ h)) (i2 fun a h=>k a (xae _ h))
theorem Sim.sr (s:Sim Hs Gs) {ρ:Env} {σ:St} {tot:List Addr} (r:SR K Hs H ρ σ tot):(∀ a∈tot,G a=H a)->SR K Gs G ρ σ tot:=by
 induction r with
 | nil=>exact fun _=>.nil
 | non _ ih=>exact fun k=>.non (ih k)
 | sh h _ ih=>exact fun k=>.sh (s.rep h) (ih k)
 | xc _ ih=>exact fun k=>.xc (ih k)
 | ow ne h _ ih=>exact fun k=>.ow ne (s.zq.1 h fun a m=>k a (xai _ m)) (ih fun a m=>k a (xae _ m))
 | lk ne h _ ih=>exact fun k=>.lk ne (s.zq.1 h fun a m=>k a (xai _ m)) (ih fun a m=>k a (xae _ m))
theorem vo (hu:jf u) (e:H p=some u):Sim H (upd H p (.frz o u)):=by
 have ne:∀ {a:Addr} {w:HO},(w≠u)->Rd H a w->a≠p:=fun hw h z=>by
  subst z
  rcases h with h | ⟨ob,h⟩
  ·rw [e] at h; cases h; exact hw rfl
  ·rw [e] at h; cases h; exact hu
 have mv:∀ {a:Addr} {w:HO},a≠p->Rd H a w->Rd (upd H p (.frz o u)) a w:=fun n h=>h.imp (fun h=>by rw [upd_ne n]; exact h) fun ⟨ob,h⟩=>⟨ob,by rw [upd_ne n]; exact h⟩
 refine ⟨fun a vs h=>?_,fun a vs h=>mv (ne (fun z=>by subst z; exact hu) h) h,fun a w hw h=>?_⟩
 ·rw [upd_ne (ne (w:=.tup vs) (fun z=>by subst z; exact hu) (.inl h))]; exact h
 ·by_cases z:a=p
  ·subst z
   rcases h with h | ⟨ob,h⟩
   ·rw [e] at h; cases h; exact .inr ⟨o,upd_same⟩
   ·rw [e] at h; cases h; exact hu.elim
  ·exact mv z h
theorem m5 (hu:jf u) (e:H p=some (.frz o u)):Sim H (upd H p u):=by
 have ne:∀ {a:Addr} {w:HO},(w≠u)->(∀ ob x,w≠.frz ob x)->Rd H a w->a≠p:=fun hw hf h z=>by
  subst z
  rcases h with h | ⟨ob,h⟩
  ·rw [e] at h; cases h; exact hf _ _ rfl
  ·rw [e] at h; cases h; exact hw rfl
 have mv:∀ {a:Addr} {w:HO},a≠p->Rd H a w->Rd (upd H p u) a w:=fun n h=>h.imp (fun h=>by rw [upd_ne n]; exact h) fun ⟨ob,h⟩=>⟨ob,by rw [upd_ne n]; exact h⟩
 refine ⟨fun a vs h=>?_,fun a vs h=>mv (ne (w:=.lst vs) (fun z=>by subst z; exact hu) (fun _ _ z=>nomatch z) h) h,fun a w hw h=>?_⟩
 ·rw [upd_ne (ne (w:=.tup vs) (fun z=>by subst z; exact hu) (fun _ _ z=>nomatch z) (.inl h))]; exact h
 ·by_cases z:a=p
  ·subst z
   rcases h with h | ⟨ob,h⟩
   ·rw [e] at h; cases h; exact hw.elim
   ·rw [e] at h; cases h; exact .inl upd_same
  ·exact mv z h
theorem SRel.nU {ρ:Env} {σ:St} {tot:List Addr} {w x:HO} (s:SRel K Hs ρ σ H tot) (e:Hs p=some w) (hw:∀ vs,w≠.tup vs) (hx:∀ vs,x≠.tup vs) (m:Sim Hs (upd Hs p x)):SRel K (upd Hs p x) ρ σ (upd H p x) tot:=by
 have np:∀ a∈tot,a≠p:=fun a h z=>by subst z; rw [s.own a h] at e; cases e
 refine ⟨m.sr s.sr fun a h=>upd_ne (np a h),⟨fun a o h=>?_,fun a vs h=>?_⟩,s.nod,fun a h=>by rw [upd_ne (np a h)]; exact s.own a h⟩
 ·by_cases z:a=p
  ·subst z; rw [upd_same] at h ⊢; exact h
  ·rw [upd_ne z] at h ⊢; exact s.wf.sub a o h
 ·by_cases z:a=p
  ·subst z; rw [upd_same] at h; cases h; exact absurd rfl (hx _)
  ·rw [upd_ne z] at h ⊢; exact s.wf.tups a vs h
theorem RM.thw {m:Md} {d:D} {v:V} {As:List Addr} (hu:jf u) (e:Hs p=some (.frz o u)) (w:Wf Hs H) (hn:∀ a∈As,Hs a=none) (r:RM K Hs H m d v As):RM K (upd Hs p u) (upd H p u) m d v As:=by
 cases m with
 | sh=>exact ⟨r.1,(m5 hu e).rep r.2⟩
 | bo=>exact ⟨r.1,(m5 hu (w.sub _ _ e)).rep r.2⟩
 | ow fl=>exact ⟨(m5 hu e).zq.1 r.1 (fun a h=>upd_ne fun z=>by subst z; rw [hn a h] at e; cases e),r.2⟩
theorem qM {Hs2:Hp} (e:Hs p=some u) (s:Same (upd Hs p (.frz o u)) Hs2):Same Hs (upd Hs2 p u):=fun a w h=>by
 by_cases z:a=p
 ·subst z; rw [e] at h; cases h; exact upd_same
 ·rw [upd_ne z]; exact s a w (by rw [upd_ne z]; exact h)
theorem jh.dct {ks:List V} {ds:List D} (e:Hs p=some (.frz o u)) (rs:Reps K Hs ds ks):jh K (Itd p o ks) ds fun G _=>Same Hs G where
 go:=fun i G H s w h=>⟨by rw [<- rs.length]; exact h,u,w.sub _ _ (s _ _ e)⟩
 yld:=fun i G H x H' d s w h y=>by
  obtain ⟨y1,y2⟩:=y
  subst y1
  obtain ⟨v,ev,r⟩:=rs.get h
  rw [y2] at ev
  cases ev
  exact ⟨G,Grow.refl w,r.same s⟩
 stop:=fun G H s w=>⟨rs.length,u,w.sub _ _ (s _ _ e)⟩
end
def zz:D->Option (List D)
 | .dK kvs=>some (kvs.map fun kv=>keyD kv.1)
 | .dT kvs=>some (kvs.map fun kv=>keyT kv.1)
 | _=>none
def yN (te:WE) (g:WG) (b:WS):WS:=fun E ρ=>te ρ fun m x=>m=.sh/\∃ ds,zz x=some ds/\iC g b E ds ρ
section
variable {X:Cx} {K:PySem.W.Frag} {L:Str->Hp->Prop} {e tg:Expr} {pos:Pos} {te:WE} {g:WG} {b:WS} {body:List Stmt}
theorem n6 {J:It} {Hs1 H1:Hp} {ρ:Env} {σ:St} {tot:List Addr} {ds:List D} {D':Ends} {E:iD} (S:jh K J ds fun G _=>Same Hs1 G) (sr:SRel K Hs1 ρ σ H1 tot) (q1:iC g b E ds ρ) (hL:∀ n H,L n H)
  (k1:∀ σ' H' Hs' ρ' tot',Same Hs1 Hs'->SRel K Hs' ρ' σ' H' tot'->E.nx ρ'->D'.nx σ' H')
  (k4:∀ v H' Hs' m d As,Same Hs1 Hs'->Wf Hs' H'->RM K Hs' H' m d v As->As.Nodup->(∀ a∈As,Hs' a=none)->E.rt m d->D'.rt v H'):ForW J (tpG K g) (tpS K L b) D' σ H1:=by
 refine ⟨fun i m σ H=>m=ds.length - i/\i<=ds.length/\∃ Hs' ρ' tot',Same Hs1 Hs'/\SRel K Hs' ρ' σ H tot'/\iC g b E (ds.drop i) ρ',⟨ds.length,by simp,xap _,Hs1,ρ,tot,Same.refl _,sr,by simpa using q1⟩,?_⟩
 rintro i m σ2 H2 ⟨rfl,hi,Hs2,ρ2,tot2,s2,sr2,q2⟩
 by_cases hlt:i<ds.length
 ·refine .inr ⟨S.go i Hs2 H2 s2 sr2.wf hlt,fun σ3 H3=>∃ Hs' ρ' tot',Same Hs1 Hs'/\SRel K Hs' ρ' σ3 H3 tot'/\iC g b E (ds.drop (i+1)) ρ',fun σ3 H3 h3=>⟨ds.length - (i+1),by lia,rfl,hlt,h3⟩,fun x H3 y=>?_⟩
  obtain ⟨Hs3,g3,rd⟩:=S.yld i Hs2 H2 x H3 ds[i] s2 sr2.wf (by simp [hlt]) y
  rw [xaT hlt] at q2
  have s3:=s2.trans g3.sh
  refine ⟨Hs3,ρ2,tot2,ds[i],_,sr2.grow g3,rd,q2,fun σ4 ρ4 tot4 sr4 _ q4=>?_⟩
  refine ⟨Hs3,ρ4,tot4,_,sr4,q4,?_,?_,?_,?_,fun n H5 _ _=>hL n H5⟩
  ·exact fun σ5 H5 Hs5 ρ5 tot5 s5 sr5 q5=>⟨Hs5,ρ5,tot5,s3.trans s5,sr5,q5⟩
  ·exact fun σ5 H5 Hs5 ρ5 tot5 s5 sr5 q5=>k1 σ5 H5 Hs5 ρ5 tot5 (s3.trans s5) sr5 q5
  ·exact fun σ5 H5 Hs5 ρ5 tot5 s5 sr5 q5=>⟨Hs5,ρ5,tot5,s3.trans s5,sr5,q5⟩
  ·exact fun v H5 Hs5 m d As s5=>k4 v H5 Hs5 m d As (s3.trans s5)
 ·have e:i=ds.length:=by lia
  subst e
  refine .inl ⟨S.stop Hs2 H2 s2 sr2.wf,?_⟩
  rw [xcb] at q2
  exact k1 σ2 H2 Hs2 ρ2 tot2 s2 sr2 q2
theorem u_ {Hs H:Hp} {u:HO} {ks:List V} {x:D} {a:Addr} {ds:List D} (r:Rep K Hs x (.ref a)) (w:Wf Hs H) (hds:zz x=some ds) (hu:jf u) (e:Rd Hs a u) (h:lM H u ks):Reps K Hs ds ks:=by
 have one:∀ {w:HO},jf w->Rd Hs a w->w=u:=fun {w} hw r2=>by
  rcases e with e | ⟨o,e⟩ <;> rcases r2 with z | ⟨o2,z⟩ <;> rw [e] at z <;> cases z
  ·rfl
  ·exact hu.elim
  ·exact hw.elim
  ·rfl
 cases r with
 | @dK _ vs kvs kk rd q =>
  cases hds
  have:=one (w:=.dK _) trivial rd
  subst this
  have h:ks=_:=h
  have hl:=q.length
  rw [xab] at hl
  have e1:((kvs.map (·.1)).zip vs).map (·.1)=kvs.map (·.1):=xbG (by rw [xab]; exact xbK hl)
  have e2:=congrArg (List.map kV) e1
  rw [xaz] at e2
  rw [h,show (kvs.map fun kv=>keyD kv.1)=(kvs.map (·.1)).map keyD by rw [xaz]; rfl]
  refine (show Reps K Hs _ (((kvs.map (·.1)).zip vs).map (kV ∘ fun x=>x.1)) from ?_)
  rw [e2]
  exact m9 fun k hk=>by obtain ⟨p,hp,rfl⟩:=xao.mp hk; exact kk.2 p hp
 | @dT _ vs kvs kk rd q =>
  cases hds
  have:=one (w:=.dT _) trivial rd
  subst this
  have h:cT H ks _:=h
  have hl:=q.length
  rw [xab] at hl
  rw [xbG (by rw [xab]; exact xbK hl)] at h
  rw [show (kvs.map fun kv=>keyT kv.1)=(kvs.map (·.1)).map keyT by rw [xaz]; rfl]
  exact (mq (K:=K) h fun k hk=>by obtain ⟨p,hp,rfl⟩:=xao.mp hk; exact kk.2 p hp).iU w.tups (gO _)
 | _=>cases hds
theorem Ad (hp:PassesOwn (model X.prog X.w) X.A X.env X.xe) (hc:X.calm=true) (he:QE X K e te) (hg:QG X K tg g) (hb:QSs X K L body b) (hL:∀ n H,L n H) (hs:∀ x,foldedSetIterable e X.env x=pure x:=by intro _; rfl) :
  QS X K L (.For tg e body [] pos) (yN te g b):=by
 refine PS.imp (yz (ps_for hp hc (yu he) hg hb hs)) fun D σ H hx=>gB hx fun Hs ρ tot E sr h k1 k2 k3 k4 kx=>?_
 rw [uo]
 refine ⟨Hs,ρ,tot,_,sr,h,fun v H1 Hs1 m x As g1 r1 f1 q1=>?_⟩
 obtain ⟨rfl,ds,hds,q1⟩:=q1
 obtain ⟨rfl,r1⟩:=r1
 have sr1:=sr.grow g1
 have go:∀ {a:Addr} {u:HO},v=.ref a->jf u->Rd Hs1 a u->∃ p u,v=.ref p/\jf u/\((H1 p=some u/\∀ o ks,(∀ o' w,X.H₀ p≠some (.frz o' w))->(∀ ps,X.H₀ p≠some (.tbl ps))->lM H1 u ks->ForW (Itd p o ks) (tpG K g) (tpS K L b) { D with nx:=thwN X D.nx,bk:=thwN X D.bk,ct:=thwN X D.ct,rt:=thwR X D.rt } σ (upd H1 p (.frz o u))) \/
   ∃ o,H1 p=some (.frz o u)/\∀ ks,lM H1 u ks->ForW (Itd p o ks) (tpG K g) (tpS K L b) { D with nx:=thwN X D.nx,bk:=thwN X D.bk,ct:=thwN X D.ct,rt:=thwR X D.rt } σ H1):=by
  intro a u ev hu rd
  subst ev
  refine ⟨a,u,rfl,hu,?_⟩
  rcases rd with rd | ⟨o,rd⟩
  ·refine .inl ⟨g1.wf.sub _ _ rd,fun o ks nf nb hk=>?_⟩
   have rs:=(vo (o:=o) hu rd).rep2.2 (u_ r1 g1.wf hds hu (.inl rd) hk)
   have sf:=sr1.nU (x:=.frz o u) rd (fun vs z=>by subst z; exact hu) (fun vs z=>nomatch z) (vo hu rd)
   refine n6 (.dct upd_same rs) sf q1 hL (fun σ' H' Hs' ρ' tot' s' sr' n=>.inr ⟨a,u,o,?_,nf,nb,?_⟩) fun v H' Hs' m d As s' w' r' nd' hn' n=>.inr ⟨a,u,o,?_,nf,nb,?_⟩
   ·exact sr'.wf.sub _ _ (s' _ _ upd_same)
   ·have e:=s' _ _ (upd_same (H:=Hs1) (a:=a) (o:=HO.frz o u))
    exact k1 σ' _ _ ρ' tot' (g1.sh.trans (qM rd s')) (sr'.nU e (fun vs z=>nomatch z) (fun vs z=>by subst z; exact hu) (m5 hu e)) n
   ·exact w'.sub _ _ (s' _ _ upd_same)
   ·have e:=s' _ _ (upd_same (H:=Hs1) (a:=a) (o:=HO.frz o u))
    refine k4 v _ _ m d As (g1.sh.trans (qM rd s')) ⟨fun b ob h=>?_,fun b vs h=>?_⟩ (r'.thw hu e w' hn') nd' (fun b hb=>?_) n
    ·by_cases z:b=a
     ·subst z; rw [upd_same] at h ⊢; exact h
     ·rw [upd_ne z] at h ⊢; exact w'.sub b ob h
    ·by_cases z:b=a
     ·subst z; rw [upd_same] at h; cases h; exact hu.elim
     ·rw [upd_ne z] at h ⊢; exact w'.tups b vs h
    ·rw [upd_ne fun z=>by subst z; rw [hn' _ hb] at e; cases e]; exact hn' b hb
  ·refine .inr ⟨o,g1.wf.sub _ _ rd,fun ks hk=>?_⟩
   have rs:=u_ r1 g1.wf hds hu (.inr ⟨o,rd⟩) hk
   exact n6 (.dct rd rs) sr1 q1 hL (fun σ' H' Hs' ρ' tot' s' sr' n=>.inl (k1 σ' H' Hs' ρ' tot' (g1.sh.trans s') sr' n)) fun v H' Hs' m d As s' w' r' nd' hn' n=>.inl (k4 v H' Hs' m d As (g1.sh.trans s') w' r' nd' hn' n)
 cases r1 with
 | dK kk rd q=>exact go (u:=.dK _) rfl trivial rd
 | dT kk rd q=>exact go (u:=.dT _) rfl trivial rd
 | _=>cases hds
end
end L2.Q
namespace L2.Q.R
open PySem PySem.Spec PyProof.Rows L2.Q
section
variable {E:iD} {ρ:Env} {te:WE} {g:WG} {b:WS} {ks:List (Key × L2.Q.D)} {ts:List (List Key × L2.Q.D)} {P:List L2.Q.D->Prop}
def keyB (d:L2.Q.D) (P:List L2.Q.D->Prop):Prop:=∃ ds,zz d=some ds/\P ds
theorem FW:keyB (.dK ks) P=P (ks.map fun kv=>keyD kv.1):=propext ⟨fun ⟨_,e,h⟩=>by cases e; exact h,fun h=>⟨_,rfl,h⟩⟩
theorem GF:keyB (.dT ts) P=P (ts.map fun kv=>keyT kv.1):=propext ⟨fun ⟨_,e,h⟩=>by cases e; exact h,fun h=>⟨_,rfl,h⟩⟩
theorem GZ:yN te g b E ρ=te ρ fun m x=>m=.sh/\onK x (f:=fun x=>keyB x fun ds=>iC g b E ds ρ) ⟨⟩:=rfl
end
end L2.Q.R
namespace L2
open PySem PySem.Spec PyProof.Rows
section
variable {prog:Program} {w:World} {A:Around} {E:Value->Shared->Prop} {s:Shared}
theorem iJ {α β:Type _} (f:α->β) (l:List α):∀ k:Nat,(l.map f).eraseIdx k=(l.eraseIdx k).map f:=by
 induction l with
 | nil=>intro k; rfl
 | cons x l ih =>
  intro k
  cases k with
  | zero=>rfl
  | succ k=>rw [xas,xbb,xbb,xas,ih]
theorem tW {κ:Type} [DecidableEq κ] {kd:HeapKind prog w κ} {d b:Addr} {xs:List (κ × Addr × Value)} {k:κ} {p0:Addr × Value} {Q:Option DictEntry->Shared->Prop} (hu:kd.room A) (hk:kd.is s.heap k b) (hm:s.heap.DictOfH kd d xs) (hz:xs.length<=sizeLine) (h0:atKey xs k=some p0)
  (h:∀ j p h',xs[j]? = some (k,p)->h'.DictOfH kd d (xs.eraseIdx j)->Heap.SameBut d s.heap h'->Q (some (entryOfKey kd (k,p))) { s with heap:=h',toks:=s.toks+kd.draws k }):wpAny (model prog w) A (Builtin.Dict.takeOut d (.ref b)) Q E s:=by
 obtain ⟨o,es,ep,ho,hc,hd,he,his,hn⟩:=hm
 unfold Builtin.Dict.takeOut
 refine wpAny_holding ?_
 refine xaa (kd.pyHash hu hk (xaa (wpAny_dictFind_heap (s:={ s with toks:=s.toks+kd.draws k }) hu hk ho hd he his hn (fun no=>?_) fun j p hj=>?_)))
 ·rw [atKey_none_of_get no] at h0; cases h0
 ·refine xaa (wpAny_dictEntries (s:={ s with toks:=s.toks+kd.draws k }) ho hd ?_)
  rw [entry_at he j,hj]
  have hjl:j<es.size:=by rw [size_of_entries he]; exact (xan.mp hj).1
  refine xaa (wpAny_updateDictKeys (hz:=by have e:=size_of_entries he; lia) (hf:=by simp [Array.eraseIdxIfInBounds,hjl]; lia) (s:={ s with toks:=s.toks+kd.draws k }) ho hd (xaf (h j p _ hj ?_ (Heap.SameBut.update ..))))
  refine ⟨_,_,ep+1,xbk _ ho (Obj.isFreed_of_dict (Obj.data_mapDictKeys hd _)),hc.mapDictKeys _,Obj.data_mapDictKeys hd _,?_,fun x hx=>?_,?_⟩
  ·show (es.eraseIdxIfInBounds j).toList=_
   rw [Array.eraseIdxIfInBounds,dif_pos hjl,Array.toList_eraseIdx,he,iJ]
  ·exact kd.keeps (his x (List.mem_of_mem_eraseIdx hx)) ho hd (Heap.SameBut.update ..)
  ·exact (List.Sublist.map _ (List.eraseIdx_sublist ..)).nodup hn
theorem ud {κ:Type} [DecidableEq κ] (kd:HeapKind prog w κ) (d b:Addr) :
  MeetsIn prog w (Builtin.«dict.pop» ⟨[.ref d,.ref b],[]⟩) (fun A R s=>kd.room A.in1/\∃ k xs p0,kd.is s.heap k b/\s.heap.DictOfH kd d xs/\xs.length<=sizeLine/\atKey xs k=some p0 /\
   ∀ j p h',xs[j]? = some (k,p)->h'.DictOfH kd d (xs.eraseIdx j)->Heap.SameBut d s.heap h'->R (.ok (.ret p.2)) { s with heap:=h',toks:=s.toks+kd.draws k }) :=
 .of_wp fun A R s hx9=>by
  obtain ⟨hu,k,xs,p0,hk,hm,hz,h0,h⟩:=hx9
  obtain ⟨o,es,ep,ho,hc,hd,he,his,hn⟩:=id hm
  unfold Builtin.«dict.pop» Builtin.Dict.keyAndDefault
  refine xaa (xaa (wpAny_notOrdered_dict hm.typeIs ?_))
  refine (show wpAny _ _ (pure (d,Value.ref b,none)) _ _ s from xaf ?_)
  dsimp only
  rw [if_neg (show ¬ ((keyPart (.ref b)).isSome=true) from xat)]
  refine xaa (wpAny_dictEntries ho hd (xaa (xaf ?_)))
  have ne:es.isEmpty=false:=by
   cases e:es.isEmpty with
   | false=>rfl
   | true =>
    have:es.size=0:=by simpa [Array.isEmpty] using e
    rw [size_of_entries he] at this
    have:xs=[]:=List.eq_nil_of_length_eq_zero this
    subst this
    cases h0
  rw [ne]
  simp only [xaq,if_false]
  refine xaa (tW hu hk hm hz h0 fun j p h' hj hd' hs'=>?_)
  simp only [Option.isNone_some,xaq,if_false]
  exact xaa (wpAny_letGo (xaf ⟨_,rfl,h j p h' hj hd' hs'⟩))
end
theorem KT.at {H:Hp} {kvs:List (List Key × V)} {xs:List (List Key × Addr × Value)} (r:KT H kvs xs) {k:List Key} {p:Addr × Value}:∀ {j:Nat},xs[j]? = some (k,p)->∃ v,kvs[j]? = some (k,v)/\RelV v p.2:=by
 induction r with
 | nil=>intro j h; simp at h
 | @cons a q ps qs h t ih =>
  intro j hj
  cases j with
  | zero =>
   simp only [xbX,Option.some.injEq] at hj
   subst hj
   obtain ⟨k',v⟩:=a
   obtain ⟨h1,_,h2⟩:=h
   simp only at h1
   subst h1
   exact ⟨v,rfl,h2⟩
  | succ j=>exact ih (by simpa using hj)
theorem KT.erase {H:Hp} {kvs:List (List Key × V)} {xs:List (List Key × Addr × Value)} (r:KT H kvs xs):∀ j:Nat,KT H (kvs.eraseIdx j) (xs.eraseIdx j):=by
 induction r with
 | nil=>intro j; exact .nil
 | @cons a q ps qs h t ih =>
  intro j
  cases j with
  | zero=>exact t
  | succ j=>exact .cons h (ih j)
section
variable {X:Cx}
theorem za (hu:X.A.units+1<cLine):MtR X "dict.pop" (fun x xs H Q=>∃ a b kvs k,x=.ref a/\xs=[.ref b]/\H a=some (.dT kvs)/\H b=some (.tup (k.map kV))/\k∈kvs.map (·.1)/\∀ j v,kvs[j]? = some (k,v)->Q v (upd H a (.dT (kvs.eraseIdx j)))):=by
 intro pins s σ H x vs v us Q I rx rv h
 obtain ⟨a,b,kvs,k,rfl,rfl,e,eb,hin,q⟩:=h
 cases (show v=Value.ref a from rx)
 obtain ⟨u,rfl,ru⟩:=Vals.one rv
 cases (show u=Value.ref b from ru)
 obtain ⟨z,hd,xs,rel,dd⟩:=dt_of I.hok e
 have hz:xs.length<=sizeLine:=by rw [<- Paired.length rel]; exact z
 have vl:=rel.val k
 have hv:∃ p0,atKey xs k=some p0:=by
  cases ea:atKey xs k with
  | some p=>exact ⟨p,rfl⟩
  | none =>
   rw [ea] at vl
   cases ev:valV kvs k with
   | some v'=>rw [ev] at vl; exact (vl:False).elim
   | none =>
    have:(kvs.any fun kv=>decide (kv.1=k))=true:=by
     obtain ⟨p,hp,e⟩:=xao.mp hin
     exact xa1.mpr ⟨p,hp,decide_eq_true e⟩
    rw [valV_any,ev] at this
    cases this
 obtain ⟨p0,h0⟩:=hv
 refine call_meetsIn PySem.F.slot_dict_pop dd.typeIs PySem.F.entry_dict_pop (PySem.F.args_dict_pop_2 _ _) (ud (tupleKind (mixKind X.prog X.w)) a b) ⟨tupleKind_room_in1 hu,k,xs,p0,key_of I.hok eb,dd,hz,h0,fun j p h' hj dd' hs=>?_⟩
 obtain ⟨v,hkj,rv'⟩:=rel.at hj
 obtain ⟨qo,es,ep,hq,g2,g3,g4,_,g5⟩:=dd'
 have ob:ObjOk X.prog X.w (upd H a (.dT (kvs.eraseIdx j))) h' a (.dT (kvs.eraseIdx j)):=by
  refine ⟨?_,hd,_,(rel.erase j).keeps fun c ys ec=>?_,qo,es,ep,hq,g2,g3,g4,g5⟩
  ·rw [List.length_eraseIdx]; split <;> lia
  ·rw [upd_ne (ne_of ec e fun z=>nomatch z)]
   exact ec
 exact ⟨v,_,d_write I (by rw [e]; exact True.intro) hs ⟨qo,hq⟩ ob,rv',q j v hkj⟩
end
end L2
namespace L2.Q
open PySem PySem.Spec PyProof.Rows
section
variable {X:Cx} {K:PySem.W.Frag} {L:Str->Hp->Prop} {e e2:Expr} {p:WP} {te2:WE} {apos cpos pos:Pos}
def yV (p:WP) (tk:WE):WS:=fun E ρ=>p ρ fun fl d up=>match d with
 | .dT kvs=>tk ρ fun _ y=>match y with
  | .tup ys=>∃ ks,dq ys=some ks/\ks∈kvs.map (·.1)/\∀ j d,kvs[j]? = some (ks,d)->E.nx (up fl (.dT (kvs.eraseIdx j)))
  | _=>False
 | _=>False
theorem lQ {α β:Type}:∀ (l:List α) (m:List β) (j:Nat),(l.zip m).eraseIdx j=(l.eraseIdx j).zip (m.eraseIdx j)
 | [],m,j=>by simp
 | x :: l,[],j=>by simp
 | x :: l,y :: m,0=>rfl
 | x :: l,y :: m,j+1=>by
  rw [xa9,xbb,xbb,xbb,xa9,lQ l m j]
theorem yM (hu:X.A.units+1<cLine) (ho:QP X K e p) (he:QE X K e2 te2) (hK:X.K=K:=by rfl)
  (hbase:attributeBase e "pop" X.env (eval e X.env)=eval e X.env:=by rfl)
  (hfew:((backTo cpos (starEach [e2] X.env)).all (fun x=>!x.1) && (backToKw cpos (keywordEach [] X.env)).all (fun x=>x.1.isSome)
   && decide ([e2].length+([]:List Keyword).length+(if ([]:List Keyword).isEmpty then 0 else 1)<30))=true:=by rfl)
  (hline:(apos.endLine == cpos.line)=true:=by rfl) (hss:starEach (e2 :: []) X.env=(false,eval e2 X.env) :: starEach [] X.env:=by rfl) (hplain:(backTo cpos (starEach [] X.env)).any (·.1)=false:=by rfl)
  (hs:swapsWith (.Call (.Attribute e "pop" apos) [e2] [] cpos) none pos.line X.env=pure false:=by rfl) :
  QS X K L (.Expr (.Call (.Attribute e "pop" apos) [e2] [] cpos) pos) (yV p te2):=by
 subst hK
 refine PS.imp (ps_expr (pe_bm PySem.F.plainAttrs_dict PySem.F.slot_dict_pop PySem.F.type_dict_pop (za hu) ho (pa_cons he pa_nil hss) hbase hfew hline hss hplain) hs) fun D σ H hx=>gj hx fun Hs ρ tot E sr h k1 k2 k3 k4=>?_
 refine ⟨Hs,ρ,tot,_,sr,h,fun v H1 Hs1 fl d up g1 p1 q1=>?_⟩
 cases d with
 | dT kvs =>
  obtain ⟨As',r,ne,nd,own,k⟩:=p1.ex
  have lv:∀ x∈As',Hs1 x=none/\H1 x≠none:=fun x hx=>⟨own x hx,(r.own x hx).ne⟩
  cases r with
  | sh hf _=>exact absurd rfl ne
  | @dT a vs _ A kk ea rs =>
   refine ⟨.inr (.inr (.inl ⟨rfl,.inr ⟨_,ea⟩⟩)),Hs1,ρ,tot,_,sr.grow g1,q1,fun w H2 Hs2 m y Bs g2 r2 f2 q2=>?_⟩
   have ry:=r2.rep g2.wf
   cases ry with
   | tup t2 ey p2 =>
    obtain ⟨ks,hk,hin,q⟩:=q2
    obtain ⟨b,eb,e3⟩:=Rep.keyT (.tup t2 ey p2) hk
    cases eb
    have hl:kvs.length=vs.length:=by have:=rs.length; rwa [xab] at this
    have ez:((kvs.map (·.1)).zip vs).map (·.1)=kvs.map (·.1):=xbG (by rw [xab]; exact xbK hl)
    refine ⟨a,_,_,ks,rfl,rfl,g2.all _ _ ea,e3,by rw [ez]; exact hin,fun j v hj=>?_⟩
    have hjk:∃ d,kvs[j]? = some (ks,d):=by
     have h1:(kvs.map (·.1))[j]? = some ks:=by rw [<- ez,xaE,hj]; rfl
     rw [xaE] at h1
     obtain ⟨q',hq',e'⟩:=xbp.mp h1
     obtain ⟨a',d'⟩:=q'
     simp only at e'
     subst e'
     exact ⟨d',hq'⟩
    obtain ⟨d,hd⟩:=hjk
    obtain ⟨nA,ndA⟩:=xay.mp nd
    obtain ⟨B,sb,rb⟩:=(rs.grow g2.sh g2.all).erase j
    have rr:RepO X.K Hs2 (upd H2 a (.dT (((kvs.map (·.1)).zip vs).eraseIdx j))) fl (.dT (kvs.eraseIdx j)) (.ref a) (a :: B):=by
     refine .dT (vs:=vs.eraseIdx j) ⟨by have:=kk.1; rw [List.length_eraseIdx]; split <;> lia,fun p hp=>kk.2 p (List.mem_of_mem_eraseIdx hp)⟩ ?_ ?_
     ·rw [upd_same,lQ,iJ]
     ·rw [<- iJ]
      exact rb.stay (Same.refl _) fun c hc=>upd_ne fun z=>nA (by subst z; exact sb.subset hc)
    obtain ⟨tot2,sr2⟩:=k.node (fl2:=fl) (d2:=.dT (kvs.eraseIdx j)) (C:=B) g2 lv (fun _ z=>by cases z) id rr (sb.nodup ndA) (fun z=>nA (sb.subset z)) fun x hx=>.inl (sb.subset hx)
    exact k1 _ _ Hs2 _ tot2 (g1.sh.trans g2.sh) sr2 (q j d hd)
   | _=>exact q2.elim
 | _=>exact q1.elim
end
end L2.Q
namespace L2.Q.R
open PySem PySem.Spec PyProof.Rows L2.Q
abbrev Kt':=List (List Key × L2.Q.D)
section
variable {E:iD} {ρ:Env} {p:WP} {tk:WE}
def dctT (d:L2.Q.D) (k:Kt'->Prop):Prop:=match d with
 | .dT kvs=>k kvs
 | _=>False
theorem Jp {kvs:List (List Key × L2.Q.D)} {k:Kt'->Prop}:dctT (.dT kvs) k=k kvs:=rfl
theorem Ha:yV p tk E ρ=p ρ fun fl d up=>onK d (f:=fun d=>dctT d fun kvs=>tk ρ fun _ y=>onK y (f:=fun y=>tupD y fun ys=>∃ ks,dq ys=some ks/\ks∈kvs.map (·.1)/\∀ j d,kvs[j]? = some (ks,d)->E.nx (up fl (.dT (kvs.eraseIdx j)))) ⟨⟩) ⟨⟩:=rfl
end
end L2.Q.R
namespace L2.Q
open PySem PySem.Spec PyProof.Rows
section
variable {X:Cx} {K:PySem.W.Frag}
theorem Bm:OpR X (compareOp .Is) (fun x y H Q=>∃ i j,x=.bl i/\y=.bl j/\Q (.bl (i == j)) H):=by
 intro pins s σ H x y v u Q I rx ry h
 obtain ⟨i,j,rfl,rfl,q⟩:=h
 cases rx
 cases ry
 exact is_bool (fin_bl I q rfl)
def fIsB:W2:=fun _ x _ y Q=>match x,y with
 | .bl i,.bl j=>Q .sh (.bl (i == j))
 | _,_=>False
theorem Ca:Br2 K (fun x y H Q=>∃ i j,x=.bl i/\y=.bl j/\Q (.bl (i == j)) H) fIsB:=by
 intro Hs H m x v As n y u Bs Qd Qv w rx ry h f
 have r1:=rx.rep w
 have r2:=ry.rep w
 cases r1 with
 | bl i=>cases r2 with
  | bl j=>exact ⟨i,j,rfl,rfl,f.sh w (.bl _) h⟩
  | _=>exact h.elim
 | _=>exact h.elim
end
namespace R
theorem Jf {m m':Md} {i j:Bool} {Q:Md->L2.Q.D->Prop}:fIsB m (.bl i) m' (.bl j) Q=Q .sh (.bl (i == j)):=rfl
theorem GQ {m m':Md} {i j:Bool} {Q:Md->L2.Q.D->Prop}:fNe m (.bl i) m' (.bl j) Q=Q .sh (.bl (!decide (i=j))):=rfl
end R
end L2.Q
local macro_rules | `(tactic| walk_at "q") => do
 let nm (s:String):Lean.Ident:=Lean.mkIdent ((s.splitOn ".").foldl Lean.Name.mkStr .anonymous)
 let ds ← ("Ho H_ Hg Hl Ep F_ Je Iw Em De Hf Hk Gj FJ GJ G8 Ir Gy Ga G7 G4 HH Gb Hw Ht Gn Jb Jv HX Jz Jh Ja wSd_ Im Ig HR GX Gk Hz Il Gr Dh Jy Gh wB_ Ik Jx wOr_ HN HJ Ea Du wC_ wOp_ wUn_ Dy Gz Gq Jj HW I_ Hj Fx Eh Eu Ez Et Fb Ec DN Ft G_ Hx Gu FN Hc Hb GR Hd Ju Jd JD Hn FQ IV Jw Io Hh CV GZ Ha Jp FW GF Ce Jf GQ Jr Jc IW Jl HF Hy IK JC JB Jm Ib Gw Gf G3 Hi Hr Iu Dz Es DP wSl_ CW Gv G6 HB Ij HQ Hq Ew Ef wpN_ Dd Jt Fp Ip Jg FZ Iz Fv Gm Dv Dm Di Dn gN_ gT_ Gd Jq Hm Hv GK Ds DX DK Jo G9 Gx DR Fw El Ia Ie GC GD Hu Ii Ji Jk Js Gi DG Eo G5 Gp wFz_".splitOn " ").toArray.mapM fun s=>`(Lean.Parser.Tactic.simpLemma| ↓$(nm ("L2.Q.R." ++ s)):ident)
 let us ← ("L2.Q.movS L2.Q.outM L2.Q.zb L2.Q.yo L2.Q.okSh L2.Q.okOw L2.Q.okFl L2.Q.retM L2.Q.je L2.Q.frzE L2.Q.shS L2.Q.shC L2.Q.lN L2.Q.zB L2.Q.asg L2.Q.itm L2.Q.bC L2.Q.D.flat L2.Q.flats L2.Q.D.isN L2.Q.D.ty L2.Q.truD L2.Q.D.key1 L2.Q.dq L2.Q.Ci L2.Q.Ah List.length_map List.map_cons List.map_nil List.length_cons List.length_nil List.replicate_succ List.replicate_zero List.cons_append List.nil_append List.append_nil List.getElem?_cons_zero List.getElem?_cons_succ List.getElem?_nil List.set_cons_zero List.set_cons_succ List.all_cons List.all_nil Option.some.injEq Option.join_some Option.map_some Option.map_none Nat.reduceAdd Nat.reduceSub true_and and_true Bool.and_true Bool.true_and Bool.and_false Bool.false_and Bool.not_true Bool.not_false Bool.false_eq_true if_true if_false decide_true decide_false reduceIte cond_true cond_false PySem.sizeLine_eq L2.Q.atI0 L2.Q.atI1 L2.Q.atI2 L2.Q.cX L2.Q.Br L2.Q.empty_app Nat.zero_add exists_eq_left' Int.reduceLT Int.reduceLE Int.reducePow Int.reduceNeg Int.reduceToNat Int.reduceAdd Int.reduceMul Int.reduceSub Nat.reduceLeDiff Nat.reduceLT false_or or_false and_self L2.Ih".splitOn " ").toArray.mapM fun s=>`(Lean.Parser.Tactic.simpLemma| $(nm s):ident)
 let as:Lean.TSyntaxArray [`Lean.Parser.Tactic.simpStar,`Lean.Parser.Tactic.simpErase,`Lean.Parser.Tactic.simpLemma]:=(ds++us).map fun x=>⟨x.raw⟩
 `(tactic| simp -dsimp only [$as,*])
namespace L2.Q.Law
open PySem PySem.Spec PyProof.Rows
theorem small {n:Nat} (h:n<=10000):n<=sizeLine:=xaB h (by decide)
theorem CQ {n:Nat} (h:n<=10000):n<sizeLine:=xbT h (by decide)
def isLet (c:Nat):Bool:=decide (97<=c/\c<=122)
abbrev abc:Str := "abcdefghijklmnopqrstuvwxyz"
theorem wF:sg abc=(List.range 26).map (97 + ·):=by decide +kernel
theorem uc {i:Int} (h0:0<=i) (h1:i<26):∃ c,atI (sg abc) i=some c/\isLet c=true:=by
 refine ⟨97+i.toNat,?_,?_⟩
 ·have:atI (sg abc) ((i.toNat:Nat):Int)=some (97+i.toNat):=atI_nat (by
   rw [wF]
   have:i.toNat<26:=by lia
   simp [this])
  rwa [xa4 h0] at this
 ·simp [isLet]; lia
theorem qe (x:Int):∃ c,atI (sg abc) (x % 26)=some c/\isLet c=true:=uc (Int.emod_nonneg _ (by decide)) (xcn _ (by decide))
def lets (x:Str):Prop:=∀ c∈sg x,isLet c=true
def Open (x:Str):Prop:=1<=x.length/\x.length<=6/\lets x
def Deed (x:Str):Prop:=x = "*"\/Open x
theorem wz {x y:Str} (hx:lets x) (hy:lets y):lets (x++y):=fun c hc=>by
 rw [qJ] at hc
 exact (xah.mp hc).elim (hx c) (hy c)
theorem wu {c:Nat} (h:isLet c=true):lets ⟨#[c]⟩:=fun d hd=>by
 have:d=c:=by simpa [sg] using hd
 rw [this]; exact h
theorem C_ {x:Str} (h:lets x) (lo hi:Option Int):lets (cutS x lo hi):=fun c hc=>by
 unfold cutS sg at hc
 rw [List.toList_toArray] at hc
 exact h c (xbD (xbE hc))
theorem iu (c:Nat):(⟨#[c]⟩:Str).length=1:=rfl
theorem Deed.len {x:Str} (h:Deed x):x.length<=6:=by
 rcases h with rfl | h
 ·decide
 ·exact h.2.1
theorem Deed.ok {x:Str} (h:Deed x):PyData.strOk x=true:=by
 rw [yx]
 rcases h with rfl | h
 ·have:sg "*" = [42]:=by decide +kernel
  intro c hc
  rw [this] at hc
  have:c=42:=by simpa using hc
  lia
 ·intro c hc
  have:=h.2.2 c hc
  simp [isLet] at this
  lia
abbrev Stp:=Int × Str × Int
def stpK (s:Stp):List Key:=[.inl s.1,.inr s.2.1,.inl s.2.2]
def stpD (s:Stp):D:=.tup [.int s.1,.str s.2.1,.int s.2.2]
theorem Dg (s:Stp):keyT (stpK s)=stpD s:=rfl
def mD (many:Int) (steps:List Stp):D:=.tup [.int many,.list (steps.map stpD)]
theorem pA:∀ (l:List Stp),flats (l.map stpD)=true
 | []=>rfl
 | x :: l=>by simp [flats,pA l,stpD,D.flat]
def StOk (many:Int) (s:Stp):Prop:=0<=s.1/\s.1<many/\Deed s.2.1/\0<=s.2.2/\s.2.2<many
theorem Bx {many:Int} {s:Stp} (n:Nat) (h:StOk many s):okD (n+1) (stpD s)=true:=by
 have:=h.2.2.1.ok
 simp [okD,stpD,this]
theorem zr {many:Int} {l:List Stp} (n:Nat) (h:∀ s∈l,StOk many s):okD (n+2) (.list (l.map stpD))=true:=by
 simp only [okD,List.all_map,xb5]
 intro s hs
 exact Bx n (h s hs)
theorem m_ok {many:Int} {l:List Stp} (n:Nat) (h:∀ s∈l,StOk many s):okD (n+3) (mD many l)=true:=by
 have h2:=zr n h
 show (okD (n+2) (.int many) && (okD (n+2) (.list (l.map stpD)) && true))=true
 rw [h2]
 rfl
theorem uI:∀ (l:List Stp),nbs (l.map stpD)=true
 | []=>rfl
 | x :: l=>by simp [nbs,uI l,stpD,D.nb]
theorem nb_m (many:Int) (l:List Stp):(mD many l).nb=true:=by simp [mD,D.nb,nbs,uI]
theorem eq_self {x:D} (h:x.nb=true):eqD x x=true:=(tZ x x h h).mpr rfl
theorem wK {s t:Stp} (h:stpD s=stpD t):s=t:=by
 obtain ⟨a,b,c⟩:=s
 obtain ⟨a',b',c'⟩:=t
 simp [stpD] at h
 obtain ⟨rfl,rfl,rfl⟩:=h
 rfl
theorem vC:∀ {l m:List Stp},l.map stpD=m.map stpD->l=m
 | [],[],_=>rfl
 | [],_ :: _,h=>by simp at h
 | _ :: _,[],h=>by simp at h
 | x :: l,y :: m,h=>by
  simp only [xas,List.cons.injEq] at h
  rw [wK h.1,vC h.2]
theorem Dk {s t:Stp} (h:stpK s=stpK t):s=t:=by
 obtain ⟨a,b,c⟩:=s
 obtain ⟨a',b',c'⟩:=t
 simp [stpK] at h
 obtain ⟨rfl,rfl,rfl⟩:=h
 rfl
def ltP (s t:Stp):Bool:=ltK (stpK s) (stpK t)
theorem pK {P:Stp->Prop}:∀ {ks:List (List Key)},(∀ k∈ks,∃ s,k=stpK s/\P s)->∃ l:List Stp,ks=l.map stpK/\∀ s∈l,P s
 | [],_=>⟨[],rfl,fun s h=>nomatch h⟩
 | k :: ks,h=>by
  obtain ⟨s,rfl,p⟩:=h k xad
  obtain ⟨l,rfl,q⟩:=pK fun k hk=>h k (xac _ hk)
  refine ⟨s :: l,rfl,fun t ht=>?_⟩
  rcases xaj.mp ht with rfl | ht
  ·exact p
  ·exact q t ht
abbrev Kn:=List (List Key × D)
def StD (P:Stp->Prop) (kvs:Kn):Prop:=(∀ p∈kvs,∃ s,p.1=stpK s/\P s)/\(kvs.map (·.1)).Nodup
theorem uN {κ β:Type} [DecidableEq κ] (kvs:List (κ × β)) (k:κ) (v:β):(putG kvs k v).map (·.1)=if k∈kvs.map (·.1) then kvs.map (·.1) else kvs.map (·.1)++[k]:=by
 unfold putG
 by_cases h:k∈kvs.map (·.1)
 ·have:(kvs.any fun kv=>decide (kv.1=k))=true:=by
   obtain ⟨p,hp,e⟩:=xao.mp h
   exact xa1.mpr ⟨p,hp,decide_eq_true e⟩
  rw [if_pos this,if_pos h,xaz]
  apply xbo
  intro p _
  show (if p.1=k then (p.1,v) else p).1=p.1
  split <;> rfl
 ·have:¬ (kvs.any fun kv=>decide (kv.1=k))=true:=by
   intro z
   obtain ⟨p,hp,e⟩:=xa1.mp z
   exact h (xao.mpr ⟨p,hp,of_decide_eq_true e⟩)
  rw [if_neg this,if_neg h,xaP]
  rfl
theorem StD.put {P:Stp->Prop} {kvs:Kn} {s:Stp} {d:D} (h:StD P kvs) (hs:P s):StD P (putG kvs (stpK s) d):=by
 refine ⟨fun p hp=>?_,?_⟩
 ·rcases mW hp with e | e
  ·exact ⟨s,e,hs⟩
  ·obtain ⟨q,hq,e⟩:=xao.mp e
   rw [<- e]
   exact h.1 q hq
 ·rw [uN]
  split
  ·exact h.2
  ·rename_i hn
   exact xam.mpr ⟨h.2,by simp,fun a ha b hb e=>by
    have:b=stpK s:=by simpa using hb
    subst this; subst e; exact hn ha⟩
theorem StD.nil {P:Stp->Prop}:StD P []:=⟨(fun p hp=>nomatch hp),xaO⟩
theorem StD.sorted {P:Stp->Prop} {kvs:Kn} (h:StD P kvs) {Q:Md->D->Prop} (k:∀ steps:List Stp,(steps.map stpK).Perm (kvs.map (·.1))->(∀ s∈steps,P s)->steps.Pairwise (fun a b=>ltP a b=true)->steps.length=kvs.length->Q (.ow true) (.list (steps.map stpD))) :
  Ci (.ow true) (.list (kvs.map fun kv=>.tup (kv.1.map keyD))) Q:=by
 refine ⟨kvs.map (·.1),[false,true],by rw [xaz]; rfl,fun k hk=>?_,fun ms pm pw=>?_⟩
 ·obtain ⟨p,hp,rfl⟩:=xao.mp hk
  obtain ⟨s,e,_⟩:=h.1 p hp
  rw [e]; rfl
 ·obtain ⟨l,rfl,hl⟩:=pK (P:=P) (ks:=ms) fun k hk=>by
   obtain ⟨p,hp,e⟩:=xao.mp (pm.mem_iff.mp hk)
   rw [<- e]
   exact h.1 p hp
  have e:(l.map stpK).map keyT=l.map stpD:=by rw [xaz]; rfl
  rw [e]
  refine k l pm hl ?_ (by have:=pm.length_eq; simpa using this)
  have nd:(l.map stpK).Nodup:=pm.nodup_iff.mpr h.2
  rw [xa3] at pw
  have nd':l.Pairwise fun a b=>stpK a≠stpK b:=by
   rw [List.Nodup,xa3] at nd
   exact nd
  refine (pw.and nd').imp fun {a b} ⟨h1,h2⟩=>?_
  unfold ltP
  cases h3:ltK (stpK a) (stpK b) with
  | true=>rfl
  | false=>exact absurd (mH (a:=stpK a) (b:=stpK b) rfl h3 h1) h2
theorem jB:∀ (l:List Str),flats (l.map D.str)=true
 | []=>rfl
 | x :: l=>by simp [flats,jB l,D.flat]
theorem sZ:∀ (l:List Int),flats (l.map D.int)=true
 | []=>rfl
 | x :: l=>by simp [flats,sZ l,D.flat]
theorem xn:∀ (l:List Bool),flats (l.map D.bl)=true
 | []=>rfl
 | x :: l=>by simp [flats,xn l,D.flat]
theorem xg (l:List Str) (x:Str):l.map D.str++[D.str x]=(l++[x]).map D.str:=by simp
theorem ints_app (l:List Int) (x:Int):l.map D.int++[D.int x]=(l++[x]).map D.int:=by simp
theorem bW {n i:Nat} {lo:Int} {x:D} (h:(lY lo n)[i]? = some x):i<n/\x=.int (lo+(i:Nat)):=by
 unfold lY at h
 rw [xaE] at h
 by_cases hi:i<n
 ·rw [List.getElem?_range hi] at h
  exact ⟨hi,(Option.some.inj h).symm⟩
 ·rw [xbv (by simpa using hi)] at h
  cases h
theorem bM (lo:Int) (n:Nat):(lY lo n).length=n:=by simp [lY]
theorem Dj {lo:Int} {n:Nat} {x:D} (h:x∈lY lo n):∃ i:Nat,i<n/\x=.int (lo+i):=by
 obtain ⟨i,hi⟩:=xce.mp h
 exact ⟨i,bW hi⟩
theorem qi {names:List Str} {i:Int} (h0:0<=i) (h1:i<names.length):∃ n,n∈names/\atI (names.map D.str) i=some (.str n):=by
 have hn:i.toNat<names.length:=by lia
 refine ⟨names[i.toNat],xcd hn,?_⟩
 have:=atI_nat (xs:=names.map D.str) (j:=i.toNat) (v:=.str names[i.toNat]) (by simp [hn])
 rwa [xa4 h0] at this
theorem name_mod {names:List Str} (x:Int) (h:1<=names.length):∃ n,n∈names/\atI (names.map D.str) (x % (names.length:Int))=some (.str n) :=
 qi (Int.emod_nonneg _ (by lia)) (xcn _ (by lia))
theorem Df (l:List Int) (lo hi:Option Int):cutG (l.map D.int) lo hi=(cutG l lo hi).map D.int:=by
 unfold cutG
 rw [xab,List.map_take,List.map_drop]
theorem zK {l:List Int} {i:Nat} {x:D} (h:(l.map D.int)[i]? = some x):∃ c,c∈l/\x=.int c:=by
 obtain ⟨c,hc,e⟩:=xao.mp (xaH h)
 exact ⟨c,hc,e.symm⟩
theorem jn {n d:Nat} {k:Int} (h0:0<=k) (h1:k<=n):HT.sIx n d (some k)=k.toNat:=by
 simp only [HT.sIx]
 rw [if_neg (by lia)]
 lia
theorem Ek {x:Str} {k:Int} (h0:0<=k) (h1:k<=x.length):(cutS x none (some k)).length=k.toNat:=by
 unfold cutS
 rw [jn h0 h1]
 unfold Str.length at *
 simp [HT.sIx]
 lia
theorem Fg {x:Str} {j k:Int} (h0:0<=j) (h1:j<=x.length) (h2:0<=k/\k<=x.length):(cutS x (some j) (some k)).length=k.toNat - j.toNat:=by
 unfold cutS
 rw [jn h0 h1,jn h2.1 h2.2]
 unfold Str.length at *
 simp
 lia
theorem gR {α:Type} [DecidableEq α]:∀ {l m:List α},l.Nodup->(∀ x∈l,x∈m)->l.length<=m.length
 | [],_,_,_=>xap _
 | x :: l,m,nd,h=>by
  obtain ⟨hx,nd⟩:=xay.mp nd
  have hm:=h x xad
  have:=gR (l:=l) (m:=m.erase x) nd fun y hy=>(List.mem_erase_of_ne (fun e=>by subst e; exact hx hy)).mpr (h y (xac _ hy))
  rw [List.length_erase_of_mem hm] at this
  have:=xb2 hm
  simp only [xaL]
  lia
def gQ (n:Nat):List Int:=(List.range n).map fun i=>((i:Nat):Int)
theorem sG (n:Nat):(gQ n).length=n:=by simp [gQ]
theorem rP {n:Nat} {x:Int}:x∈gQ n↔0<=x/\x<n:=by
 unfold gQ
 rw [xao]
 constructor
 ·rintro ⟨i,hi,rfl⟩
  have:=xa6.mp hi
  lia
 ·intro ⟨h0,h1⟩
  exact ⟨x.toNat,xa6.mpr (by lia),by lia⟩
theorem uX:∀ {l m:List Int},l.Pairwise (· < ·)->m.Pairwise (· < ·)->(∀ x,x∈l↔x∈m)->l=m
 | [],[],_,_,_=>rfl
 | [],y :: m,_,_,h=>absurd ((h y).mpr xad) (by simp)
 | x :: l,[],_,_,h=>absurd ((h x).mp xad) (by simp)
 | x :: l,y :: m,hl,hm,h=>by
  obtain ⟨a1,a2⟩:=List.pairwise_cons.mp hl
  obtain ⟨b1,b2⟩:=List.pairwise_cons.mp hm
  have e:x=y:=by
   rcases xaj.mp ((h x).mp xad) with e | e
   ·exact e
   ·rcases xaj.mp ((h y).mpr xad) with e' | e'
    ·exact e'.symm
    ·have:=b1 x e; have:=a1 y e'; lia
  subst e
  rw [uX a2 b2 fun z=>⟨fun hz=>by
   rcases xaj.mp ((h z).mp (xac _ hz)) with e | e
   ·subst e; exact absurd (a1 z hz) (by lia)
   ·exact e,fun hz=>by
   rcases xaj.mp ((h z).mpr (xac _ hz)) with e | e
   ·subst e; exact absurd (b1 z hz) (by lia)
   ·exact e⟩]
theorem Dc {l:List Int} (h:l.Pairwise (· < ·)):l.Nodup:=h.imp fun h=>by lia
def StIn (many:Int) (steps:List Stp):Prop:=∀ s∈steps,StOk many s
def setK (ks:List Int):List (Key × D):=ks.map fun x=>(.inl x,.bl true)
theorem jL (ks:List Int):(setK ks).map (·.1)=ks.map fun x=>(Sum.inl x:Key):=by simp [setK,xaz,Function.comp_def]
theorem CZ (ks:List Int):(setK ks).length=ks.length:=by simp [setK]
theorem kj {ks:List Int} {x:Int}:((Sum.inl x:Key)∈ks.map fun x=>(Sum.inl x:Key))↔x∈ks:=by
 rw [xao]
 exact ⟨fun ⟨y,hy,e⟩=>by cases e; exact hy,fun h=>⟨x,h,rfl⟩⟩
def insI (ks:List Int) (x:Int):List Int:=if x∈ks then ks else ks++[x]
theorem nO {κ β:Type} [DecidableEq κ] {kvs:List (κ × β)} {k:κ}:(kvs.any fun kv=>decide (kv.1=k))=true↔k∈kvs.map (·.1):=by
 rw [xa1,xao]
 exact ⟨fun ⟨p,hp,e⟩=>⟨p,hp,of_decide_eq_true e⟩,fun ⟨p,hp,e⟩=>⟨p,hp,decide_eq_true e⟩⟩
theorem Fl (ks:List Int) (x:Int):putG (setK ks) (.inl x) (.bl true)=setK (insI ks x):=by
 unfold putG insI
 by_cases h:x∈ks
 ·rw [if_pos h,if_pos (nO.mpr (by rw [jL]; exact kj.mpr h))]
  unfold setK
  rw [xaz]
  apply xbo
  intro y _
  show (if (Sum.inl y:Key)=Sum.inl x then ((Sum.inl y:Key),D.bl true) else (.inl y,.bl true))=_
  split <;> rfl
 ·rw [if_neg h,if_neg (fun z=>h (kj.mp (by rw [<- jL]; exact nO.mp z)))]
  simp [setK]
theorem pP {κ β:Type} [DecidableEq κ]:∀ {kvs:List (κ × β)} {k:κ},(getG kvs k).isSome=true↔k∈kvs.map (·.1)
 | [],k=>by simp [getG]
 | p :: kvs,k=>by
  have ih:=pP (kvs:=kvs) (k:=k)
  rw [xas,xaj]
  by_cases h:p.1=k
  ·subst h; simp [getG]
  ·have:getG (p :: kvs) k=getG kvs k:=by simp [getG,h]
   rw [this,ih]
   exact ⟨.inr,fun z=>z.elim (fun e=>absurd e.symm h) id⟩
theorem get_set (ks:List Int) (x:Int):(getG (setK ks) (.inl x)).isSome=decide (x∈ks):=by
 rw [xa7,pP,jL,kj,decide_eq_true_iff]
theorem Dl {ks:List Int} {x y:Int}:y∈insI ks x↔y∈ks\/y=x:=by
 unfold insI
 split
 ·rename_i h; exact ⟨.inl,fun z=>z.elim id fun e=>by subst e; exact h⟩
 ·simp
theorem Ae {ks:List Int} {x:Int} (h:ks.Nodup):(insI ks x).Nodup:=by
 unfold insI
 split
 ·exact h
 ·rename_i hx
  exact xam.mpr ⟨h,by simp,fun a ha b hb e=>by
   have:b=x:=by simpa using hb
   subst this; subst e; exact hx ha⟩
inductive Rch (l:List Stp) (s:Int):Int->Prop
 | refl:Rch l s s
 | step {t:Stp}:Rch l s t.1->t∈l->t.2.1 = "*"->Rch l s t.2.2
structure RchL (l:List Stp) (s:Int) (xs:List Int):Prop where
 up:xs.Pairwise (· < ·)
 mem:∀ x,x∈xs↔Rch l s x
theorem RchL.uniq {l:List Stp} {s:Int} {xs ys:List Int} (a:RchL l s xs) (b:RchL l s ys):xs=ys:=uX a.up b.up fun x=>(a.mem x).trans (b.mem x).symm
theorem Rch.lt {many:Int} {l:List Stp} (h:StIn many l) {s x:Int} (hs:0<=s/\s<many) (r:Rch l s x):0<=x/\x<many:=by
 cases r with
 | refl=>exact hs
 | step r ht _=>exact (h _ ht).2.2.2
theorem Fq {l:List Stp} {s:Int} {ks:List Int} (z:s∈ks) (h:∀ t∈l,t.2.1 = "*"->t.1∈ks->t.2.2∈ks) {x:Int} (r:Rch l s x):x∈ks:=by
 induction r with
 | refl=>exact z
 | step r ht e ih=>exact h _ ht e ih
theorem Gg {many:Int} {ks:List Int} (nd:ks.Nodup) (h:∀ x∈ks,0<=x/\x<many):ks.length<=many.toNat:=by
 have:=gR (m:=gQ many.toNat) nd fun x hx=>rP.mpr (by have:=h x hx; lia)
 rwa [sG] at this
def cL (l:List Stp) (s:Int) (d:Str):List Int:=(l.filter fun t=>decide (t.1=s) && decide (t.2.1=d)).map (·.2.2)
theorem qD {l:List Stp} {s:Int} {d:Str} {x:Int}:x∈cL l s d↔(s,d,x)∈l:=by
 unfold cL
 rw [xao]
 constructor
 ·rintro ⟨⟨p,q,r⟩,ht,rfl⟩
  obtain ⟨h1,e⟩:=xbd.mp ht
  simp only [xaG,decide_eq_true_eq] at e
  rw [<- e.1,<- e.2]
  exact h1
 ·exact fun h=>⟨_,xbd.mpr ⟨h,by simp⟩,rfl⟩
theorem vO (l:List Stp) (s:Int) (d:Str):(cL l s d).length<=l.length:=by
 unfold cL
 rw [xab]
 exact List.length_filter_le _ _
def Ways (l:List Stp) (kvs:Kn):Prop:=∀ s d,getG kvs [.inl s,.inr d]=if cL l s d=[] then none else some (.list ((cL l s d).map .int))
theorem qI (k k':List Key) (x:D):∀ (kvs:Kn),getG (sdG kvs k x) k'=if k'=k then some (match getG kvs k with
  | none=>.list [x]
  | some d=>appD d x) else getG kvs k'
 | []=>by
  rw [sdG,bK]
  by_cases h:k'=k
  ·rw [if_pos h.symm,if_pos h]; rfl
  ·rw [if_neg fun e=>h e.symm,if_neg h]
 | p :: r=>by
  rw [sdG]
  by_cases e:p.1=k
  ·rw [if_pos e,bK]
   by_cases h:k'=k
   ·rw [if_pos h,h,bK p r k,if_pos e,if_pos e]
   ·rw [if_neg h,bK p r k',if_neg fun z=>h (z.symm.trans e),if_neg fun z=>h (z.symm.trans e)]
  ·rw [if_neg e,bK,qI k k' x r]
   by_cases h:k'=k
   ·rw [if_pos h,h,bK p r k,if_neg e,if_neg e,if_pos rfl]
   ·rw [if_neg h,bK p r k',if_neg h]
theorem ug (k:List Key) (x:D):∀ (kvs:Kn),(sdG kvs k x).length<=kvs.length+1
 | []=>by simp [sdG]
 | p :: r=>by
  have:=ug k x r
  rw [sdG]
  split <;> simp only [xaL] <;> lia
theorem Ways.nil:Ways [] []:=fun s d=>rfl
theorem Ways.put {l:List Stp} {kvs:Kn} (h:Ways l kvs) (p:Int) (n:Str) (r:Int):Ways (l++[(p,n,r)]) (sdG kvs [.inl p,.inr n] (.int r)):=by
 intro s d
 rw [qI]
 have ee:cL (l++[(p,n,r)]) s d=cL l s d++if p=s/\n=d then [r] else []:=by
  unfold cL
  rw [List.filter_append,xaP]
  congr 1
  by_cases e:p=s/\n=d
  ·simp [e.1,e.2]
  ·rw [if_neg e,List.filter_cons_of_neg (by simpa using e)]; rfl
 by_cases e:p=s/\n=d
 ·rw [if_pos e] at ee
  obtain ⟨rfl,rfl⟩:=e
  rw [ee,if_pos rfl,h p n,if_neg (show ¬ cL l p n++[r]=[] by simp)]
  by_cases z:cL l p n=[]
  ·rw [if_pos z,z]; rfl
  ·rw [if_neg z]; simp [appD]
 ·rw [if_neg e,xaI] at ee
  rw [ee,if_neg fun z=>e ?_,h s d]
  simp only [List.cons.injEq,Sum.inl.injEq,Sum.inr.injEq,and_true] at z
  exact ⟨z.1.symm,z.2.symm⟩
theorem wW {l:List Stp} {kvs:Kn} (h:Ways l kvs) {s:Int} {d:Str} {Q:Md->D->Prop} (q:Q .sh (.list ((cL l s d).map .int))):gotG (getG kvs [.inl s,.inr d]) .sh .sh (.list []) Q:=by
 rw [h s d]
 by_cases z:cL l s d=[]
 ·rw [if_pos z]; rw [z] at q; exact q
 ·rw [if_neg z]; exact q
theorem uT {steps:List Stp} {i:Nat} {x:D} (h:(steps.map stpD)[i]? = some x):∃ p d r,x=.tup [.int p,.str d,.int r]/\(p,d,r)∈steps/\steps.take (i+1)=steps.take i++[(p,d,r)]:=by
 rw [xaE] at h
 cases e:steps[i]? with
 | none=>rw [e] at h; cases h
 | some s =>
  rw [e] at h
  cases h
  obtain ⟨p,d,r⟩:=s
  exact ⟨p,d,r,rfl,xaH e,by rw [xbC,e]; rfl⟩
theorem int_at {l:List Int} {i:Nat} {x:D} (h:(l.map D.int)[i]? = some x):∃ c,x=.int c/\c∈l/\l.take (i+1)=l.take i++[c]:=by
 rw [xaE] at h
 cases e:l[i]? with
 | none=>rw [e] at h; cases h
 | some s =>
  rw [e] at h
  cases h
  exact ⟨s,rfl,xaH e,by rw [xbC,e]; rfl⟩
theorem sort_keys {l:List Stp} {s:Int} {ks:List Int} {kd:List (Key × D)} (ek:kd.map (·.1)=ks.map fun x=>(Sum.inl x:Key)) (nk:ks.Nodup) (mk:∀ x,x∈ks↔Rch l s x) {Q:Md->D->Prop} (k:∀ xs,RchL l s xs->Q (.ow true) (.list (xs.map .int))):Ah .bo (.dK kd) Q:=by
 refine ⟨true,fun p hp=>?_,fun ms pm pw=>?_⟩
 ·have:p.1∈kd.map (·.1):=List.mem_map_of_mem hp
  rw [ek] at this
  obtain ⟨x,_,e⟩:=xao.mp this
  rw [<- e]; rfl
 ·rw [ek] at pm
  obtain ⟨xs,rfl⟩:∃ xs:List Int,ms=xs.map fun x=>(Sum.inl x:Key):=by
   have hm:∀ k∈ms,∃ x:Int,k=Sum.inl x:=fun k hk=>by
    obtain ⟨x,_,rfl⟩:=xao.mp (pm.mem_iff.mp hk)
    exact ⟨x,rfl⟩
   clear pm pw
   induction ms with
   | nil=>exact ⟨[],rfl⟩
   | cons k ms ih =>
    obtain ⟨l,rfl⟩:=ih fun j hj=>hm j (xac _ hj)
    obtain ⟨x,rfl⟩:=hm k xad
    exact ⟨x :: l,rfl⟩
  have e:(xs.map fun x=>(Sum.inl x:Key)).map keyD=xs.map D.int:=by rw [xaz]; rfl
  rw [e]
  have mem:∀ x,x∈xs↔x∈ks:=fun x=>by rw [<- kj (ks:=xs),<- kj (ks:=ks)]; exact pm.mem_iff
  have nd:xs.Nodup:=by
   have:(xs.map fun x=>(Sum.inl x:Key)).Nodup:=pm.nodup_iff.mpr (by
    unfold List.Nodup at *
    rw [xa3]
    exact nk.imp fun h e=>h (Sum.inl.inj e))
   unfold List.Nodup at *
   rw [xa3] at this
   exact this.imp fun h e=>h (by rw [e])
  refine k xs ⟨?_,fun x=>(mem x).trans (mk x)⟩
  rw [xa3] at pw
  refine (pw.and nd).imp fun {a b} ⟨h1,h2⟩=>?_
  have h1:¬ b<a:=by simpa [lt1] using h1
  lia
abbrev Pr:=Str × Int
def prD (p:Pr):D:=.tup [.str p.1,.int p.2]
def exS (steps:List Stp) (s:Int):List Pr:=(steps.filter fun t=>decide (t.1=s)).map (·.2)
def exL (many:Int) (steps:List Stp):List D:=(gQ many.toNat).map fun s=>.list ((exS steps s).map prD)
def exD (many:Int) (steps:List Stp):D:=.list (exL many steps)
theorem x_ (many:Int):((lY 0 many.toNat).filter fun _=>true).map (fun _=>D.list [])=exL many []:=by
 unfold exL lY gQ
 rw [xck.mpr fun _ _=>rfl,xaz,xaz]
 rfl
theorem vQ {many s:Int} (steps:List Stp) (h0:0<=s) (h1:s<many):(exL many steps)[s.toNat]? = some (.list ((exS steps s).map prD)):=by
 have:s.toNat<many.toNat:=by lia
 simp [exL,gQ,this,xa4 h0]
theorem lO (many:Int) (steps:List Stp):(exL many steps).length=many.toNat:=by simp [exL,gQ]
theorem tH {n:Nat} {i:Int} (h0:0<=i) (h1:i<n):ixN n i=some i.toNat:=by unfold ixN; rw [if_pos h0,if_pos h1]
theorem vG (steps:List Stp) (p:Int) (d:Str) (r s:Int):exS (steps++[(p,d,r)]) s=if p=s then exS steps s++[(d,r)] else exS steps s:=by
 unfold exS
 by_cases h:p=s
 ·simp [h]
 ·simp [h]
theorem xZ {many p:Int} (steps:List Stp) (d:Str) (r:Int) (h0:0<=p) (h1:p<many):(exL many steps).set p.toNat (.list ((exS steps p).map prD++[.tup [.str d,.int r]]))=exL many (steps++[(p,d,r)]):=by
 apply xbA
 intro i
 by_cases hi:i<many.toNat
 ·have e:∀ st,(exL many st)[i]? = some (.list ((exS st (i:Nat)).map prD)):=fun st=>by
   have:=vQ (many:=many) (s:=(i:Nat)) st (by lia) (by lia)
   simpa using this
  rw [e,vG]
  by_cases hp:p=(i:Nat)
  ·subst hp
   rw [if_pos rfl]
   simp [lO,hi,prD]
  ·rw [if_neg hp,xbL (by lia),e]
 ·rw [xbv (by rw [List.length_set,lO]; lia),xbv (by rw [lO]; lia)]
theorem sW {many s:Int} (steps:List Stp) (h0:0<=s) (h1:s<many):atI (exL many steps) s=some (.list ((exS steps s).map prD)) :=
 yl (tH h0 (by rw [lO]; lia)) (vQ steps h0 h1)
theorem zZ {steps:List Stp} {s:Int} {p:Pr} (h:p∈exS steps s):∃ t∈steps,t.1=s/\t.2=p:=by
 obtain ⟨t,ht,e⟩:=xao.mp h
 obtain ⟨ht,hs⟩:=xbd.mp ht
 exact ⟨t,ht,of_decide_eq_true hs,e⟩
theorem yq {steps:List Stp} {t:Stp} (h:t∈steps):t.2∈exS steps t.1:=xao.mpr ⟨t,xbd.mpr ⟨h,decide_eq_true rfl⟩,rfl⟩
theorem vd (steps:List Stp) (s:Int):(exS steps s).length<=steps.length:=by
 unfold exS
 rw [xab]
 exact List.length_filter_le _ _
theorem gD {l:List Int} {i:Int} (h0:0<=i) (h1:i<l.length):∃ c,c∈l/\atI (l.map D.int) i=some (.int c):=by
 have hn:i.toNat<l.length:=by lia
 refine ⟨l[i.toNat],xcd hn,?_⟩
 have:=atI_nat (xs:=l.map D.int) (j:=i.toNat) (v:=.int l[i.toNat]) (by simp [hn])
 rwa [xa4 h0] at this
theorem oM (x:Int) {m:Int} (h:0<m):0<=x % m/\x % m<m:=⟨Int.emod_nonneg _ (by lia),xcn _ h⟩
theorem bD {a b:Int} (h0:-1000<=b) (h1:b<=10000000000):CMul a b:=.inr ⟨by lia,by lia⟩
theorem iz {a b:Int} (h0:-1000<=a) (h1:a<=10000000000):CMul a b:=.inl ⟨by lia,by lia⟩
theorem i_:∀ l:List Nat,sg (Str.join "" (l.map fun c=>(⟨#[c]⟩:Str)))=l
 | []=>by decide +kernel
 | [c]=>rfl
 | c :: d :: l=>by
  have ih:=i_ (d :: l)
  show sg ((⟨#[c]⟩:Str) ++ "" ++ Str.join "" ((d :: l).map fun c=>(⟨#[c]⟩:Str)))=_
  rw [qJ,qJ,ih,show sg ("" : Str)=[] by decide +kernel]
  rfl
theorem rA:∀ l:List Nat,(l.map fun _=>1).sum=l.length
 | []=>rfl
 | x :: l=>by simp [rA l]; lia
theorem lL:∀ (l:List Str),je (l.map D.str)=some l
 | []=>rfl
 | x :: l=>by simp [je,lL l]
def Lts (n:Nat) (out:List D):Prop:=∃ cs:List Nat,out=cs.map (fun c=>D.str ⟨#[c]⟩)/\cs.length=n/\∀ c∈cs,isLet c=true
theorem Lts.nil:Lts 0 []:=⟨[],rfl,rfl,fun c hc=>nomatch hc⟩
theorem Lts.push {n:Nat} {out:List D} {c:Nat} (h:Lts n out) (hc:isLet c=true):Lts (n+1) (out++[.str ⟨#[c]⟩]):=by
 obtain ⟨cs,rfl,hl,ha⟩:=h
 refine ⟨cs++[c],by simp,by simp [hl],fun d hd=>?_⟩
 rcases xah.mp hd with hd | hd
 ·exact ha d hd
 ·rw [xaJ.mp hd]; exact hc
theorem Lts.join {n:Nat} {out:List D} (h:Lts n out) (hn:n<=100) :
  ∃ zs,je out=some zs/\(zs.map (·.length)).sum+zs.length * (Str.ofString "").length<=16777216/\(Str.join "" zs).length=n/\lets (Str.join "" zs):=by
 obtain ⟨cs,rfl,hl,ha⟩:=h
 refine ⟨cs.map fun c=>⟨#[c]⟩,?_,?_,?_⟩
 ·rw [<- lL,xaz]; rfl
 ·rw [show (Str.ofString "").length=0 by decide,xaz,Nat.mul_zero,xcu]
  show (cs.map fun _=>1).sum<=_
  rw [rA]; lia
 ·have hw:=i_ cs
  generalize Str.join "" (cs.map fun c=>(⟨#[c]⟩:Str))=word at hw ⊢
  refine ⟨?_,fun c hc=>ha c (by rwa [hw] at hc)⟩
  have:(sg word).length=n:=by rw [hw,hl]
  rw [<- this]; unfold sg Str.length; simp
theorem wN (l:List Str) (lo hi:Option Int):cutG (l.map D.str) lo hi=(cutG l lo hi).map D.str:=by
 unfold cutG
 rw [xab,List.map_take,List.map_drop]
theorem Bw {α:Type} {l:List α} {a b:Int} (h0:0<=a) (h1:a<b) (h2:a<l.length):1<=(cutG l (some a) (some b)).length/\(cutG l (some a) (some b)).length<=l.length/\∀ x∈cutG l (some a) (some b),x∈l:=by
 have e:HT.sIx l.length 0 (some a)=a.toNat:=jn h0 (by lia)
 have e2:a.toNat<HT.sIx l.length l.length (some b):=by
  simp only [HT.sIx]
  rw [if_neg (by lia)]
  lia
 unfold cutG
 rw [e,xax,xbi]
 exact ⟨by lia,by lia,fun x hx=>xbD (xbE hx)⟩
theorem StD.zG {P:Stp->Prop} {kvs:Kn} (h:StD P kvs) {R:List (List Key)->Prop} (k:∀ steps:List Stp,(steps.map stpK).Perm (kvs.map (·.1))->(∀ s∈steps,P s)->steps.Pairwise (fun a b=>ltP a b=true)->steps.length=kvs.length->R (steps.map stpK)) :
  ∃ b0 sh,(∀ p∈kvs,shOf p.1=b0 :: sh)/\∀ ms:List (List Key),ms.Perm (kvs.map (·.1))->(ms.Pairwise fun a b=>ltK b a=false)->R ms:=by
 refine ⟨true,[false,true],fun p hp=>?_,fun ms pm pw=>?_⟩
 ·obtain ⟨s,e,_⟩:=h.1 p hp
  rw [e]; rfl
 ·obtain ⟨l,rfl,hl⟩:=pK (P:=P) (ks:=ms) fun k hk=>by
   obtain ⟨p,hp,e⟩:=xao.mp (pm.mem_iff.mp hk)
   rw [<- e]
   exact h.1 p hp
  refine k l pm hl ?_ (by have:=pm.length_eq; simpa using this)
  have nd:(l.map stpK).Nodup:=pm.nodup_iff.mpr h.2
  rw [xa3] at pw
  have nd':l.Pairwise fun a b=>stpK a≠stpK b:=by
   rw [List.Nodup,xa3] at nd
   exact nd
  refine (pw.and nd').imp fun {a b} ⟨h1,h2⟩=>?_
  unfold ltP
  cases h3:ltK (stpK a) (stpK b) with
  | true=>rfl
  | false=>exact absurd (mH (a:=stpK a) (b:=stpK b) rfl h3 h1) h2
theorem rZ (l:List Stp):(l.map stpK).map keyT=l.map stpD:=by rw [xaz]; rfl
theorem sY {one states j copies:Int} (h0:0<=one) (h1:one<states) (hj:0<=j) (hj2:j<copies):0<=one+states * j/\one+states * j<copies * states:=by
 have a:=Int.mul_le_mul_of_nonneg_left (show j+1<=copies by lia) (show 0<=states by lia)
 rw [Int.mul_add,Int.mul_one,Int.mul_comm states copies] at a
 have b:=Int.mul_nonneg (show 0<=states by lia) hj
 lia
abbrev P2:=Int × Int
def p2K (p:P2):List Key:=[.inl p.1,.inl p.2]
def p2D (p:P2):D:=.tup [.int p.1,.int p.2]
theorem vp {p q:P2} (h:p2K p=p2K q):p=q:=by
 obtain ⟨a,b⟩:=p
 obtain ⟨c,d⟩:=q
 simp only [p2K,List.cons.injEq,Sum.inl.injEq,and_true] at h
 rw [h.1,h.2]
theorem aW:∀ (l:List P2),flats (l.map p2D)=true
 | []=>rfl
 | x :: l=>by simp [flats,aW l,p2D,D.flat]
theorem zT (l:List P2) (n:Nat):okD (n+2) (.list (l.map p2D))=true:=by
 simp only [okD,List.all_map,xb5]
 intro x _
 cases n <;> rfl
theorem CP:∀ (l:List P2),nbs (l.map p2D)=true
 | []=>rfl
 | x :: l=>by simp [nbs,CP l,p2D,D.nb]
theorem Ej (l:List P2):eqD (.list (l.map p2D)) (.list (l.map p2D))=true:=eq_self (show D.nb (.list (l.map p2D))=true from CP l)
theorem rY {l:List P2} {i:Nat} {x:D} (h:(l.map p2D)[i]? = some x):∃ p q,x=.tup [.int p,.int q]/\(p,q)∈l/\l.take (i+1)=l.take i++[(p,q)]:=by
 rw [xaE] at h
 cases e:l[i]? with
 | none=>rw [e] at h; cases h
 | some s =>
  rw [e] at h
  cases h
  exact ⟨s.1,s.2,rfl,xaH e,by rw [xbC,e]; rfl⟩
def InP (many:Int) (p:P2):Prop:=(0<=p.1/\p.1<many)/\0<=p.2/\p.2<many
def setP (ks:List P2):Kn:=ks.map fun p=>(p2K p,.bl true)
theorem fC (ks:List P2):(setP ks).map (·.1)=ks.map p2K:=by simp [setP,xaz,Function.comp_def]
theorem fM (ks:List P2):(setP ks).length=ks.length:=by simp [setP]
theorem nu {ks:List P2} {x:P2}:p2K x∈ks.map p2K↔x∈ks:=by
 rw [xao]
 exact ⟨fun ⟨y,hy,e⟩=>vp e ▸ hy,fun h=>⟨x,h,rfl⟩⟩
def insP (ks:List P2) (x:P2):List P2:=if x∈ks then ks else ks++[x]
theorem mK (ks:List P2) (x:P2):putG (setP ks) (p2K x) (.bl true)=setP (insP ks x):=by
 unfold putG insP
 by_cases h:x∈ks
 ·rw [if_pos (nO.mpr (by rw [fC]; exact nu.mpr h)),if_pos h]
  unfold setP
  rw [xaz]
  apply xbo
  intro p _
  show (if p2K p=p2K x then (p2K p,D.bl true) else (p2K p,D.bl true))=_
  split <;> rfl
 ·rw [if_neg fun z=>h (nu.mp (by rw [<- fC]; exact nO.mp z)),if_neg h]
  simp [setP]
theorem nF (ks:List P2) (x:P2):(getG (setP ks) (p2K x)).isSome=decide (x∈ks):=by
 rw [xa7,pP,fC,nu,decide_eq_true_eq]
theorem vR {ks:List P2} {x y:P2}:y∈insP ks x↔y∈ks\/y=x:=by
 unfold insP
 split
 ·rename_i h
  exact ⟨.inl,fun z=>z.elim id fun e=>e ▸ h⟩
 ·simp
theorem rH {ks:List P2} {x:P2} (h:ks.Nodup):(insP ks x).Nodup:=by
 unfold insP
 split
 ·exact h
 ·rename_i n
  exact xam.mpr ⟨h,by simp,fun a ha b hb e=>n (by rw [<- xaJ.mp hb,<- e]; exact ha)⟩
theorem vB (ks:List P2) (x:P2):(insP ks x).length<=ks.length+1:=by
 unfold insP
 split <;> simp
structure Dst (ps ks:List P2):Prop where
 nd:ks.Nodup
 mem:∀ x,x∈ks↔x∈ps
 len:ks.length<=ps.length
theorem Dst.nil:Dst [] []:=⟨xaO,fun _=>Iff.rfl,by simp⟩
theorem Dst.put {ps ks:List P2} (h:Dst ps ks) (x:P2):Dst (ps++[x]) (insP ks x):=⟨rH h.nd,fun y=>by rw [vR,xah,xaJ,h.mem],by
 have:=vB ks x
 have:=h.len
 rw [xaA,List.length_singleton]
 lia⟩
def Fwd (l:List Stp) (ps:List P2) (p q:Int):Prop:=∀ d e,(p,d,e)∈l->∃ o,(q,d,o)∈l/\(e,o)∈ps
def Bwd (l:List Stp) (ps:List P2) (p q:Int):Prop:=∀ d o,(q,d,o)∈l->∃ e,(p,d,e)∈l/\(e,o)∈ps
def Both (l:List Stp) (ps:List P2) (p:P2):Prop:=Fwd l ps p.1 p.2/\Bwd l ps p.1 p.2
theorem Fwd.congr {l:List Stp} {ps qs:List P2} (h:∀ x,x∈ps↔x∈qs) {p q:Int}:Fwd l ps p q↔Fwd l qs p q:=by
 unfold Fwd
 simp only [h]
theorem Both.congr {l:List Stp} {ps qs:List P2} (h:∀ x,x∈ps↔x∈qs) {p:P2}:Both l ps p↔Both l qs p:=by
 unfold Both Fwd Bwd
 simp only [h]
theorem xF (ks:List P2):(setP ks).map (fun kv=>keyT kv.1)=ks.map p2D:=by unfold setP; rw [xaz]; rfl
theorem z8 {l:List Pr} {i:Nat} {x:D} (h:(l.map prD)[i]? = some x):∃ d e,x=.tup [.str d,.int e]/\(d,e)∈l/\l.take (i+1)=l.take i++[(d,e)]:=by
 rw [xaE] at h
 cases e:l[i]? with
 | none=>rw [e] at h; cases h
 | some s =>
  rw [e] at h
  cases h
  exact ⟨s.1,s.2,rfl,xaH e,by rw [xbC,e]; rfl⟩
theorem eY {steps:List Stp} {s:Int} {d:Str} {e:Int}:(d,e)∈exS steps s↔(s,d,e)∈steps:=by
 constructor
 ·intro h
  obtain ⟨t,ht,e1,e2⟩:=zZ h
  obtain ⟨a,b,c⟩:=t
  cases e1
  cases e2
  exact ht
 ·exact fun h=>yq h
theorem gY {α:Type} {l:List α} {i:Nat} {x:α} {P:α->Prop} (tk:l.take (i+1)=l.take i++[x]) (h:∀ y∈l.take i,P y) (hx:P x):∀ y∈l.take (i+1),P y:=fun y hy=>by
 rw [tk] at hy
 rcases xah.mp hy with hy | hy
 ·exact h y hy
 ·rw [xaJ.mp hy]; exact hx
def SM (l:List Stp) (ps:List P2):Prop:=∀ p∈ps,Fwd l ps p.1 p.2
def swp (ps:List P2):List P2:=ps.map fun p=>(p.2,p.1)
theorem jO {ps:List P2} {a b:Int}:(a,b)∈swp ps↔(b,a)∈ps:=by
 unfold swp
 rw [xao]
 constructor
 ·rintro ⟨⟨c,d⟩,h,e⟩
  cases e
  exact h
 ·exact fun h=>⟨_,h,rfl⟩
theorem vh {l:List Stp} {ps:List P2}:(SM l ps/\SM l (swp ps))↔∀ p∈ps,Both l ps p:=by
 constructor
 ·rintro ⟨a,b⟩ ⟨p,q⟩ hp
  refine ⟨a _ hp,fun d o ho=>?_⟩
  obtain ⟨e,he,m⟩:=b (q,p) (jO.mpr hp) d o ho
  exact ⟨e,he,jO.mp m⟩
 ·intro h
  refine ⟨fun p hp=>(h p hp).1,fun p hp d e he=>?_⟩
  obtain ⟨p,q⟩:=p
  obtain ⟨o,ho,m⟩:=(h _ (jO.mp hp)).2 d e he
  exact ⟨o,ho,jO.mpr m⟩
def onI (f:Int->D):D->D
 | .int o=>f o
 | _=>.non
theorem yw (f:Int->D) (l:List Int):(((l.map D.int).filter fun _=>true).map (onI f))=l.map f:=by
 rw [xck.mpr fun _ _=>rfl,xaz]
 rfl
def nj (l:List Stp) (ks:List P2) (p:P2):Bool:=@decide (Both l ks p) (Classical.propDecidable _)
theorem oE {l:List Stp} {ks:List P2} {p:P2}:nj l ks p=true↔Both l ks p:=@decide_eq_true_iff _ (Classical.propDecidable _)
def onP (f:P2->Bool) (x:D):Bool:=match x with
 | .tup [.int a,.int b]=>f (a,b)
 | _=>false
theorem vL (ks:List P2) (f:P2->Bool):((ks.map p2D).filter (onP f)).map (fun x=>x)=(ks.filter f).map p2D:=by
 rw [List.filter_map,xaz]
 rfl
theorem uF (l:List P2):eqD (.list (l.map p2D)) (.list [])=decide (l=[]):=by
 cases l <;> rfl
def unK (k:List Key):P2:=match k with
 | [.inl a,.inl b]=>(a,b)
 | _=>(0,0)
theorem yX {ks:List P2} {R:List (List Key)->Prop} (k:∀ out:List P2,out.Perm ks->R (out.map p2K)) :
  ∃ b0 sh,(∀ p∈setP ks,shOf p.1=b0 :: sh)/\∀ ms:List (List Key),ms.Perm ((setP ks).map (·.1))->(ms.Pairwise fun a b=>ltK b a=false)->R ms:=by
 refine ⟨true,[true],fun p hp=>?_,fun ms pm _=>?_⟩
 ·obtain ⟨s,_,rfl⟩:=xao.mp hp
  rfl
 ·rw [fC] at pm
  have e:(ms.map unK).map p2K=ms:=by
   rw [xaz]
   refine (xbo fun x hx=>?_).trans (List.map_id ms)
   obtain ⟨p,_,rfl⟩:=xao.mp (pm.mem_iff.mp hx)
   rfl
  rw [<- e]
  refine k _ ?_
  have e2:(ks.map p2K).map unK=ks:=by
   rw [xaz]
   exact (xbo fun x _=>rfl).trans (List.map_id ks)
  rw [<- e2]
  exact pm.map unK
theorem vJ (l:List P2):(l.map p2K).map keyT=l.map p2D:=by rw [xaz]; rfl
theorem lC:∀ (ks:List P2) (j:Nat),(setP ks).eraseIdx j=setP (ks.eraseIdx j)
 | [],_=>rfl
 | _ :: _,0=>rfl
 | k :: ks,j+1=>congrArg ((p2K k,D.bl true) :: ·) (lC ks j)
theorem xO:∀ (ks:List P2) (j:Nat) (g:P2),ks.Nodup->ks[j]? = some g->∀ x,x∈ks.eraseIdx j↔x∈ks/\x≠g
 | [],j,g,_,h,x=>by simp at h
 | k :: ks,0,g,nd,h,x=>by
  cases h
  have n:=(xay.mp nd).1
  rw [List.eraseIdx_cons_zero,xaj]
  exact ⟨fun a=>⟨.inr a,fun e=>n (by rw [<- e]; exact a)⟩,fun a=>a.1.elim (fun e=>absurd e a.2) id⟩
 | k :: ks,j+1,g,nd,h,x=>by
  have n:=xay.mp nd
  have h:ks[j]? = some g:=h
  have hg:=xaH h
  rw [xbb,xaj,xaj,xO ks j g n.2 h x]
  exact ⟨fun a=>a.elim (fun e=>⟨.inl e,fun z=>n.1 (by rw [<- e,z]; exact hg)⟩) fun a=>⟨.inr a.1,a.2⟩,fun a=>a.1.elim .inl fun b=>.inr ⟨b,a.2⟩⟩
theorem Both.mono {l:List Stp} {ps qs:List P2} (h:∀ x∈ps,x∈qs) {p:P2} (b:Both l ps p):Both l qs p:=by
 refine ⟨fun d e he=>?_,fun d o ho=>?_⟩
 ·obtain ⟨o,a,m⟩:=b.1 d e he
  exact ⟨o,a,h _ m⟩
 ·obtain ⟨e,a,m⟩:=b.2 d o ho
  exact ⟨e,a,h _ m⟩
theorem yE {x y many:Int} (x0:0<=x) (x1:x<many) (y0:0<=y) (y1:y<many):(x * many+y) / many=x/\(x * many+y) % many=y/\0<=x * many+y/\x * many+y<many * many:=by
 have a:=Int.mul_nonneg x0 (show 0<=many by lia)
 have b:=Int.mul_le_mul_of_nonneg_right (show x+1<=many by lia) (show 0<=many by lia)
 rw [Int.add_mul,Int.one_mul] at b
 refine ⟨?_,?_,by lia,by lia⟩
 ·rw [Int.add_comm,Int.add_mul_ediv_right _ _ (by lia),Int.ediv_eq_zero_of_lt y0 y1,Int.zero_add]
 ·rw [Int.add_comm,Int.add_mul_emod_self_right,Int.emod_eq_of_lt y0 y1]
theorem wZ {many:Int} {n:Nat} {ps:List P2} (hn:(n:Int)=many * many) (h:∀ i:Nat,i<n->(((i:Int) / many,(i:Int) % many):P2)∈ps) {x:P2} (hx:InP many x):x∈ps:=by
 have d:=yE hx.1.1 hx.1.2 hx.2.1 hx.2.2
 have:=h (x.1 * many+x.2).toNat (by lia)
 rw [xa4 d.2.2.1,d.1,d.2.1] at this
 exact this
def dY:WS :=
 (wIfS (wNot (wB (nW fLe fLt (wC (.int 0)) (wVar 1) (wOp fIx (wVar 0) (wC (.int 0))))))
 (vA "NoState" (wC (.str "the machine has no such state")))
 eU)
def aR:SpD:=fun ds Q=>∃ (many:Int) (l:List Stp) (s:Int),ds=[mD many l,.int s]/\((0<=s/\s<many)->Q .sh .non)/\(¬ (0<=s/\s<many)->Q (.ow false) (.str "NoState"))
theorem jJ (ds Q) (h:aR ds Q):ds.length=["m", "state"].length:=by obtain ⟨_,_,_,rfl,_⟩:=h; rfl
theorem l_:∀ ds Q,aR ds Q->dY { nx:=fun _=>Q .sh .non,rt:=Q } (bC 2 ds):=by
 rintro ds Q ⟨many,l,s,rfl,h1,h2⟩
 unfold dY mD
 walk_at "q"
 refine R.D (fun a=>?_) fun a=>?_
 ·walk_at "q"
  by_cases b:s<many
  ·refine R.F (by simp [b]) ?_
   walk_at "q"
   exact h1 ⟨a,b⟩
  ·refine R.T (by simp [b]) ?_
   walk_at "q"
   exact h2 fun z=>b z.2
 ·walk_at "q"
  exact h2 fun z=>a z.1
def kh:WS :=
 (wSeq (wSet 1 jQ)
 (wSeq (wFrz 0 (wFor (cN (wOp fIx (wVar 0) (wC (.int 1)))) (gT 3 (bh (gN 2) (bh (gN 3) (bh (gN 4) il))))
 (wFrz 4 (wFrz 3 (wFrz 2 (wSd 1 (wTup (aj (wVar 2) (aj (wVar 3) wNil))) (wVar 4)))))))
 (rT 1)))
def cV:SpD:=fun ds Q=>∃ (many:Int) (l:List Stp),ds=[mD many l]/\l.length<=10000/\∀ kvs,Ways l kvs->Q (.ow true) (.dT kvs)
theorem qd (ds Q) (h:cV ds Q):ds.length=["m"].length:=by obtain ⟨_,_,rfl,_⟩:=h; rfl
theorem uB:∀ ds Q,cV ds Q->kh { nx:=fun _=>Q .sh .non,rt:=Q } (bC 5 ds):=by
 rintro ds Q ⟨many,l,rfl,hz,h⟩
 unfold kh mD
 walk_at "q"
 refine aZ _ (fun i ρ=>∃ (kvs:Kn) (o2 o3 o4:Option Sl),Ways (l.take i) kvs/\kvs.length<=i/\ρ=[some (.sh (.tup [.int many,.list (l.map stpD)])),some (.ow true (.dT kvs)),o2,o3,o4]) ⟨[],_,_,_,Ways.nil,by simp,rfl⟩ ?_ ?_
 ·rintro i x ρ hx ⟨kvs,o2,o3,o4,hw,hk,rfl⟩ N hN
  have hi:=(xan.mp hx).1
  rw [xab] at hi
  obtain ⟨p,d,r,rfl,hs,et⟩:=uT hx
  walk_at "q"
  refine ⟨by lia,?_,hN _ ⟨_,_,_,_,by rw [et]; exact hw.put p d r,by have:=ug [.inl p,.inr d] (.int r) kvs; lia,rfl⟩⟩
  rw [hw p d]
  have:=vO (l.take i) p d
  rw [xax] at this
  split
  ·trivial
  ·show List.length _<_
   rw [xab]
   exact CQ (by lia)
 ·rintro ρ ⟨kvs,o2,o3,o4,hw,hk,rfl⟩
  rw [xab,xaQ] at hw
  walk_at "q"
  exact h kvs hw
def iy:WS :=
 (wSeq (wSet 1 (eG (cC (wOp fIx (wVar 0) (wC (.int 0)))) (gN 0) wYes (wLst wNil) 1 []))
 (wSeq (wFrz 0 (wFor (cN (wOp fIx (wVar 0) (wC (.int 1)))) (gT 3 (bh (gN 2) (bh (gN 3) (bh (gN 4) il))))
 (wFrz 4 (wFrz 3 (wApp (wpIx (wpN 1) (wVar 2)) (wTup (aj (wVar 3) (aj (wVar 4) wNil))))))))
 (rT 1)))
def cJ:SpD:=fun ds Q=>∃ (many:Int) (steps:List Stp),ds=[mD many steps]/\(0<=many/\many<=1000)/\StIn many steps/\steps.length<=10000/\Q (.ow true) (exD many steps)
theorem oA (ds Q) (h:cJ ds Q):ds.length=["m"].length:=by obtain ⟨_,_,rfl,_⟩:=h; rfl
theorem rM:∀ ds Q,cJ ds Q->iy { nx:=fun _=>Q .sh .non,rt:=Q } (bC 5 ds):=by
 rintro ds Q ⟨many,steps,rfl,hm,hin,hl,h⟩
 unfold iy mD
 walk_at "q"
 refine ⟨by lia,by lia,?_⟩
 refine cU (fun _=>true) (fun _=>.list []) (fun ρ=>∃ o,ρ=[o]) _ _ _ ⟨_,rfl⟩ ?_ ?_
 ·rintro x hx ρ ⟨o,rfl⟩ N1 N2 n1 n2
  walk_at "q"
  exact ⟨.inr rfl,n2 _ ⟨_,rfl⟩ rfl⟩
 rw [x_]
 refine aZ _ (fun i ρ=>∃ o2 o3 o4,ρ=[some (.sh (.tup [.int many,.list (steps.map stpD)])),some (.ow true (.list (exL many (steps.take i)))),o2,o3,o4]) ⟨none,none,none,by simp⟩ ?_ ?_
 ·rintro i x ρ hx ⟨o2,o3,o4,rfl⟩ N hN
  obtain ⟨p,d,r,rfl,hs,ht⟩:=uT hx
  have ok:=hin _ hs
  walk_at "q"
  refine ⟨p.toNat,.list ((exS (steps.take i) p).map prD),tH ok.1 (by rw [lO]; have:=ok.2.1; lia),vQ _ ok.1 ok.2.1,rfl,?_⟩
  walk_at "q"
  refine ⟨?_,?_⟩
  ·have:=vd (steps.take i) p
   have:(steps.take i).length<=steps.length:=by rw [xax]; lia
   lia
  ·refine hN _ ⟨some (.sh (.int p)),some (.sh (.str d)),some (.sh (.int r)),?_⟩
   rw [xZ _ _ _ ok.1 ok.2.1,<- ht]
 ·rintro ρ ⟨o2,o3,o4,rfl⟩
  walk_at "q"
  rw [xaQ]
  exact h
def dF:WS :=
 (wSeq (wIfS (wB (wOp fLt (wVar 1) (wUn fLen (wVar 0))))
 (wRet (wOp fIx (wVar 0) (wVar 1)))
 eU)
 (wRet (wC (.int 0))))
def aH:SpD:=fun ds Q=>∃ (ns:List Int) (k:Int),ds=[.list (ns.map .int),.int k]/\0<=k/\Q .sh (.int (ns.getD k.toNat 0))
theorem ji (ds Q) (h:aH ds Q):ds.length=["_law_script", "_law_k"].length:=by obtain ⟨_,_,rfl,_⟩:=h; rfl
theorem lq:∀ ds Q,aH ds Q->dF { nx:=fun _=>Q .sh .non,rt:=Q } (bC 2 ds):=by
 rintro ds Q ⟨ns,k,rfl,hk,h⟩
 unfold dF
 walk_at "q"
 refine R.D (fun hl=>?_) fun hl=>?_
 ·walk_at "q"
  have hn:k.toNat<ns.length:=by lia
  refine ⟨.int ns[k.toNat],?_,?_⟩
  ·have:=atI_nat (xs:=ns.map D.int) (j:=k.toNat) (v:=.int ns[k.toNat]) (by simp [hn])
   rwa [xa4 hk] at this
  ·show Q .sh _; simpa [List.getD,hn] using h
 ·walk_at "q"
  have:ns.getD k.toNat 0=0:=by
   have:ns.length<=k.toNat:=by lia
   simp [List.getD,xbv this]
  rwa [this] at h
def eV:WS :=
 (wSeq (wSet 3 (wOp fIx (wLst (aj (wC (.int 1000003)) (aj (wC (.int 998244353)) (aj (wC (.int 104729)) (aj (wC (.int 2147483647)) (aj (wC (.int 15485863)) (aj (wC (.int 32452843)) wNil))))))) (wVar 1)))
 (wRet (wOp fMod (wOp fDiv (wOp fMod (wOp fMul (wVar 0) (wOp fIx (wLst (aj (wC (.int 48271)) (aj (wC (.int 69621)) (aj (wC (.int 16807)) (aj (wC (.int 40692)) (aj (wC (.int 39373)) (aj (wC (.int 22571)) wNil))))))) (wVar 1))) (wVar 3)) (wC (.int 11))) (wVar 2))))
def az:SpD:=fun ds Q=>∃ c w m:Int,ds=[.int c,.int w,.int m]/\(0<=w/\w<6)/\0<m/\∀ r,0<=r->r<m->Q .sh (.int r)
theorem lu (ds Q) (h:az ds Q):ds.length=["_law_cell", "_law_way", "_law_many"].length:=by obtain ⟨_,_,_,rfl,_⟩:=h; rfl
theorem oW:∀ ds Q,az ds Q->eV { nx:=fun _=>Q .sh .non,rt:=Q } (bC 4 ds):=by
 rintro ds Q ⟨c,w,m,rfl,hw,hm,h⟩
 unfold eV
 walk_at "q"
 obtain ⟨p,hp,ep⟩:=gD (l:=[1000003,998244353,104729,2147483647,15485863,32452843]) hw.1 hw.2
 obtain ⟨q,hq,eq⟩:=gD (l:=[48271,69621,16807,40692,39373,22571]) hw.1 hw.2
 have hp':=(by decide:∀ p∈([1000003,998244353,104729,2147483647,15485863,32452843]:List Int),0<p) p hp
 have hq':=(by decide:∀ p∈([48271,69621,16807,40692,39373,22571]:List Int),0<p/\p<100000) q hq
 refine ⟨.int p,ep,?_⟩
 walk_at "q"
 refine ⟨.int q,eq,?_⟩
 walk_at "q"
 have:=oM (c * q % p / 11) hm
 exact ⟨bD (by lia) (by lia),hp',hm,h _ this.1 this.2⟩
def gC:WS :=
 (wSeq (wSet 2 (eG (cC (wVar 0)) (gN 0) wYes (wLst wNil) 1 []))
 (wSeq (wFrz 1 (wFor (cN (wVar 1)) (gT 3 (bh (gN 3) (bh (gN 4) (bh (gN 5) il))))
 (wFrz 5 (wFrz 4 (wApp (wpIx (wpN 2) (wVar 3)) (wTup (aj (wVar 4) (aj (wVar 5) wNil))))))))
 (rT 2)))
def b_:SpD:=fun ds Q=>∃ (many:Int) (steps:List Stp),ds=[.int many,.list (steps.map stpD)]/\(0<=many/\many<=1000)/\StIn many steps/\steps.length<=10000/\Q (.ow true) (exD many steps)
theorem nJ (ds Q) (h:b_ ds Q):ds.length=["_law_many", "_law_steps"].length:=by obtain ⟨_,_,rfl,_⟩:=h; rfl
theorem pY:∀ ds Q,b_ ds Q->gC { nx:=fun _=>Q .sh .non,rt:=Q } (bC 6 ds):=by
 rintro ds Q ⟨many,steps,rfl,hm,hin,hl,h⟩
 unfold gC
 walk_at "q"
 refine ⟨by lia,by lia,?_⟩
 refine cU (fun _=>true) (fun _=>.list []) (fun ρ=>∃ o,ρ=[o]) _ _ _ ⟨_,rfl⟩ ?_ ?_
 ·rintro x hx ρ ⟨o,rfl⟩ N1 N2 n1 n2
  walk_at "q"
  exact ⟨.inr rfl,n2 _ ⟨_,rfl⟩ rfl⟩
 rw [x_]
 refine aZ _ (fun i ρ=>∃ o2 o3 o4,ρ=[some (.sh (.int many)),some (.sh (.list (steps.map stpD))),some (.ow true (.list (exL many (steps.take i)))),o2,o3,o4]) ⟨none,none,none,by simp⟩ ?_ ?_
 ·rintro i x ρ hx ⟨o2,o3,o4,rfl⟩ N hN
  obtain ⟨p,d,r,rfl,hs,ht⟩:=uT hx
  have ok:=hin _ hs
  walk_at "q"
  refine ⟨p.toNat,.list ((exS (steps.take i) p).map prD),tH ok.1 (by rw [lO]; have:=ok.2.1; lia),vQ _ ok.1 ok.2.1,rfl,?_⟩
  walk_at "q"
  refine ⟨?_,?_⟩
  ·have:=vd (steps.take i) p
   have:(steps.take i).length<=steps.length:=by rw [xax]; lia
   lia
  ·refine hN _ ⟨some (.sh (.int p)),some (.sh (.str d)),some (.sh (.int r)),?_⟩
   rw [xZ _ _ _ ok.1 ok.2.1,<- ht]
 ·rintro ρ ⟨o2,o3,o4,rfl⟩
  walk_at "q"
  rw [xaQ]
  exact h
def cO:WS :=
 (wSeq (wFrz 0 (wFor (cN (wOp fIx (wVar 0) (wVar 1))) (gT 2 (bh (gN 4) (bh (gN 5) il)))
 (wIfS (wNot (wB (wUn fAny (eG (gZ (wOp fIx (wVar 0) (wVar 2))) (gT 2 (bh (gN 0) (bh (gN 1) il))) (wB (wOp fEq (wVar 0) (wVar 2))) (wOp (fIn false) (wTup (aj (wVar 4) (aj (wVar 1) wNil))) (wVar 3)) 2 [4,3,5]))))
 (wRet (wC (.bl false)))
 eU)))
 (wSeq (wFrz 0 (wFor (cN (wOp fIx (wVar 0) (wVar 2))) (gT 2 (bh (gN 4) (bh (gN 6) il)))
 (wIfS (wNot (wB (wUn fAny (eG (gZ (wOp fIx (wVar 0) (wVar 1))) (gT 2 (bh (gN 0) (bh (gN 1) il))) (wB (wOp fEq (wVar 0) (wVar 2))) (wOp (fIn false) (wTup (aj (wVar 1) (aj (wVar 3) wNil))) (wVar 4)) 2 [4,6,3]))))
 (wRet (wC (.bl false)))
 eU)))
 (wRet (wC (.bl true)))))
def aK:SpD:=fun ds Q=>∃ (many:Int) (l:List Stp) (ks:List P2) (p:P2),ds=[exD many l,.int p.1,.int p.2,.dT (setP ks)]/\InP many p/\∀ b,(b=true↔Both l ks p)->Q .sh (.bl b)
theorem gJ (ds Q) (h:aK ds Q):ds.length=["_law_rows_here", "_law_one", "_law_other", "_law_pairs"].length:=by obtain ⟨_,_,_,_,rfl,_⟩:=h; rfl
def prI (d:Str) (x:D):Bool:=match x with
 | .tup [.str n,_]=>decide (n=d)
 | _=>false
def prO (f:Int->Bool) (x:D):D:=match x with
 | .tup [_,.int o]=>.bl (f o)
 | _=>.non
theorem uY {l:List Stp} {s:Int} {d:Str} {f:Int->Bool}:∃ bs:List Bool,(((exS l s).map prD).filter (prI d)).map (prO f)=bs.map D.bl/\(bs.any (fun b=>b)=true↔∃ o,(s,d,o)∈l/\f o=true):=by
 refine ⟨((exS l s).filter fun t=>decide (t.1=d)).map fun t=>f t.2,?_,?_⟩
 ·rw [List.filter_map,xaz,xaz]
  rfl
 ·rw [List.any_map,xa1]
  constructor
  ·rintro ⟨⟨n,o⟩,ho,z⟩
   obtain ⟨ho,e⟩:=xbd.mp ho
   have e:n=d:=of_decide_eq_true e
   exact ⟨o,eY.mp (e ▸ ho),z⟩
  ·rintro ⟨o,ho,z⟩
   exact ⟨(d,o),xbd.mpr ⟨eY.mpr ho,decide_eq_true rfl⟩,z⟩
theorem jc:∀ ds Q,aK ds Q->cO { nx:=fun _=>Q .sh .non,rt:=Q } (bC 7 ds):=by
 rintro ds Q ⟨many,l,ks,⟨p,q⟩,rfl,hp,h⟩
 unfold cO
 walk_at "q"
 refine ⟨_,sW l hp.1.1 hp.1.2,?_⟩
 walk_at "q"
 refine aZ _ (fun j ρ=>∃ (o4 o5:Option Sl),(∀ t∈(exS l p).take j,∃ o,(q,t.1,o)∈l/\(t.2,o)∈ks)/\ρ=[some (.sh (exD many l)),some (.sh (.int p)),some (.sh (.int q)),some (.sh (.dT (setP ks))),o4,o5,none]) ⟨_,_,(fun p hp=>by simp at hp),rfl⟩ ?_ ?_
 ·rintro j x ρ hx ⟨o4,o5,hj,rfl⟩ N hN
  obtain ⟨d,e,rfl,hm2,tk2⟩:=z8 hx
  walk_at "q"
  refine ⟨_,sW l hp.2.1 hp.2.2,?_⟩
  walk_at "q"
  refine cU (prI d) (prO fun o=>decide ((e,o)∈ks)) (fun ρ=>∃ o0 o1,ρ=[o0,o1,some (.sh (.str d)),some (.sh (.dT (setP ks))),some (.sh (.int e))]) _ _ _ ⟨_,_,rfl⟩ ?_ ?_
  ·rintro x hx ρ ⟨o0,o1,rfl⟩ N1 N2 n1 n2
   obtain ⟨⟨n,o⟩,hc,rfl⟩:=xao.mp hx
   rw [show prD (n,o)=.tup [.str n,.int o] from rfl] at *
   walk_at "q"
   by_cases en:n=d
   ·rw [if_pos (by simp [en])]
    have e1:=nF ks (e,o)
    unfold p2K at e1
    rw [e1]
    exact ⟨.inl rfl,n2 _ ⟨_,_,rfl⟩ (decide_eq_true en)⟩
   ·rw [if_neg (by simp [en])]
    exact n1 _ ⟨_,_,rfl⟩ (decide_eq_false en)
  obtain ⟨bs,e1,e2⟩:=uY (l:=l) (s:=q) (d:=d) (f:=fun o=>decide ((e,o)∈ks))
  refine ⟨bs,e1,?_⟩
  refine R.B (fun hb=>?_) fun hb=>?_
  ·walk_at "q"
   refine h false ⟨(fun z=>by cases z),fun z=>?_⟩
   obtain ⟨o,ho,m⟩:=z.1 d e (eY.mp hm2)
   rw [e2.mpr ⟨o,ho,decide_eq_true m⟩] at hb
   cases hb
  ·walk_at "q"
   have hb:bs.any (fun b=>b)=true:=by simpa using hb
   obtain ⟨o,ho,m⟩:=e2.mp hb
   exact hN _ ⟨_,_,gY tk2 hj ⟨o,ho,of_decide_eq_true m⟩,rfl⟩
 rintro ρ ⟨o4,o5,hj,rfl⟩
 rw [xab,xaQ] at hj
 have hf:Fwd l ks p q:=fun d e he=>hj (d,e) (eY.mpr he)
 walk_at "q"
 refine ⟨_,sW l hp.2.1 hp.2.2,?_⟩
 walk_at "q"
 refine aZ _ (fun j ρ=>∃ (o4 o6:Option Sl),(∀ t∈(exS l q).take j,∃ e,(p,t.1,e)∈l/\(e,t.2)∈ks)/\ρ=[some (.sh (exD many l)),some (.sh (.int p)),some (.sh (.int q)),some (.sh (.dT (setP ks))),o4,o5,o6]) ⟨_,_,(fun p hp=>by simp at hp),rfl⟩ ?_ ?_
 ·rintro j x ρ hx ⟨o4,o6,hj,rfl⟩ N hN
  obtain ⟨d,o,rfl,hm2,tk2⟩:=z8 hx
  walk_at "q"
  refine ⟨_,sW l hp.1.1 hp.1.2,?_⟩
  walk_at "q"
  refine cU (prI d) (prO fun e=>decide ((e,o)∈ks)) (fun ρ=>∃ o0 o1,ρ=[o0,o1,some (.sh (.str d)),some (.sh (.int o)),some (.sh (.dT (setP ks)))]) _ _ _ ⟨_,_,rfl⟩ ?_ ?_
  ·rintro x hx ρ ⟨o0,o1,rfl⟩ N1 N2 n1 n2
   obtain ⟨⟨n,e⟩,hc,rfl⟩:=xao.mp hx
   rw [show prD (n,e)=.tup [.str n,.int e] from rfl] at *
   walk_at "q"
   by_cases en:n=d
   ·rw [if_pos (by simp [en])]
    have e1:=nF ks (e,o)
    unfold p2K at e1
    rw [e1]
    exact ⟨.inl rfl,n2 _ ⟨_,_,rfl⟩ (decide_eq_true en)⟩
   ·rw [if_neg (by simp [en])]
    exact n1 _ ⟨_,_,rfl⟩ (decide_eq_false en)
  obtain ⟨bs,e1,e2⟩:=uY (l:=l) (s:=p) (d:=d) (f:=fun e=>decide ((e,o)∈ks))
  refine ⟨bs,e1,?_⟩
  refine R.B (fun hb=>?_) fun hb=>?_
  ·walk_at "q"
   refine h false ⟨(fun z=>by cases z),fun z=>?_⟩
   obtain ⟨e,he,m⟩:=z.2 d o (eY.mp hm2)
   rw [e2.mpr ⟨e,he,decide_eq_true m⟩] at hb
   cases hb
  ·walk_at "q"
   have hb:bs.any (fun b=>b)=true:=by simpa using hb
   obtain ⟨e,he,m⟩:=e2.mp hb
   exact hN _ ⟨_,_,gY tk2 hj ⟨e,he,of_decide_eq_true m⟩,rfl⟩
 ·rintro ρ ⟨o4,o6,hj,rfl⟩
  rw [xab,xaQ] at hj
  walk_at "q"
  exact h true ⟨fun _=>⟨hf,fun d o ho=>hj (d,o) (eY.mpr ho)⟩,fun _=>rfl⟩
def dX:WS :=
 (wFrz 1 (wFor (cN (wVar 1)) (gN 2)
 (wSeq (lF aR (aj (wVar 0) (aj (wOp fIx (wVar 2) (wC (.int 0))) wNil)))
 (lF aR (aj (wVar 0) (aj (wOp fIx (wVar 2) (wC (.int 1))) wNil))))))
def aX:SpD:=fun ds Q=>∃ (many:Int) (l:List Stp) (ps:List P2),ds=[mD many l,.list (ps.map p2D)]/\((∀ p∈ps,InP many p)->Q .sh .non)/\((∃ p∈ps,¬ InP many p)->Q (.ow false) (.str "NoState"))
theorem kZ (ds Q) (h:aX ds Q):ds.length=["m", "pairs"].length:=by obtain ⟨_,_,_,rfl,_⟩:=h; rfl
theorem mY:∀ ds Q,aX ds Q->dX { nx:=fun _=>Q .sh .non,rt:=Q } (bC 3 ds):=by
 rintro ds Q ⟨many,l,ps,rfl,h1,h2⟩
 unfold dX mD
 walk_at "q"
 refine aZ _ (fun i ρ=>∃ o:Option Sl,(∀ p∈ps.take i,InP many p)/\ρ=[some (.sh (.tup [.int many,.list (l.map stpD)])),some (.sh (.list (ps.map p2D))),o]) ⟨_,(fun p hp=>by simp at hp),rfl⟩ ?_ ?_
 ·rintro i x ρ hx ⟨o,hi,rfl⟩ N hN
  obtain ⟨p,q,rfl,hm,tk⟩:=rY hx
  walk_at "q"
  refine ⟨many,l,p,rfl,fun a=>?_,fun a=>?_⟩
  ·walk_at "q"
   refine ⟨many,l,q,rfl,fun b=>?_,fun b=>?_⟩
   ·walk_at "q"
    exact hN _ ⟨_,gY tk hi ⟨a,b⟩,rfl⟩
   ·walk_at "q"
    exact h2 ⟨_,hm,fun z=>b z.2⟩
  ·walk_at "q"
   exact h2 ⟨_,hm,fun z=>a z.1⟩
 ·rintro ρ ⟨o,hi,rfl⟩
  rw [xab,xaQ] at hi
  exact h1 hi
def dh:WS :=
 (wSeq (wSet 2 jQ)
 (wSeq (wFrz 1 (wFor (cN (wVar 1)) (gN 3)
 (oH (wpN 2) (wVar 3) (wC (.bl true)))))
 (wSeq (wSet 4 (aY cJ (aj (wVar 0) wNil)))
 (wSeq (wSet 5 (aY cV (aj (wVar 0) wNil)))
 (wSeq (wFrz 5 (wFrz 4 (wFrz 2 (yN (wVar 2) (gT 2 (bh (gN 6) (bh (gN 7) il)))
 (wFrz 4 (wFor (cN (wOp fIx (wVar 4) (wVar 6))) (gT 2 (bh (gN 8) (bh (gN 9) il)))
 (wFrz 8 (wFrz 7 (wFrz 9 (wIfS (wNot (wB (wUn fAny (eG (gZ (wGet (wVar 5) (wTup (aj (wVar 7) (aj (wVar 8) wNil))) (wFz (wLst wNil)))) (gN 0) wYes (wOp (fIn false) (wTup (aj (wVar 1) (aj (wVar 0) wNil))) (wVar 2)) 1 [9,2]))))
 (wRet (wC (.bl false)))
 eU))))))))))
 (wRet (wC (.bl true))))))))
def aM:SpD:=fun ds Q=>∃ (many:Int) (l:List Stp) (ps:List P2),ds=[mD many l,.list (ps.map p2D)]/\(0<=many/\many<=1000)/\StIn many l/\l.length<=1000/\ps.length<=10000/\(∀ p∈ps,InP many p)/\∀ b,(b=true↔SM l ps)->Q .sh (.bl b)
theorem iM (ds Q) (h:aM ds Q):ds.length=["m", "pairs"].length:=by obtain ⟨_,_,_,rfl,_⟩:=h; rfl
theorem jC:∀ ds Q,aM ds Q->dh { nx:=fun _=>Q .sh .non,rt:=Q } (bC 10 ds):=by
 rintro ds Q ⟨many,l,ps,rfl,hm,hin,hl,hps,hr,h⟩
 unfold dh mD
 walk_at "q"
 refine aZ _ (fun i ρ=>∃ (ks:List P2) (o3:Option Sl),Dst (ps.take i) ks/\ρ=[some (.sh (.tup [.int many,.list (l.map stpD)])),some (.sh (.list (ps.map p2D))),some (.ow true (.dT (setP ks))),o3,none,none,none,none,none,none]) ⟨[],_,Dst.nil,rfl⟩ ?_ ?_
 ·rintro i x ρ hx ⟨ks,o3,hd,rfl⟩ N hN
  obtain ⟨p,q,rfl,hm,tk⟩:=rY hx
  have hkl:=hd.len
  rw [xax] at hkl
  walk_at "q"
  refine ⟨by rw [fM]; lia,?_⟩
  have e:=mK ks (p,q)
  unfold p2K at e
  rw [e]
  exact hN _ ⟨_,_,by rw [tk]; exact hd.put (p,q),rfl⟩
 rintro ρ ⟨ks,o3,hd,rfl⟩
 rw [xab,xaQ] at hd
 walk_at "q"
 refine ⟨many,l,rfl,hm,hin,by lia,?_⟩
 walk_at "q"
 refine ⟨many,l,rfl,by lia,fun kvs hw=>?_⟩
 walk_at "q"
 refine aZ _ (fun i ρ=>∃ (o6 o7 o8 o9:Option Sl),(∀ p∈ks.take i,Fwd l ks p.1 p.2)/\ρ=[some (.sh (.tup [.int many,.list (l.map stpD)])),some (.sh (.list (ps.map p2D))),some (.sh (.dT (setP ks))),o3,some (.sh (exD many l)),some (.sh (.dT kvs)),o6,o7,o8,o9]) ⟨_,_,_,_,(fun p hp=>by simp at hp),rfl⟩ ?_ ?_
 ·rintro i x ρ hx ⟨o6,o7,o8,o9,hi,rfl⟩ N hN
  rw [xF] at hx
  obtain ⟨p,q,rfl,hm1,tk⟩:=rY hx
  have inp:=hr _ ((hd.mem _).mp hm1)
  walk_at "q"
  refine ⟨_,sW l inp.1.1 inp.1.2,?_⟩
  walk_at "q"
  refine aZ _ (fun j ρ=>∃ (o8 o9:Option Sl),(∀ t∈(exS l p).take j,∃ o,(q,t.1,o)∈l/\(t.2,o)∈ks)/\ρ=[some (.sh (.tup [.int many,.list (l.map stpD)])),some (.sh (.list (ps.map p2D))),some (.sh (.dT (setP ks))),o3,some (.sh (exD many l)),some (.sh (.dT kvs)),some (.sh (.int p)),some (.sh (.int q)),o8,o9]) ⟨_,_,(fun p hp=>by simp at hp),rfl⟩ ?_ ?_
  ·rintro j x ρ hx ⟨o8,o9,hj,rfl⟩ N hN
   obtain ⟨d,e,rfl,hm2,tk2⟩:=z8 hx
   walk_at "q"
   refine wW hw ?_
   walk_at "q"
   refine cU (fun _=>true) (onI fun o=>.bl (decide ((e,o)∈ks))) (fun ρ=>∃ o,ρ=[o,some (.sh (.int e)),some (.sh (.dT (setP ks)))]) _ _ _ ⟨_,rfl⟩ ?_ ?_
   ·rintro x hx ρ ⟨o,rfl⟩ N1 N2 n1 n2
    obtain ⟨c,hc,rfl⟩:=xao.mp hx
    walk_at "q"
    have e1:=nF ks (e,c)
    unfold p2K at e1
    rw [e1]
    exact ⟨.inl rfl,n2 _ ⟨_,rfl⟩ rfl⟩
   rw [yw]
   refine ⟨(cL l q d).map fun o=>decide ((e,o)∈ks),by rw [xaz]; rfl,?_⟩
   refine R.B (fun hb=>?_) fun hb=>?_
   ·walk_at "q"
    have hb:((cL l q d).map fun o=>decide ((e,o)∈ks)).any (fun b=>b)=false:=by simpa using hb
    refine h false ⟨(fun z=>by cases z),fun z=>?_⟩
    have z:SM l ps:=z
    obtain ⟨o,ho,m⟩:=z _ ((hd.mem _).mp hm1) d e (eY.mp hm2)
    have:((cL l q d).map fun o=>decide ((e,o)∈ks)).any (fun b=>b)=true:=xa1.mpr ⟨_,xao.mpr ⟨o,qD.mpr ho,rfl⟩,decide_eq_true ((hd.mem _).mpr m)⟩
    rw [hb] at this
    exact this
   ·walk_at "q"
    have hb:((cL l q d).map fun o=>decide ((e,o)∈ks)).any (fun b=>b)=true:=by simpa using hb
    rw [List.any_map] at hb
    obtain ⟨o,ho,z⟩:=xa1.mp hb
    exact hN _ ⟨_,_,gY tk2 hj ⟨o,qD.mp ho,of_decide_eq_true z⟩,rfl⟩
  ·rintro ρ ⟨o8,o9,hj,rfl⟩
   rw [xab,xaQ] at hj
   exact hN _ ⟨_,_,_,_,gY tk hi fun d e he=>hj (d,e) (eY.mpr he),rfl⟩
 ·rintro ρ ⟨o6,o7,o8,o9,hi,rfl⟩
  rw [xab,fM,xaQ] at hi
  walk_at "q"
  exact h true ⟨fun _ p hp=>(Fwd.congr hd.mem).mp (hi p ((hd.mem p).mpr hp)),fun _=>rfl⟩
def eF:WS :=
 (wSeq (wFor (cC (wC (.int 6))) (gN 7)
 (wSeq (wSet 8 (jG (wC (.str "")) (eG (cC (wVar 2)) (gN 0) wYes (wOp fIx (wVar 4) (wOp fMod (wOp fAdd (wOp fIx (wVar 2) (wVar 0)) (wOp fMul (wVar 3) (wUn fInt (wOp fEq (wVar 0) (wVar 1))))) (wC (.int 26)))) 1 [3,4,7,1])))
 (wSeq (wIfS (wB (wOp fEq (wVar 5) (wC (.int 1))))
 (wSet 8 (jG (wC (.str "")) (eG (cC (wOp fAdd (wVar 7) (wC (.int 1)))) (gN 0) wYes (wOp fIx (wVar 2) (wOp fIx (wVar 1) (wVar 0))) 1 [4,1])))
 eU)
 (wSeq (wIfS (wB (wOp fEq (wVar 5) (wC (.int 2))))
 (wSeq (wSet 9 (eG (cC (aY az (aj (wOp fAdd (wVar 0) (wVar 7)) (aj (wC (.int 4)) (aj (wC (.int 6)) wNil))))) (gN 0) wYes (wOp fIx (wVar 2) (wOp fIx (wVar 1) (wVar 0))) 1 [4,1]))
 (wSet 8 (wOp fAdd (wOp fIx (wVar 1) (wOp fMod (wOp fAdd (wOp fIx (wVar 4) (wC (.int 0))) (wOp fMul (wC (.int 11)) (wVar 7))) (wC (.int 26)))) (jG (wC (.str "")) (wVar 9)))))
 eU)
 (wSeq (wIfS (wB (wOp fEq (wVar 5) (wC (.int 3))))
 (wSet 8 (jG (wC (.str "")) (eG (cC (wC (.int 6))) (gN 0) wYes (wOp fIx (wVar 3) (wOp fMod (wOp fAdd (wOp fIx (wVar 1) (wC (.int 0))) (wOp fMod (wOp fAdd (wVar 0) (wVar 2)) (wC (.int 6)))) (wC (.int 26)))) 1 [4,7,1])))
 eU)
 (wFrz 8 (wApp (wpN 6) (wVar 8))))))))
 (wSeq (wSet 10 (aY az (aj (wVar 0) (aj (wC (.int 4)) (aj (wC (.int 2)) wNil)))))
 (wRet (wSl (wOp fAdd (wLst (aj (wC (.str "*")) wNil)) (wVar 6)) (lA (wVar 10)) (lA (wOp fAdd (wOp fAdd (wVar 10) (wC (.int 1))) (aY az (aj (wVar 0) (aj (wC (.int 5)) (aj (wC (.int 7)) wNil))))))))))
def gr:WS :=
 (wSeq (wSet 1 (wC (.str "abcdefghijklmnopqrstuvwxyz")))
 (wSeq (wSet 2 (wOp fAdd (wC (.int 1)) (aY az (aj (wVar 0) (aj (wC (.int 0)) (aj (wC (.int 6)) wNil))))))
 (wSeq (wSet 3 (aY az (aj (wVar 0) (aj (wC (.int 1)) (aj (wVar 2) wNil)))))
 (wSeq (wSet 4 (eG (cC (wC (.int 6))) (gN 0) wYes (aY az (aj (wOp fAdd (wOp fMul (wVar 1) (wOp fAdd (wVar 0) (wC (.int 1)))) (wVar 0)) (aj (wC (.int 2)) (aj (wC (.int 26)) wNil)))) 1 [0]))
 (wSeq (wSet 5 (aY az (aj (wVar 0) (aj (wC (.int 3)) (aj (wC (.int 4)) wNil)))))
 (wSeq (wSet 6 (wLst wNil))
 eF))))))
def cg:SpD:=fun ds Q=>∃ c:Int,ds=[.int c]/\∀ names:List Str,1<=names.length->names.length<=7->(∀ n∈names,Deed n)->Q (.ow true) (.list (names.map .str))
theorem nM (ds Q) (h:cg ds Q):ds.length=["_law_cell"].length:=by obtain ⟨_,rfl,_⟩:=h; rfl
theorem nq (Q:Md->D->Prop) (c size at' kind:Int) (base:List Int) (hs:1<=size/\size<=6) (hk:0<=kind/\kind<4) (hb:base.length=6) (hbb:∀ b∈base,0<=b/\b<26)
  (h:∀ names:List Str,1<=names.length->names.length<=7->(∀ n∈names,Deed n)->Q (.ow true) (.list (names.map .str))) :
  eF { nx:=fun _=>Q .sh .non,rt:=Q } [some (.sh (.int c)),some (.sh (.str abc)),some (.sh (.int size)),some (.sh (.int at')),some (.ow true (.list (base.map .int))),some (.sh (.int kind)),some (.ow true (.list [])),none,none,none,none]:=by
 unfold eF
 walk_at "q"
 refine aZ _ (fun i ρ=>∃ (words:List Str) (o7 o8 o9:Option Sl),words.length=i/\(∀ n∈words,Open n)/\ρ=[some (.sh (.int c)),some (.sh (.str abc)),some (.sh (.int size)),some (.sh (.int at')),some (.ow true (.list (base.map .int))),some (.sh (.int kind)),some (.ow true (.list (words.map .str))),o7,o8,o9,none]) ⟨[],_,_,_,rfl,(fun n hn=>nomatch hn),rfl⟩ ?_ ?_
 ·rintro i x ρ hx ⟨words,o7,o8,o9,hl,ho,rfl⟩ N hN
  obtain ⟨hi,rfl⟩:=bW hx
  have hi:i<6:=hi
  have push:∀ (w:Str) (o9':Option Sl),Open w->N [some (.sh (.int c)),some (.sh (.str abc)),some (.sh (.int size)),some (.sh (.int at')),some (.ow true (.list (base.map .int))),some (.sh (.int kind)),some (.ow true (.list (words.map .str++[.str w]))),some (.sh (.int (0+(i:Nat)))),some (.sh (.str w)),o9',none]:=fun w o9' hw=>by
   rw [xg]
   refine hN _ ⟨words++[w],_,_,_,by simp [hl],fun n hn=>?_,rfl⟩
   rcases xah.mp hn with hn | hn
   ·exact ho n hn
   ·rw [xaJ.mp hn]; exact hw
  walk_at "q"
  refine ⟨by lia,by lia,?_⟩
  refine cu (fun n out=>Lts n out) (fun ρ=>∃ o,ρ=[o,some (.sh (.int at')),some (.sh (.list (base.map .int))),some (.sh (.int (0+(i:Nat)))),some (.sh (.str abc))]) _ 0 [] _ _ ⟨_,rfl⟩ Lts.nil ?_ ?_
  ·rintro j y hy ρ ⟨o,rfl⟩ out ho N1 N2 hN2
   obtain ⟨hj,rfl⟩:=bW hy
   walk_at "q"
   obtain ⟨b,_,eb⟩:=gD (l:=base) (i:=0+(j:Nat)) (by lia) (by lia)
   refine ⟨.int b,eb,?_⟩
   walk_at "q"
   refine ⟨iz (by lia) (by lia),?_⟩
   obtain ⟨ch,ec,lc⟩:=qe (b+(0+(i:Nat)) * (if decide (0+(j:Int)=at')=true then 1 else 0))
   refine ⟨ch,ec,.inl rfl,hN2 _ _ ⟨_,rfl⟩ ?_⟩
   rw [xba] at ho ⊢
   exact ho.push lc
  intro out hout
  rw [bM] at hout
  simp only [xba,xbn] at hout
  obtain ⟨zs,ez,zl,wl0,we0⟩:=hout.join (by lia)
  refine ⟨zs,ez,zl,?_⟩
  generalize Str.join _ zs=w0 at *
  have hw0:Open w0:=⟨by lia,by lia,we0⟩
  clear ez zl
  rcases (show kind=0\/kind=1\/kind=2\/kind=3 by lia) with rfl | rfl | rfl | rfl
  ·refine R.F (by decide) ?_
   walk_at "q"
   refine R.F (by decide) ?_
   walk_at "q"
   refine R.F (by decide) ?_
   walk_at "q"
   exact ⟨by lia,push w0 _ hw0⟩
  ·refine R.T (by decide) ?_
   walk_at "q"
   refine ⟨by lia,by lia,?_⟩
   refine cu (fun n out=>Lts n out) (fun ρ=>∃ o,ρ=[o,some (.sh (.list (base.map .int))),some (.sh (.str abc))]) _ 0 [] _ _ ⟨_,rfl⟩ Lts.nil ?_ ?_
   ·rintro j y hy ρ ⟨o,rfl⟩ out ho N1 N2 hN2
    obtain ⟨hj,rfl⟩:=bW hy
    walk_at "q"
    obtain ⟨b,mb,eb⟩:=gD (l:=base) (i:=0+(j:Nat)) (by lia) (by lia)
    refine ⟨.int b,eb,?_⟩
    walk_at "q"
    obtain ⟨ch,ec,lc⟩:=uc (hbb b mb).1 (hbb b mb).2
    refine ⟨ch,ec,.inl rfl,hN2 _ _ ⟨_,rfl⟩ ?_⟩
    rw [xba] at ho ⊢
    exact ho.push lc
   intro out hout
   rw [bM] at hout
   simp only [xba,xbn] at hout
   obtain ⟨zs,ez,zl,wl1,we1⟩:=hout.join (by lia)
   refine ⟨zs,ez,zl,?_⟩
   generalize Str.join _ zs=w1 at *
   refine R.F (by decide) ?_
   walk_at "q"
   refine R.F (by decide) ?_
   walk_at "q"
   exact ⟨by lia,push w1 _ ⟨by lia,by lia,we1⟩⟩
  ·refine R.F (by decide) ?_
   walk_at "q"
   refine ⟨_,4,6,rfl,by decide,by decide,fun r r0 r1=>?_⟩
   walk_at "q"
   refine ⟨by lia,by lia,?_⟩
   refine cu (fun n out=>Lts n out) (fun ρ=>∃ o,ρ=[o,some (.sh (.list (base.map .int))),some (.sh (.str abc))]) _ 0 [] _ _ ⟨_,rfl⟩ Lts.nil ?_ ?_
   ·rintro j y hy ρ ⟨o,rfl⟩ out ho N1 N2 hN2
    obtain ⟨hj,rfl⟩:=bW hy
    walk_at "q"
    obtain ⟨b,mb,eb⟩:=gD (l:=base) (i:=0+(j:Nat)) (by lia) (by lia)
    refine ⟨.int b,eb,?_⟩
    walk_at "q"
    obtain ⟨ch,ec,lc⟩:=uc (hbb b mb).1 (hbb b mb).2
    refine ⟨ch,ec,.inl rfl,hN2 _ _ ⟨_,rfl⟩ ?_⟩
    rw [xba] at ho ⊢
    exact ho.push lc
   intro out hout
   rw [bM] at hout
   simp only [xba,xbn] at hout
   obtain ⟨b0,mb0,eb0⟩:=gD (l:=base) (i:=0) (by lia) (by lia)
   refine ⟨.int b0,eb0,?_⟩
   walk_at "q"
   obtain ⟨ch,ec,lc⟩:=qe (b0+11 * (0+(i:Nat)))
   refine ⟨iz (by lia) (by lia),ch,ec,?_⟩
   obtain ⟨zs,ez,zl,wl1,we1⟩:=hout.join (by lia)
   refine ⟨zs,ez,zl,?_⟩
   generalize Str.join _ zs=w1 at *
   refine ⟨by rw [iu]; lia,?_⟩
   refine R.F (by decide) ?_
   walk_at "q"
   exact ⟨by lia,push _ _ ⟨by rw [cX,iu]; lia,by rw [cX,iu]; lia,wz (wu lc) we1⟩⟩
  ·refine R.F (by decide) ?_
   walk_at "q"
   refine R.F (by decide) ?_
   walk_at "q"
   refine cu (fun n out=>Lts n out) (fun ρ=>∃ o,ρ=[o,some (.sh (.list (base.map .int))),some (.sh (.int (0+(i:Nat)))),some (.sh (.str abc))]) _ 0 [] _ _ ⟨_,rfl⟩ Lts.nil ?_ ?_
   ·rintro j y hy ρ ⟨o,rfl⟩ out ho N1 N2 hN2
    obtain ⟨hj,rfl⟩:=bW hy
    walk_at "q"
    obtain ⟨b,mb,eb⟩:=gD (l:=base) (i:=0) (by lia) (by lia)
    refine ⟨.int b,eb,?_⟩
    walk_at "q"
    obtain ⟨ch,ec,lc⟩:=qe (b+(0+(j:Int)+(0+(i:Nat))) % 6)
    refine ⟨ch,ec,.inl rfl,hN2 _ _ ⟨_,rfl⟩ ?_⟩
    rw [xba] at ho ⊢
    exact ho.push lc
   intro out hout
   rw [bM] at hout
   simp only [xba,xbn] at hout
   obtain ⟨zs,ez,zl,wl1,we1⟩:=hout.join (by decide)
   refine ⟨zs,ez,zl,?_⟩
   generalize Str.join _ zs=w1 at *
   exact ⟨by lia,push w1 _ ⟨by rw [wl1]; decide,by rw [wl1]; decide,we1⟩⟩
 ·rintro ρ ⟨words,o7,o8,o9,hl,ho,rfl⟩
  rw [bM] at hl
  walk_at "q"
  refine ⟨c,4,2,rfl,by decide,by decide,fun f f0 f1=>?_⟩
  walk_at "q"
  refine ⟨by lia,.inl ⟨jB words,?_⟩⟩
  refine ⟨c,5,7,rfl,by decide,by decide,fun r r0 r1=>?_⟩
  walk_at "q"
  refine .inl ⟨jB words,?_⟩
  have e:(D.str "*" :: words.map D.str)=(("*" : Str) :: words).map D.str:=rfl
  rw [e,wN]
  have hc:=Bw (l:=("*" : Str) :: words) (a:=f) (b:=f+1+r) f0 (by lia) (by simp; lia)
  refine h _ hc.1 (xaB hc.2.1 (by simp; lia)) fun n hn=>?_
  rcases xaj.mp (hc.2.2 n hn) with rfl | hn
  ·exact .inl rfl
  ·exact .inr (ho n hn)
theorem pJ:∀ ds Q,cg ds Q->gr { nx:=fun _=>Q .sh .non,rt:=Q } (bC 11 ds):=by
 rintro ds Q ⟨c,rfl,h⟩
 unfold gr
 walk_at "q"
 refine ⟨c,0,6,rfl,by decide,by decide,fun s s0 s1=>?_⟩
 walk_at "q"
 refine ⟨c,1,1+s,rfl,by decide,by lia,fun at' a0 a1=>?_⟩
 walk_at "q"
 refine cu (fun n out=>∃ bs:List Int,out=bs.map .int/\bs.length=n/\∀ b∈bs,0<=b/\b<26) (fun ρ=>∃ o,ρ=[o,some (.sh (.int c))]) _ 0 [] _ _ ⟨_,rfl⟩ ⟨[],rfl,rfl,fun b hb=>nomatch hb⟩ ?_ ?_
 ·rintro j y hy ρ ⟨o,rfl⟩ out ⟨bs,rfl,hl,hbb⟩ N1 N2 hN2
  have hj:=(bW hy).1
  obtain ⟨hj,rfl⟩:=bW hy
  walk_at "q"
  refine ⟨bD (by lia) (by lia),_,2,26,rfl,by decide,by decide,fun r r0 r1=>?_⟩
  walk_at "q"
  refine ⟨.inl rfl,hN2 _ _ ⟨_,rfl⟩ ⟨bs++[r],by simp,by simp [hl],fun b hb=>?_⟩⟩
  rcases xah.mp hb with hb | hb
  ·exact hbb b hb
  ·rw [xaJ.mp hb]; exact ⟨r0,r1⟩
 rintro out ⟨base,e,hb,hbb⟩
 simp only [xbn] at e
 subst e
 rw [bM] at hb
 refine ⟨c,3,4,rfl,by decide,by decide,fun kind k0 k1=>?_⟩
 walk_at "q"
 exact nq Q c _ at' kind base (by lia) ⟨k0,k1⟩ (by simpa using hb) hbb h
def gG:WS :=
 (wSeq (wSet 4 (aY aH (aj (wVar 0) (aj (wOp fAdd (wC (.int 3)) (wOp fMod (wOp fAdd (wOp fMul (wC (.int 7)) (wVar 1)) (wOp fMul (wC (.int 11)) (wVar 2))) (wC (.int 60)))) wNil))))
 (wRet (aY az (aj (wOp fAdd (wOp fAdd (wVar 4) (wOp fMul (aY aH (aj (wVar 0) (aj (wC (.int 2)) wNil))) (wOp fAdd (wVar 1) (wC (.int 2))))) (wOp fMul (wOp fAdd (wVar 1) (wC (.int 1))) (wOp fAdd (wOp fAdd (wVar 1) (wC (.int 5))) (wVar 2)))) (aj (wVar 2) (aj (wVar 3) wNil))))))
def aF:SpD:=fun ds Q=>∃ (ns:List Int) (k w m:Int),ds=[.list (ns.map .int),.int k,.int w,.int m]/\(0<=k/\k<=1000)/\(0<=w/\w<6)/\0<m/\∀ r,0<=r->r<m->Q .sh (.int r)
theorem mQ (ds Q) (h:aF ds Q):ds.length=["_law_script", "_law_k", "_law_way", "_law_many"].length:=by obtain ⟨_,_,_,_,rfl,_⟩:=h; rfl
theorem qp:∀ ds Q,aF ds Q->gG { nx:=fun _=>Q .sh .non,rt:=Q } (bC 5 ds):=by
 rintro ds Q ⟨ns,k,w,m,rfl,hk,hw,hm,h⟩
 unfold gG
 walk_at "q"
 have a:=oM (7 * k+11 * w) (show (0:Int)<60 by decide)
 refine ⟨bD (by lia) (by lia),bD (by lia) (by lia),ns,_,rfl,by lia,?_⟩
 generalize ns.getD _ 0=c1
 walk_at "q"
 refine ⟨ns,2,rfl,by decide,?_⟩
 generalize ns.getD _ 0=c2
 walk_at "q"
 refine ⟨bD (by lia) (by lia),bD (by lia) (by lia),_,w,m,rfl,hw,hm,fun r r0 r1=>?_⟩
 walk_at "q"
 exact h r r0 r1
def eE:WS :=
 (wSeq (wSet 2 jQ)
 (wSeq (wFrz 1 (wFor (cN (wVar 1)) (gN 3)
 (oH (wpN 2) (wVar 3) (wC (.bl true)))))
 (yc (wB (wC (.bl true)))
 (wSeq (wSet 4 (eG (gZ (wUn nR (wVar 2))) (gN 0) (wNot (wB (aY aK (aj (wVar 2) (aj (wOp fIx (wVar 0) (wC (.int 0))) (aj (wOp fIx (wVar 0) (wC (.int 1))) (aj (wVar 1) wNil))))))) (wVar 0) 1 [2,0]))
 (wSeq (wIfS (wB (wOp fEq (wVar 4) (wLst wNil)))
 (wRet (wUn lW (wVar 2)))
 eU)
 (wFrz 4 (wFor (cN (wVar 4)) (gN 3)
 (wFrz 3 (yV (wpN 2) (wVar 3))))))))))
structure Prn (l:List Stp) (ps out:List P2):Prop where
 sub:∀ p∈out,p∈ps
 both:∀ p∈out,Both l out p
 max:∀ T:List P2,(∀ p∈T,p∈ps)->(∀ p∈T,Both l T p)->∀ p∈T,p∈out
 len:out.length<=ps.length
theorem Prn.diag {many:Int} {l:List Stp} {ps out:List P2} (h:Prn l ps out) (hin:StIn many l) (m1:1<=many) (all:∀ x,InP many x->x∈ps):((0,0):P2)∈out:=by
 have hm:∀ k:Int,0<=k->k<many->((k,k):P2)∈(List.range many.toNat).map fun i:Nat=>((((i:Nat):Int),((i:Nat):Int)):P2):=fun k a b=>xao.mpr ⟨k.toNat,xa6.mpr (by lia),by rw [xa4 a]⟩
 refine h.max _ (fun p hp=>?_) (fun p hp=>?_) _ (hm 0 (by lia) (by lia))
 ·obtain ⟨i,hi,rfl⟩:=xao.mp hp
  have:=xa6.mp hi
  exact all _ ⟨⟨by lia,by lia⟩,by lia,by lia⟩
 ·obtain ⟨i,hi,rfl⟩:=xao.mp hp
  exact ⟨fun d e he=>⟨e,he,hm e (hin _ he).2.2.2.1 (hin _ he).2.2.2.2⟩,fun d o ho=>⟨o,ho,hm o (hin _ ho).2.2.2.1 (hin _ ho).2.2.2.2⟩⟩
def a_:SpD:=fun ds Q=>∃ (many:Int) (l:List Stp) (ps:List P2),ds=[exD many l,.list (ps.map p2D)]/\ps.length<=10000/\(∀ p∈ps,InP many p)/\∀ out,Prn l ps out->Q (.ow true) (.list (out.map p2D))
theorem jz (ds Q) (h:a_ ds Q):ds.length=["_law_rows_here", "_law_some"].length:=by obtain ⟨_,_,_,rfl,_⟩:=h; rfl
theorem m7:∀ ds Q,a_ ds Q->eE { nx:=fun _=>Q .sh .non,rt:=Q } (bC 5 ds):=by
 rintro ds Q ⟨many,l,ps,rfl,hps,hr,h⟩
 unfold eE
 walk_at "q"
 refine aZ _ (fun i ρ=>∃ (ks:List P2) (o3:Option Sl),Dst (ps.take i) ks/\ρ=[some (.sh (exD many l)),some (.sh (.list (ps.map p2D))),some (.ow true (.dT (setP ks))),o3,none]) ⟨[],_,Dst.nil,rfl⟩ ?_ ?_
 ·rintro i x ρ hx ⟨ks,o3,hd,rfl⟩ N hN
  obtain ⟨p,q,rfl,hm,tk⟩:=rY hx
  have hkl:=hd.len
  rw [xax] at hkl
  walk_at "q"
  refine ⟨by rw [fM]; lia,?_⟩
  have e:=mK ks (p,q)
  unfold p2K at e
  rw [e]
  exact hN _ ⟨_,_,by rw [tk]; exact hd.put (p,q),rfl⟩
 rintro ρ ⟨ks0,o3,hd,rfl⟩
 rw [xab,xaQ] at hd
 walk_at "q"
 refine ⟨fun ρ=>∃ (ks:List P2) (o3 o4:Option Sl),(ks.Nodup/\(∀ p∈ks,p∈ps)/\(∀ T:List P2,(∀ p∈T,p∈ps)->(∀ p∈T,Both l T p)->∀ p∈T,p∈ks)/\ks.length<=ps.length)/\ρ=[some (.sh (exD many l)),some (.sh (.list (ps.map p2D))),some (.ow true (.dT (setP ks))),o3,o4],
  fun ρ=>match ρ with
   | [_,_,some (.ow _ (.dT l)),_,_]=>l.length
   | _=>0,⟨ks0,_,_,⟨hd.nd,fun p hp=>(hd.mem p).mp hp,fun T a _ p hp=>(hd.mem _).mpr (a p hp),hd.len⟩,rfl⟩,?_⟩
 rintro ρ ⟨ks,o3,o4,⟨hnd,hsub,hmax,hlen⟩,rfl⟩
 walk_at "q"
 rw [show List.map (fun kv:List Key × D=>D.tup (kv.1.map keyD)) (setP ks)=ks.map p2D from xF ks]
 refine cU (onP fun p=>!nj l ks p) (fun x=>x) (fun ρ=>∃ o,ρ=[o,some (.sh (.dT (setP ks))),some (.sh (exD many l))]) _ _ _ ⟨_,rfl⟩ ?_ ?_
 ·rintro x hx ρ ⟨o,rfl⟩ N1 N2 n1 n2
  obtain ⟨c,hc,rfl⟩:=xao.mp hx
  rw [show p2D c=.tup [.int c.1,.int c.2] from rfl] at *
  walk_at "q"
  refine ⟨many,l,ks,c,rfl,hr c (hsub c hc),fun b hb=>?_⟩
  walk_at "q"
  have eb:b=nj l ks c:=by rw [xa7,oE]; exact hb
  subst eb
  cases e:nj l ks c with
  | true=>exact n1 _ ⟨_,rfl⟩ (by show (!nj l ks c)=false; rw [e]; rfl)
  | false=>exact ⟨.inl rfl,n2 _ ⟨_,rfl⟩ (by show (!nj l ks c)=true; rw [e]; rfl)⟩
 rw [vL]
 have hg:∀ x,x∈ks.filter (fun p=>!nj l ks p)↔x∈ks/\¬ Both l ks x:=fun x=>by
  rw [xbd,<- oE (l:=l) (ks:=ks) (p:=x)]
  simp
 have gnd:(ks.filter fun p=>!nj l ks p).Nodup:=hnd.sublist List.filter_sublist
 generalize ks.filter (fun p=>!nj l ks p)=gone at hg gnd ⊢
 refine ⟨zT _ 10,rfl,?_⟩
 rw [uF]
 by_cases ge:gone=[]
 ·refine R.T (decide_eq_true ge) ?_
  walk_at "q"
  have hb:∀ p∈ks,Both l ks p:=fun p hp=>Classical.byContradiction fun z=>by
   have:=(hg p).mpr ⟨hp,z⟩
   rw [ge] at this
   cases this
  refine yX fun out pm=>?_
  rw [vJ]
  exact h out ⟨fun p hp=>hsub p (pm.mem_iff.mp hp),fun p hp=>(Both.congr fun x=>pm.mem_iff).mpr (hb p (pm.mem_iff.mp hp)),fun T a b p hp=>pm.mem_iff.mpr (hmax T a b p hp),by rw [pm.length_eq]; exact hlen⟩
 ·refine R.F (decide_eq_false ge) ?_
  walk_at "q"
  refine aZ _ (fun i ρ=>∃ (ks':List P2) (o3:Option Sl),ks'.Nodup/\(∀ x,x∈ks'↔x∈ks/\x∉gone.take i)/\ks'.length+i=ks.length/\ρ=[some (.sh (exD many l)),some (.sh (.list (ps.map p2D))),some (.ow true (.dT (setP ks'))),o3,some (.sh (.list (gone.map p2D)))]) ⟨ks,_,hnd,(fun x=>by simp),rfl,rfl⟩ ?_ ?_
  ·rintro i x ρ hx ⟨ks',o3,nd',hm,hl',rfl⟩ N hN
   obtain ⟨p,q,rfl,hgm,tk⟩:=rY hx
   walk_at "q"
   have hn:(p,q)∉gone.take i:=fun z=>by
    have:(gone.take (i+1)).Nodup:=gnd.sublist (List.take_sublist _ _)
    rw [tk,xam] at this
    exact this.2.2 _ z _ (xaJ.mpr rfl) rfl
   refine ⟨by rw [fC]; exact nu.mpr ((hm _).mpr ⟨((hg _).mp hgm).1,hn⟩),fun j d hj=>?_⟩
   have hj':ks'[j]? = some (p,q):=by
    unfold setP at hj
    rw [xaE] at hj
    obtain ⟨y,hy,e⟩:=xbp.mp hj
    rw [hy,vp (q:=(p,q)) (Prod.mk.inj e).1]
   rw [lC]
   have hjl:=(xan.mp hj').1
   refine hN _ ⟨_,_,nd'.sublist (List.eraseIdx_sublist _ _),fun x=>?_,by rw [List.length_eraseIdx_of_lt hjl]; lia,rfl⟩
   rw [xO ks' j _ nd' hj',hm,tk,xah,xaJ,not_or,and_assoc]
  ·rintro ρ ⟨ks',o3,nd',hm,hl',rfl⟩
   rw [xab] at hm hl'
   rw [xaQ] at hm
   have gl:0<gone.length:=List.length_pos_iff.mpr ge
   refine ⟨⟨ks',_,_,⟨nd',fun p hp=>hsub p ((hm p).mp hp).1,fun T a b p hp=>(hm _).mpr ⟨hmax T a b p hp,fun y=>((hg _).mp y).2 ((b p hp).mono (hmax T a b))⟩,by lia⟩,rfl⟩,?_⟩
   show (setP ks').length<(setP ks).length
   rw [fM,fM]
   lia
def iw:WS :=
 (wSeq (wSet 2 jQ)
 (wSeq (wFrz 1 (wFor (cN (wVar 1)) (gN 3)
 (oH (wpN 2) (wVar 3) (wC (.bl true)))))
 (wRet (wOp (fIn true) (wC (.bl false)) (eG (gZ (wVar 1)) (gT 2 (bh (gN 0) (bh (gN 1) il))) wYes (aY aK (aj (wVar 3) (aj (wVar 0) (aj (wVar 1) (aj (wVar 2) wNil))))) 2 [2,0])))))
def cF:SpD:=fun ds Q=>∃ (many:Int) (l:List Stp) (ps:List P2),ds=[exD many l,.list (ps.map p2D)]/\ps.length<=10000/\(∀ p∈ps,InP many p)/\∀ b,(b=true↔∀ p∈ps,Both l ps p)->Q .sh (.bl b)
theorem n_ (ds Q) (h:cF ds Q):ds.length=["_law_rows_here", "_law_some"].length:=by obtain ⟨_,_,_,rfl,_⟩:=h; rfl
theorem vI (bs:List Bool):inD (.bl false) (bs.map D.bl)=bs.any (fun b=>!b):=by
 unfold inD
 rw [List.any_map]
 congr 1
 funext b
 cases b <;> rfl
theorem sI:∀ ds Q,cF ds Q->iw { nx:=fun _=>Q .sh .non,rt:=Q } (bC 4 ds):=by
 rintro ds Q ⟨many,l,ps,rfl,hps,hr,h⟩
 unfold iw
 walk_at "q"
 refine aZ _ (fun i ρ=>∃ (ks:List P2) (o3:Option Sl),Dst (ps.take i) ks/\ρ=[some (.sh (exD many l)),some (.sh (.list (ps.map p2D))),some (.ow true (.dT (setP ks))),o3]) ⟨[],_,Dst.nil,rfl⟩ ?_ ?_
 ·rintro i x ρ hx ⟨ks,o3,hd,rfl⟩ N hN
  obtain ⟨p,q,rfl,hm,tk⟩:=rY hx
  have hkl:=hd.len
  rw [xax] at hkl
  walk_at "q"
  refine ⟨by rw [fM]; lia,?_⟩
  have e:=mK ks (p,q)
  unfold p2K at e
  rw [e]
  exact hN _ ⟨_,_,by rw [tk]; exact hd.put (p,q),rfl⟩
 rintro ρ ⟨ks,o3,hd,rfl⟩
 rw [xab,xaQ] at hd
 walk_at "q"
 refine cu (fun n out=>∃ bs:List Bool,out=bs.map .bl/\(∀ i (p:P2),i<n->ps[i]? = some p->∃ b,bs[i]? = some b/\(b=true↔Both l ks p))/\bs.length=n) (fun ρ=>∃ o0 o1,ρ=[o0,o1,some (.sh (.dT (setP ks))),some (.sh (exD many l))]) _ 0 [] _ _ ⟨_,_,rfl⟩ ⟨[],rfl,(fun i p z=>by lia),rfl⟩ ?_ ?_
 ·rintro j y hy ρ ⟨o0,o1,rfl⟩ out ⟨bs,rfl,hb,hbl⟩ N1 N2 hN2
  rw [xaE] at hy
  cases ej:ps[j]? with
  | none=>rw [ej] at hy; cases hy
  | some p =>
  rw [ej] at hy
  cases hy
  rw [show p2D p=.tup [.int p.1,.int p.2] from rfl]
  walk_at "q"
  refine ⟨many,l,ks,p,rfl,hr p (xaH ej),fun b hb2=>?_⟩
  walk_at "q"
  refine ⟨.inl rfl,hN2 _ _ ⟨_,_,rfl⟩ ⟨bs++[b],by simp,fun i q hi eq=>?_,by simp [hbl]⟩⟩
  by_cases hij:i<j
  ·obtain ⟨b',e1,e2⟩:=hb i q (by lia) eq
   exact ⟨b',by rw [xbg (by lia)]; exact e1,e2⟩
  ·have:i=j:=by lia
   subst this
   rw [ej] at eq
   cases eq
   exact ⟨b,by rw [xaR (by lia)]; simp [hbl],hb2⟩
 rintro out ⟨bs,e,hb,hbl⟩
 simp only [xbn] at e
 subst e
 rw [xab] at hb hbl
 refine ⟨rfl,?_,h _ ?_⟩
 ·rw [List.all_map]
  exact xb5.mpr fun _ _=>rfl
 ·rw [vI]
  constructor
  ·intro z p hp
   obtain ⟨i,hi⟩:=xce.mp hp
   have hi':=(xan.mp hi).1
   obtain ⟨b,e1,e2⟩:=hb i p (by lia) hi
   have eb:b=true:=by
    cases b with
    | true=>rfl
    | false =>
     have:bs.any (fun b=>!b)=true:=xa1.mpr ⟨false,xaH e1,rfl⟩
     rw [this] at z
     cases z
   exact (Both.congr hd.mem).mp (e2.mp eb)
  ·intro z
   cases e:bs.any (fun b=>!b) with
   | false=>rfl
   | true =>
    obtain ⟨b,hb1,eb⟩:=xa1.mp e
    obtain ⟨i,hi⟩:=xce.mp hb1
    have hi':=(xan.mp hi).1
    obtain ⟨b',e1,e2⟩:=hb i (ps[i]'(by lia)) (by lia) (xaX (by lia))
    rw [hi] at e1
    cases e1
    rw [e2.mpr ((Both.congr hd.mem).mpr (z _ (xcd _)))] at eb
    cases eb
def ir:WS :=
 (wSeq (lF aX (aj (wVar 0) (aj (wVar 1) wNil)))
 (wRet (uG (aY aM (aj (wVar 0) (aj (wVar 1) wNil))) (aY aM (aj (wVar 0) (aj (eG (gZ (wVar 1)) (gT 2 (bh (gN 0) (bh (gN 1) il))) wYes (wTup (aj (wVar 1) (aj (wVar 0) wNil))) 2 []) wNil))))))
def bA:SpD:=fun ds Q=>∃ (many:Int) (l:List Stp) (ps:List P2),ds=[mD many l,.list (ps.map p2D)]/\(0<=many/\many<=1000)/\StIn many l/\l.length<=1000/\ps.length<=10000/\((∀ p∈ps,InP many p)->∀ b,(b=true↔∀ p∈ps,Both l ps p)->Q .sh (.bl b))/\((∃ p∈ps,¬ InP many p)->Q (.ow false) (.str "NoState"))
theorem n8 (ds Q) (h:bA ds Q):ds.length=["m", "pairs"].length:=by obtain ⟨_,_,_,rfl,_⟩:=h; rfl
def swD:D->D
 | .tup [a,b]=>.tup [b,a]
 | d=>d
theorem zm (ps:List P2):(((ps.map p2D).filter fun _=>true).map swD)=(swp ps).map p2D:=by
 rw [xck.mpr fun _ _=>rfl,xaz]
 unfold swp
 rw [xaz]
 rfl
theorem BW {many:Int} {ps:List P2} (h:∀ p∈ps,InP many p):∀ p∈swp ps,InP many p:=by
 rintro ⟨a,b⟩ hp
 have:=h _ (jO.mp hp)
 exact ⟨this.2,this.1⟩
theorem zQ (ps:List P2):(swp ps).length=ps.length:=by simp [swp]
theorem rF:∀ ds Q,bA ds Q->ir { nx:=fun _=>Q .sh .non,rt:=Q } (bC 2 ds):=by
 rintro ds Q ⟨many,l,ps,rfl,hm,hin,hl,hps,h1,h2⟩
 unfold ir mD
 walk_at "q"
 refine ⟨many,l,ps,rfl,fun a=>?_,fun a=>?_⟩
 ·walk_at "q"
  refine ⟨many,l,ps,rfl,hm,hin,hl,hps,a,fun b hb=>?_⟩
  walk_at "q"
  refine R.B (fun eb=>?_) fun eb=>?_
  ·walk_at "q"
   refine cU (fun _=>true) swD (fun ρ=>∃ o1 o2,ρ=[o1,o2]) _ _ _ ⟨_,_,rfl⟩ ?_ ?_
   ·rintro x hx ρ ⟨o1,o2,rfl⟩ N1 N2 n1 n2
    obtain ⟨c,hc,rfl⟩:=xao.mp hx
    rw [show p2D c=.tup [.int c.1,.int c.2] from rfl]
    walk_at "q"
    exact ⟨.inl rfl,n2 _ ⟨_,_,rfl⟩ rfl⟩
   rw [zm]
   refine ⟨many,l,swp ps,rfl,hm,hin,hl,by rw [zQ]; exact hps,BW a,fun b2 hb2=>?_⟩
   walk_at "q"
   exact h1 a b2 (by rw [<- vh,hb2]; exact ⟨fun z=>⟨hb.mp eb,z⟩,fun z=>z.2⟩)
  ·walk_at "q"
   exact h1 a false ⟨(fun z=>by cases z),fun z=>by rw [<- eb]; exact hb.mpr (vh.mpr z).1⟩
 ·walk_at "q"
  exact h2 a
def bR:WS :=
 (wSeq (wSet 7 (aY cg (aj (aY aH (aj (wVar 0) (aj (wC (.int 1)) wNil))) wNil)))
 (wSeq (wSet 8 jQ)
 (wSeq (wFor (cC (wOp yp (wVar 6) (wOp fDiv (wVar 1) (wOp fMul (wVar 3) (wVar 3))))) (gN 9)
 (wSeq (wSet 10 (aY aF (aj (wVar 0) (aj (wVar 9) (aj (wC (.int 0)) (aj (wVar 4) wNil))))))
 (wSeq (wSet 11 (aY aF (aj (wVar 0) (aj (wVar 9) (aj (wC (.int 1)) (aj (wVar 4) wNil))))))
 (wSeq (wSet 12 (wOp fIx (wVar 7) (aY aF (aj (wVar 0) (aj (wVar 9) (aj (wC (.int 2)) (aj (wUn fLen (wVar 7)) wNil)))))))
 (wSeq (wSet 13 (aY aF (aj (wVar 0) (aj (wVar 9) (aj (wC (.int 3)) (aj (wC (.int 3)) wNil))))))
 (wFor (cC (wVar 3)) (gN 14)
 (wFor (cC (wVar 3)) (gN 15)
 (wIfS (wOr (wB (wOp fEq (wVar 13) (wC (.int 2)))) (wB (wOp fEq (wVar 15) (wOp fMod (wOp fAdd (wVar 13) (wVar 14)) (wVar 3)))))
 (oH (wpN 8) (wTup (aj (wOp fAdd (wVar 10) (wOp fMul (wVar 4) (wVar 14))) (aj (wVar 12) (aj (wOp fAdd (wVar 11) (wOp fMul (wVar 4) (wVar 15))) wNil)))) (wC (.bl true)))
 eU))))))))
 (wSeq (wFor (cC (wOp fSub (wOp fMul (wVar 3) (wVar 4)) (wC (.int 1)))) (gN 9)
 (wIfS (wAnd (wB (wOp fEq (aY az (aj (wVar 2) (aj (wC (.int 4)) (aj (wC (.int 3)) wNil)))) (wC (.int 1)))) (wB (wOp fGt (wOp fMod (wOp fAdd (wVar 9) (wC (.int 1))) (wVar 4)) (wC (.int 0)))))
 (oH (wpN 8) (wTup (aj (wVar 9) (aj (wOp fIx (wVar 7) (wC (.int 0))) (aj (wOp fAdd (wVar 9) (wC (.int 1))) wNil)))) (wC (.bl true)))
 eU))
 (wRet (wTup (aj (wOp fMul (wVar 3) (wVar 4)) (aj (wUn lW (wVar 8)) wNil))))))))
def bU:WS :=
 (wSeq (wSet 6 (aY az (aj (wVar 2) (aj (wC (.int 3)) (aj (wOp fMul (wC (.int 3)) (wVar 4)) wNil)))))
 (wSeq (wIfS (wB (wOp fEq (wVar 5) (wC (.int 2))))
 (wFrz 1 (wSet 6 (wVar 1)))
 eU)
 bR))
def dC:WS :=
 (wSeq (wSet 2 (aY aH (aj (wVar 0) (aj (wC (.int 0)) wNil))))
 (wSeq (wSet 3 (wOp fAdd (wC (.int 1)) (wOp fDiv (aY az (aj (wVar 2) (aj (wC (.int 0)) (aj (wC (.int 3)) wNil)))) (wC (.int 2)))))
 (wSeq (wSet 4 (wOp fAdd (wC (.int 1)) (aY az (aj (wVar 2) (aj (wC (.int 1)) (aj (wC (.int 8)) wNil))))))
 (wSeq (wSet 5 (aY az (aj (wVar 2) (aj (wC (.int 2)) (aj (wC (.int 8)) wNil)))))
 (wSeq (wIfS (wB (wOp fEq (wVar 5) (wC (.int 1))))
 (wSet 4 (wOp fDiv (wC (.int 20)) (wVar 3)))
 eU)
 (wSeq (wIfS (wB (wOp fEq (wVar 5) (wC (.int 3))))
 (wSet 4 (wOp fAdd (wC (.int 1)) (aY az (aj (wVar 2) (aj (wC (.int 5)) (aj (wOp fDiv (wC (.int 20)) (wVar 3)) wNil))))))
 eU)
 bU))))))
def bu:SpD:=fun ds Q=>∃ (ns:List Int) (most:Int),ds=[.list (ns.map .int),.int most]/\(1<=most/\most<=100)/\∀ (many:Int) (steps:List Stp),1<=many->many<=20->StIn many steps->steps.length<=500->steps.Pairwise (fun a b=>ltP a b=true)->Q (.ow true) (mD many steps)
theorem jb (ds Q) (h:bu ds Q):ds.length=["_law_script", "_law_most"].length:=by obtain ⟨_,_,rfl,_⟩:=h; rfl
theorem eN {Q:Md->D->Prop} {ns:List Int} {most shape copies states size many:Int} (hc:copies=1\/copies=2) (hs:1<=states) (hcs:copies * states<=20) (hmm:0<=many/\many<=1000) (hmo:1<=most/\most<=100)
  (h:∀ (many:Int) (steps:List Stp),1<=many->many<=20->StIn many steps->steps.length<=500->steps.Pairwise (fun a b=>ltP a b=true)->Q (.ow true) (mD many steps)) :
  bR { nx:=fun _=>Q .sh .non,rt:=Q } [some (.sh (.list (ns.map .int))),some (.sh (.int most)),some (.sh (.int shape)),some (.sh (.int copies)),some (.sh (.int states)),some (.sh (.int size)),some (.sh (.int many)),none,none,none,none,none,none,none,none,none]:=by
 have hst:states<=20:=by rcases hc with rfl | rfl <;> lia
 unfold bR
 walk_at "q"
 refine ⟨ns,1,rfl,by decide,?_⟩
 generalize ns.getD _ 0=c1
 walk_at "q"
 refine ⟨c1,rfl,fun names n1 n7 hd=>?_⟩
 walk_at "q"
 have hcc:copies * copies=1\/copies * copies=4:=by rcases hc with rfl | rfl <;> decide
 refine ⟨bD (by lia) (by lia),by lia,?_⟩
 have hmin:∃ r:Int,(if most / (copies * copies)<many then most / (copies * copies) else many)=r/\0<=r/\r<=100:=by
  refine ⟨_,rfl,?_⟩
  have:0<=most / (copies * copies)/\most / (copies * copies)<=100:=by rcases hcc with e | e <;> rw [e] <;> lia
  split <;> lia
 obtain ⟨r,er,r0,r1⟩:=hmin
 rw [er]
 refine ⟨by lia,by lia,?_⟩
 refine aZ _ (fun i ρ=>∃ (kvs:Kn) (o9 o10 o11 o12 o13 o14 o15:Option Sl),StD (StOk (copies * states)) kvs/\kvs.length<=4 * i/\ρ=[some (.sh (.list (ns.map .int))),some (.sh (.int most)),some (.sh (.int shape)),some (.sh (.int copies)),some (.sh (.int states)),some (.sh (.int size)),some (.sh (.int many)),some (.ow true (.list (names.map .str))),some (.ow true (.dT kvs)),o9,o10,o11,o12,o13,o14,o15]) ⟨[],_,_,_,_,_,_,_,StD.nil,xag _,rfl⟩ ?_ ?_
 ·rintro i x ρ hx ⟨kvs,o9,o10,o11,o12,o13,o14,o15,hk,hkl,rfl⟩ N hN
  obtain ⟨hi,rfl⟩:=bW hx
  walk_at "q"
  refine ⟨ns,_,0,states,rfl,by lia,by decide,by lia,fun one a0 a1=>?_⟩
  walk_at "q"
  refine ⟨ns,_,1,states,rfl,by lia,by decide,by lia,fun two b0 b1=>?_⟩
  walk_at "q"
  refine ⟨ns,_,2,(names.length:Nat),rfl,by lia,by decide,by lia,fun w w0 w1=>?_⟩
  obtain ⟨n,hn,en⟩:=qi (names:=names) w0 w1
  walk_at "q"
  refine ⟨_,en,?_⟩
  walk_at "q"
  refine ⟨ns,_,3,3,rfl,by lia,by decide,by decide,fun way y0 y1=>?_⟩
  walk_at "q"
  refine ⟨by lia,by lia,?_⟩
  refine aZ _ (fun j ρ=>∃ (kvs:Kn) (o14 o15:Option Sl),StD (StOk (copies * states)) kvs/\kvs.length<=4 * i+2 * j/\ρ=[some (.sh (.list (ns.map .int))),some (.sh (.int most)),some (.sh (.int shape)),some (.sh (.int copies)),some (.sh (.int states)),some (.sh (.int size)),some (.sh (.int many)),some (.ow true (.list (names.map .str))),some (.ow true (.dT kvs)),some (.sh (.int (0+(i:Nat)))),some (.sh (.int one)),some (.sh (.int two)),some (.sh (.str n)),some (.sh (.int way)),o14,o15]) ⟨kvs,_,_,hk,by lia,rfl⟩ ?_ ?_
  ·clear hk hkl
   rintro j x ρ hx ⟨kvs,o14,o15,hk,hkl,rfl⟩ N hN
   obtain ⟨hj,rfl⟩:=bW hx
   walk_at "q"
   refine ⟨by lia,by lia,?_⟩
   refine aZ _ (fun l ρ=>∃ (kvs:Kn) (o15:Option Sl),StD (StOk (copies * states)) kvs/\kvs.length<=4 * i+2 * j+l/\ρ=[some (.sh (.list (ns.map .int))),some (.sh (.int most)),some (.sh (.int shape)),some (.sh (.int copies)),some (.sh (.int states)),some (.sh (.int size)),some (.sh (.int many)),some (.ow true (.list (names.map .str))),some (.ow true (.dT kvs)),some (.sh (.int (0+(i:Nat)))),some (.sh (.int one)),some (.sh (.int two)),some (.sh (.str n)),some (.sh (.int way)),some (.sh (.int (0+(j:Nat)))),o15]) ⟨kvs,_,hk,by lia,rfl⟩ ?_ ?_
   ·clear hk hkl
    rintro l x ρ hx ⟨kvs,o15,hk,hkl,rfl⟩ N hN
    obtain ⟨hl,rfl⟩:=bW hx
    have go:CMul states (0+(j:Nat))/\CMul states (0+(l:Nat))/\kvs.length<16777216/\N [some (.sh (.list (ns.map .int))),some (.sh (.int most)),some (.sh (.int shape)),some (.sh (.int copies)),some (.sh (.int states)),some (.sh (.int size)),some (.sh (.int many)),some (.ow true (.list (names.map .str))),some (.ow true (.dT (putG kvs (stpK (one+states * (0+(j:Nat)),n,two+states * (0+(l:Nat)))) (.bl true)))),some (.sh (.int (0+(i:Nat)))),some (.sh (.int one)),some (.sh (.int two)),some (.sh (.str n)),some (.sh (.int way)),some (.sh (.int (0+(j:Nat)))),some (.sh (.int (0+(l:Nat))))]:=by
     have c1:=sY (one:=one) (states:=states) (j:=0+(j:Nat)) (copies:=copies) a0 a1 (by lia) (by lia)
     have c2:=sY (one:=two) (states:=states) (j:=0+(l:Nat)) (copies:=copies) b0 b1 (by lia) (by lia)
     refine ⟨bD (by lia) (by lia),bD (by lia) (by lia),by lia,?_⟩
     have:=jl kvs (stpK (one+states * (0+(j:Nat)),n,two+states * (0+(l:Nat)))) (D.bl true)
     exact hN _ ⟨_,_,hk.put (s:=(one+states * (0+(j:Nat)),n,two+states * (0+(l:Nat)))) ⟨c1.1,c1.2,hd n hn,c2.1,c2.2⟩,by omega,rfl⟩
    walk_at "q"
    refine R.D (fun e=>?_) fun e=>?_
    ·walk_at "q"
     exact go
    ·walk_at "q"
     refine ⟨by lia,R.D (fun e=>?_) fun e=>?_⟩
     ·walk_at "q"
      exact go
     ·walk_at "q"
      exact hN _ ⟨kvs,_,hk,by lia,rfl⟩
   ·clear hk hkl
    rintro ρ ⟨kvs,o15,hk,hkl,rfl⟩
    rw [bM] at hkl
    exact hN _ ⟨kvs,_,_,hk,by lia,rfl⟩
  ·clear hk hkl
   rintro ρ ⟨kvs,o14,o15,hk,hkl,rfl⟩
   rw [bM] at hkl
   exact hN _ ⟨kvs,_,_,_,_,_,_,_,hk,by lia,rfl⟩
 ·rintro ρ ⟨kvs,o9,o10,o11,o12,o13,o14,o15,hk,hkl,rfl⟩
  rw [bM] at hkl
  walk_at "q"
  have hcs1:1<=copies * states:=by rcases hc with rfl | rfl <;> lia
  refine ⟨bD (by lia) (by lia),by lia,by lia,?_⟩
  refine aZ _ (fun i ρ=>∃ (kvs:Kn) (o9:Option Sl),StD (StOk (copies * states)) kvs/\kvs.length<=400+i/\ρ=[some (.sh (.list (ns.map .int))),some (.sh (.int most)),some (.sh (.int shape)),some (.sh (.int copies)),some (.sh (.int states)),some (.sh (.int size)),some (.sh (.int many)),some (.ow true (.list (names.map .str))),some (.ow true (.dT kvs)),o9,o10,o11,o12,o13,o14,o15]) ⟨kvs,_,hk,by lia,rfl⟩ ?_ ?_
  ·clear hk hkl
   rintro i x ρ hx ⟨kvs,o9,hk,hkl,rfl⟩ N hN
   obtain ⟨hi,rfl⟩:=bW hx
   walk_at "q"
   refine ⟨_,4,3,rfl,by decide,by decide,fun q q0 q1=>?_⟩
   walk_at "q"
   refine R.D (fun e=>?_) fun e=>?_
   ·walk_at "q"
    refine ⟨by lia,R.D (fun e2=>?_) fun e2=>?_⟩
    ·obtain ⟨n,hn,en⟩:=qi (names:=names) (i:=0) (by decide) (by lia)
     walk_at "q"
     refine ⟨_,en,?_⟩
     walk_at "q"
     refine ⟨by lia,?_⟩
     have:=jl kvs (stpK (0+(i:Nat),n,0+(i:Nat)+1)) (D.bl true)
     exact hN _ ⟨_,_,hk.put (s:=(0+(i:Nat),n,0+(i:Nat)+1)) ⟨(by lia : (0:Int)<=0+(i:Nat)),(by lia : 0+((i:Nat):Int)<copies * states),hd n hn,(by lia : (0:Int)<=0+(i:Nat)+1),(by lia : 0+((i:Nat):Int)+1<copies * states)⟩,by lia,rfl⟩
    ·walk_at "q"
     exact hN _ ⟨kvs,_,hk,by lia,rfl⟩
   ·walk_at "q"
    exact hN _ ⟨kvs,_,hk,by lia,rfl⟩
  ·clear hk hkl
   rintro ρ ⟨kvs,o9,hk,hkl,rfl⟩
   rw [bM] at hkl
   walk_at "q"
   refine ⟨bD (by lia) (by lia),?_⟩
   refine hk.zG fun steps pm hP pw hlen=>?_
   rw [rZ]
   exact h _ steps (by rcases hc with rfl | rfl <;> lia) hcs hP (by lia) pw
theorem cQ {Q:Md->D->Prop} {ns:List Int} {most shape copies states size:Int} (hc:copies=1\/copies=2) (hs:1<=states) (hcs:copies * states<=20) (hmo:1<=most/\most<=100)
  (h:∀ (many:Int) (steps:List Stp),1<=many->many<=20->StIn many steps->steps.length<=500->steps.Pairwise (fun a b=>ltP a b=true)->Q (.ow true) (mD many steps)) :
  bU { nx:=fun _=>Q .sh .non,rt:=Q } [some (.sh (.list (ns.map .int))),some (.sh (.int most)),some (.sh (.int shape)),some (.sh (.int copies)),some (.sh (.int states)),some (.sh (.int size)),none,none,none,none,none,none,none,none,none,none]:=by
 have hst:states<=20:=by rcases hc with rfl | rfl <;> lia
 obtain ⟨w8,e8⟩:∃ w8,w8=bR:=⟨_,rfl⟩
 unfold bU
 rw [<- e8]
 walk_at "q"
 refine ⟨iz (by lia) (by lia),_,3,_,rfl,by decide,by lia,fun many m0 m1=>?_⟩
 walk_at "q"
 refine R.D (fun e=>?_) fun e=>?_
 ·walk_at "q"
  rw [e8]
  exact eN hc hs hcs ⟨by lia,by lia⟩ hmo h
 ·walk_at "q"
  rw [e8]
  exact eN hc hs hcs ⟨by lia,by lia⟩ hmo h
theorem lg:∀ ds Q,bu ds Q->dC { nx:=fun _=>Q .sh .non,rt:=Q } (bC 16 ds):=by
 rintro ds Q ⟨ns,most,rfl,hmo,h⟩
 obtain ⟨w6,e6⟩:∃ w6,w6=bU:=⟨_,rfl⟩
 unfold dC
 rw [<- e6]
 walk_at "q"
 refine ⟨ns,0,rfl,by decide,?_⟩
 generalize ns.getD _ 0=shape
 walk_at "q"
 refine ⟨shape,0,3,rfl,by decide,by decide,fun c c0 c1=>?_⟩
 walk_at "q"
 refine ⟨shape,1,8,rfl,by decide,by decide,fun st s0 s1=>?_⟩
 walk_at "q"
 refine ⟨shape,2,8,rfl,by decide,by decide,fun size z0 z1=>?_⟩
 walk_at "q"
 have hc:1+c / 2=1\/1+c / 2=2:=by lia
 generalize 1+c / 2=copies at hc ⊢
 refine R.D (fun e=>?_) fun e=>?_
 ·walk_at "q"
  refine ⟨by lia,?_⟩
  refine R.F (by simp; lia) ?_
  walk_at "q"
  rw [e6]
  exact cQ hc (by rcases hc with rfl | rfl <;> lia) (by rcases hc with rfl | rfl <;> lia) hmo h
 ·walk_at "q"
  refine R.D (fun e=>?_) fun e=>?_
  ·walk_at "q"
   refine ⟨by lia,?_⟩
   refine ⟨shape,5,_,rfl,by decide,by rcases hc with rfl | rfl <;> lia,fun q q0 q1=>?_⟩
   walk_at "q"
   rw [e6]
   exact cQ hc (by lia) (by rcases hc with rfl | rfl <;> lia) hmo h
  ·walk_at "q"
   rw [e6]
   exact cQ hc (by lia) (by rcases hc with rfl | rfl <;> lia) hmo h
def dG:WS :=
 (wSeq (wSet 2 (wC .non))
 (zN (lF bA (aj (wVar 0) (aj (wVar 1) wNil))) (fun a=>[none,none,some (.xc a),none]) (fun a n=>(wRet (wIsx 2 a (decide (n = "NoState")))))))
def bx:SpD:=fun ds Q=>∃ (many:Int) (l:List Stp) (ps:List P2),ds=[mD many l,.list (ps.map p2D)]/\(0<=many/\many<=1000)/\StIn many l/\l.length<=1000/\ps.length<=10000/\(∃ p∈ps,¬ InP many p)/\Q .sh (.bl true)
theorem jj (ds Q) (h:bx ds Q):ds.length=["_law_m", "_law_some"].length:=by obtain ⟨_,_,_,rfl,_⟩:=h; rfl
theorem lz:∀ ds Q,bx ds Q->dG { nx:=fun _=>Q .sh .non,rt:=Q } (bC 4 ds):=by
 rintro ds Q ⟨many,l,ps,rfl,hm,hin,hl,hps,hx,h⟩
 unfold dG
 walk_at "q"
 refine ⟨many,l,ps,rfl,hm,hin,hl,hps,fun z=>?_,fun _=>?_⟩
 ·obtain ⟨p,hp,n⟩:=hx
  exact absurd (z p hp) n
 ·walk_at "q"
  exact fun _=>h
def jm:WS :=
 (wSeq (wSet 14 (aY aF (aj (wVar 0) (aj (wC (.int 82)) (aj (wC (.int 3)) (aj (wOp fPow (wC (.int 10)) (wC (.int 8))) wNil))))))
 (wSeq (wFrz 9 (wFor (cN (wVar 9)) (gN 11)
 (wSeq (wSet 15 (wOp fMod (wVar 8) (wOp fAdd (wUn fLen (wVar 11)) (wC (.int 1)))))
 (wFrz 1 (wFor (cN (wLst (aj (wTup (aj (wOp fSub (wUn fNeg (wC (.int 1))) (wVar 14)) (aj (wC (.int 0)) wNil))) (aj (wTup (aj (wOp fAdd (wVar 1) (wVar 14)) (aj (wOp fMod (wVar 8) (wVar 1)) wNil))) (aj (wTup (aj (wOp fMod (wVar 8) (wVar 1)) (aj (wVar 1) wNil))) (aj (wTup (aj (wC (.int 0)) (aj (wUn fNeg (wC (.int 1))) wNil))) wNil)))))) (gN 16)
 (wFrz 16 (wIfS (wNot (wB (aY bx (aj (wVar 10) (aj (wOp fAdd (wOp fAdd (wSl (wVar 11) gw (lA (wVar 15))) (wLst (aj (wVar 16) wNil))) (wSl (wVar 11) (lA (wVar 15)) gw)) wNil)))))
 (wRet (wC (.bl false)))
 eU)))))))
 (wFrz 2 (wFrz 1 (wRet (uG (wOp fIsB (qQ bA (aj (wVar 10) (aj (wUn nR (wVar 4)) wNil))) (wC (.bl true))) (wOp fEq (wVar 10) (wTup (aj (wVar 1) (aj (wVar 2) wNil))))))))))
def lX:WS :=
 (wSeq (wFrz 1 (wSet 10 (wTup (aj (wVar 1) (aj (wUn nR (wVar 2)) wNil)))))
 (wSeq (wFrz 9 (wFor (cN (wVar 9)) (gN 11)
 (wSeq (wSet 12 (wUn nR (wVar 11)))
 (wSeq (wSet 13 (qQ bA (aj (wVar 10) (aj (wVar 12) wNil))))
 (wIfS (wOr (wNot (wB (wUn (fIsi "bool") (wVar 13)))) (wOr (wB (wOp fNe (wVar 13) (aY cF (aj (wVar 3) (aj (wVar 11) wNil))))) (wB (wOp fNe (wVar 12) (wVar 11)))))
 (wRet (wC (.bl false)))
 eU)))))
 jm))
def mR:WS :=
 (wSeq (wSet 7 (eG (cC (wVar 1)) (gN 0) wYes (wTup (aj (wVar 0) (aj (wVar 0) wNil))) 1 []))
 (wSeq (wSet 8 (aY aF (aj (wVar 0) (aj (wC (.int 81)) (aj (wC (.int 2)) (aj (wUn fLen (wVar 4)) wNil))))))
 (wSeq (wFrz 5 (wFrz 4 (wSet 9 (wLst (aj (wVar 5) (aj (wOp fAdd (wVar 7) (wVar 5)) (aj (aY a_ (aj (wVar 3) (aj (wOp fAdd (wVar 7) (wVar 5)) wNil))) (aj (wVar 4) (aj (wOp fAdd (wSl (wVar 4) gw (lA (wVar 8))) (wSl (wVar 4) (lA (wOp fAdd (wVar 8) (wC (.int 1)))) gw)) wNil)))))))))
 (wSeq (wFrz 9 (wSet 9 (wOp fAdd (wVar 9) (wFz (wLst (aj (wOp fAdd (wVar 4) (wVar 5)) (aj (wOp fAdd (wSl (wVar 4) (lA (wVar 8)) gw) (wUn jq (wVar 4))) (aj (wLst wNil) wNil))))))))
 lX))))
def m_:WS :=
 (wSeq (wSet 5 (wLst wNil))
 (wSeq (wFor (cC (aY aF (aj (wVar 0) (aj (wC (.int 80)) (aj (wC (.int 1)) (aj (wC (.int 13)) wNil)))))) (gN 6)
 (wApp (wpN 5) (wTup (aj (aY aF (aj (wVar 0) (aj (wOp fAdd (wC (.int 90)) (wVar 6)) (aj (wC (.int 0)) (aj (wVar 1) wNil))))) (aj (aY aF (aj (wVar 0) (aj (wOp fAdd (wC (.int 90)) (wVar 6)) (aj (wC (.int 1)) (aj (wVar 1) wNil))))) wNil)))))
 mR))
def zV:WS :=
 (wSeq (yW 1 2 (wFz (aY bu (aj (wVar 0) (aj (wC (.int 100)) wNil)))))
 (wSeq (wSet 3 (aY b_ (aj (wVar 1) (aj (wVar 2) wNil))))
 (wSeq (wSet 4 (aY a_ (aj (wVar 3) (aj (eG (cC (wOp fMul (wVar 1) (wVar 1))) (gN 0) wYes (wTup (aj (wOp fDiv (wVar 0) (wVar 1)) (aj (wOp fMod (wVar 0) (wVar 1)) wNil))) 1 [1]) wNil))))
 m_)))
abbrev sp_law:SpD:=spLaw
theorem yF (ds Q) (h:sp_law ds Q):ds.length=["_law_script"].length:=by obtain ⟨_,rfl,_⟩:=h; rfl
def psD (ps:List P2):D:=.list (ps.map p2D)
def LOk (many:Int) (ps:List P2):Prop:=ps.length<=2000/\∀ p∈ps,InP many p
theorem iT (l:List P2) (lo hi:Option Int):cutG (l.map p2D) lo hi=(cutG l lo hi).map p2D:=by
 unfold cutG
 rw [xab,List.map_take,List.map_drop]
theorem qg {α:Type} {l:List α} {lo hi:Option Int} {x:α} (h:x∈cutG l lo hi):x∈l:=by
 unfold cutG at h
 exact xbD (xbE h)
theorem InP.app {many:Int} {a b:List P2} (ha:∀ p∈a,InP many p) (hb:∀ p∈b,InP many p):∀ p∈a++b,InP many p:=fun p hp=>(xah.mp hp).elim (ha p) (hb p)
theorem xW {LL:List (List P2)} {i:Nat} {x:D} (h:(LL.map psD)[i]? = some x):∃ ps∈LL,x=.list (ps.map p2D):=by
 rw [xaE] at h
 obtain ⟨ps,hp,e⟩:=xbp.mp h
 exact ⟨ps,xaH hp,e.symm⟩
theorem vH {Q:Md->D->Prop} {ns:List Int} {many at':Int} {steps:List Stp} {best:List P2} {LL:List (List P2)} {o3 o5 o6 o7 o11 o12 o13:Option Sl} (m1:1<=many) (m2:many<=20) (hin:StIn many steps) (hl:steps.length<=1000) (hb:best.length<=400) (bi:∀ p∈best,InP many p) (bb:∀ p∈best,Both steps best p) (a0:0<=at') (a1:at'<=1000) (hL:∀ ps∈LL,LOk many ps) (h:∀ m,Q m (.bl true)) :
  jm { nx:=fun _=>Q .sh .non,rt:=Q } [some (.sh (.list (ns.map .int))),some (.sh (.int many)),some (.sh (.list (steps.map stpD))),o3,some (.sh (.list (best.map p2D))),o5,o6,o7,some (.sh (.int at')),some (.sh (.list (LL.map psD))),some (.ow true (.tup [.int many,.list (steps.map stpD)])),o11,o12,o13,none,none,none]:=by
 unfold jm
 walk_at "q"
 have cp:CPow 10 8:=by unfold CPow; decide
 refine ⟨cp,?_⟩
 refine ⟨ns,82,3,_,rfl,by decide,by decide,by decide,fun far f0 f1=>?_⟩
 walk_at "q"
 refine aZ _ (fun i ρ=>∃ (o11 o15 o16:Option Sl),ρ=[some (.sh (.list (ns.map .int))),some (.sh (.int many)),some (.sh (.list (steps.map stpD))),o3,some (.sh (.list (best.map p2D))),o5,o6,o7,some (.sh (.int at')),some (.sh (.list (LL.map psD))),some (.ow true (.tup [.int many,.list (steps.map stpD)])),o11,o12,o13,some (.sh (.int far)),o15,o16]) ⟨_,_,_,rfl⟩ ?_ ?_
 ·rintro i x ρ hx ⟨o11,o15,o16,rfl⟩ N hN
  obtain ⟨ps,hps,rfl⟩:=xW hx
  have ok:=hL ps hps
  walk_at "q"
  refine ⟨by lia,?_⟩
  have hput:=oM at' (show (0:Int)<(ps.length:Int)+1 by lia)
  generalize at' % ((ps.length:Int)+1)=put at *
  have ham:=oM at' (show 0<many by lia)
  generalize at' % many=am at *
  refine ⟨by lia,by lia,?_⟩
  refine aZ _ (fun i ρ=>∃ (o16:Option Sl),ρ=[some (.sh (.list (ns.map .int))),some (.sh (.int many)),some (.sh (.list (steps.map stpD))),o3,some (.sh (.list (best.map p2D))),o5,o6,o7,some (.sh (.int at')),some (.sh (.list (LL.map psD))),some (.ow true (.tup [.int many,.list (steps.map stpD)])),some (.sh (.list (ps.map p2D))),o12,o13,some (.sh (.int far)),some (.sh (.int put)),o16]) ⟨_,rfl⟩ ?_ ?_
  ·rintro i x ρ hx ⟨o16,rfl⟩ N hN
   obtain ⟨y,rfl,hy⟩:∃ y:P2,x=.tup [.int y.1,.int y.2]/\¬ InP many y:=by
    have:=xaH hx
    simp only [xaj,xbF,or_false] at this
    rcases this with e | e | e | e
    ·exact ⟨(-1 - far,0),e,fun z=>by have:=z.1.1; simp at this; lia⟩
    ·exact ⟨(many+far,am),e,fun z=>by have:=z.1.2; simp at this; lia⟩
    ·exact ⟨(am,many),e,fun z=>by have:=z.2.2; simp at this⟩
    ·exact ⟨(0,-1),e,fun z=>by have:=z.2.1; simp at this⟩
   walk_at "q"
   simp only [iT]
   have l1:=dB ps none (some put)
   have l2:=dB ps (some put) none
   generalize cutG ps none (some put)=c1 at *
   generalize cutG ps (some put) none=c2 at *
   have e1:c1.map p2D++[.tup [.int y.1,.int y.2]]=(c1++[y]).map p2D:=by rw [xaP]; rfl
   have okl:=ok.1
   refine .inl ⟨aW _,by rw [xab]; lia,.inl ⟨aW _,?_⟩⟩
   rw [e1]
   refine .inl ⟨aW _,by simp; lia,.inl ⟨aW _,aW _,?_⟩⟩
   rw [<- xaP]
   refine ⟨many,steps,c1++[y]++c2,rfl,by lia,hin,hl,by simp; lia,⟨y,by simp,hy⟩,?_⟩
   walk_at "q"
   exact hN _ ⟨_,rfl⟩
  ·rintro ρ ⟨o16,rfl⟩
   exact hN _ ⟨_,_,_,rfl⟩
 rintro ρ ⟨o11,o15,o16,rfl⟩
 walk_at "q"
 refine .inl ⟨aW _,?_⟩
 refine ⟨many,steps,best,rfl,by lia,hin,hl,by lia,fun _ b hb2=>?_,fun ⟨p,hp,n⟩=>absurd (bi p hp) n⟩
 have eb:b=true:=hb2.mpr bb
 subst eb
 walk_at "q"
 rw [show (true == true)=true from rfl]
 walk_at "q"
 refine ⟨m_ok 9 hin,m_ok 9 hin,?_⟩
 rw [show eqD (.tup [.int many,.list (steps.map stpD)]) (.tup [.int many,.list (steps.map stpD)])=true from eq_self (nb_m _ _)]
 exact h _
theorem yG {Q:Md->D->Prop} {ns:List Int} {many at':Int} {steps:List Stp} {best:List P2} {LL:List (List P2)} {fl:Bool} {o5 o6 o7:Option Sl} (m1:1<=many) (m2:many<=20) (hin:StIn many steps) (hl:steps.length<=1000) (hb:best.length<=400) (bi:∀ p∈best,InP many p) (bb:∀ p∈best,Both steps best p) (a0:0<=at') (a1:at'<=1000) (hL:∀ ps∈LL,LOk many ps) (h:∀ m,Q m (.bl true)) :
  lX { nx:=fun _=>Q .sh .non,rt:=Q } [some (.sh (.list (ns.map .int))),some (.sh (.int many)),some (.sh (.list (steps.map stpD))),some (.ow true (exD many steps)),some (.sh (.list (best.map p2D))),o5,o6,o7,some (.sh (.int at')),some (.ow fl (.list (LL.map psD))),none,none,none,none,none,none,none]:=by
 obtain ⟨w11,e11⟩:∃ w11,w11=jm:=⟨_,rfl⟩
 unfold lX
 rw [<- e11]
 walk_at "q"
 refine .inl ⟨pA _,?_⟩
 refine aZ _ (fun i ρ=>∃ (o11 o12 o13:Option Sl),ρ=[some (.sh (.list (ns.map .int))),some (.sh (.int many)),some (.sh (.list (steps.map stpD))),some (.ow true (exD many steps)),some (.sh (.list (best.map p2D))),o5,o6,o7,some (.sh (.int at')),some (.sh (.list (LL.map psD))),some (.ow true (.tup [.int many,.list (steps.map stpD)])),o11,o12,o13,none,none,none]) ⟨_,_,_,rfl⟩ ?_ ?_
 ·rintro i x ρ hx ⟨o11,o12,o13,rfl⟩ N hN
  obtain ⟨ps,hps,rfl⟩:=xW hx
  have ok:=hL ps hps
  have okl:=ok.1
  walk_at "q"
  refine .inl ⟨aW _,?_⟩
  refine ⟨many,steps,ps,rfl,by lia,hin,hl,by lia,fun _ b hb2=>?_,fun ⟨p,hp,n⟩=>absurd (ok.2 p hp) n⟩
  walk_at "q"
  refine R.F (by decide) ?_
  walk_at "q"
  refine ⟨many,steps,ps,rfl,by lia,ok.2,fun b3 hb3=>?_⟩
  have eb:b=b3:=by rw [xa7,hb2,hb3]
  subst eb
  walk_at "q"
  refine ⟨zT _ 10,zT _ 10,R.F (by rw [Ej]; rfl) ?_⟩
  walk_at "q"
  exact hN _ ⟨_,_,_,rfl⟩
 ·rintro ρ ⟨o11,o12,o13,rfl⟩
  rw [e11]
  exact vH m1 m2 hin hl hb bi bb a0 a1 hL h
theorem zL {Q:Md->D->Prop} {ns:List Int} {many:Int} {steps:List Stp} {best drawn:List P2} {o6:Option Sl} (m1:1<=many) (m2:many<=20) (hin:StIn many steps) (hl:steps.length<=1000) (hb:best.length<=400) (b1:0<best.length) (bi:∀ p∈best,InP many p) (bb:∀ p∈best,Both steps best p) (dl:drawn.length<=12) (di:∀ p∈drawn,InP many p) (h:∀ m,Q m (.bl true)) :
  mR { nx:=fun _=>Q .sh .non,rt:=Q } [some (.sh (.list (ns.map .int))),some (.sh (.int many)),some (.sh (.list (steps.map stpD))),some (.ow true (exD many steps)),some (.ow true (.list (best.map p2D))),some (.ow true (.list (drawn.map p2D))),o6,none,none,none,none,none,none,none,none,none,none]:=by
 obtain ⟨w9,e9⟩:∃ w9,w9=lX:=⟨_,rfl⟩
 unfold mR
 rw [<- e9]
 walk_at "q"
 refine ⟨by lia,by lia,?_⟩
 refine cu (fun n out=>∃ ps:List P2,out=ps.map p2D/\ps.length=n/\∀ p∈ps,InP many p) (fun ρ=>∃ o,ρ=[o]) _ 0 [] _ _ ⟨_,rfl⟩ ⟨[],rfl,rfl,fun p hp=>nomatch hp⟩ ?_ ?_
 ·rintro j y hy ρ ⟨o,rfl⟩ out ⟨ps,rfl,hpl,hpi⟩ N1 N2 hN2
  obtain ⟨hj,rfl⟩:=bW hy
  walk_at "q"
  refine ⟨.inl rfl,hN2 _ _ ⟨_,rfl⟩ ⟨ps++[((0+(j:Int),0+(j:Int)):P2)],?_,by simp [hpl],InP.app hpi fun x hx=>?_⟩⟩
  ·rw [xaP]
   rfl
  ·rw [xaJ.mp hx]
   have h1:0<=0+(j:Int)/\0+(j:Int)<many:=by lia
   exact ⟨h1,h1⟩
 rintro out ⟨same,e,hsl,hsi⟩
 simp only [xbn] at e
 subst e
 rw [bM] at hsl
 refine ⟨ns,81,2,_,rfl,by decide,by decide,by simp; lia,fun at' a0 a1=>?_⟩
 walk_at "q"
 refine ⟨by lia,.inl ⟨aW _,aW _,by lia,.inl ⟨aW _,aW _,?_⟩⟩⟩
 rw [<- xaP]
 refine ⟨many,steps,same++drawn,rfl,by simp; lia,InP.app hsi di,fun pr hpr=>?_⟩
 walk_at "q"
 have k1:=dB best none (some at')
 have k2:=dB best (some (at'+1)) none
 have k3:=dB best (some at') none
 refine .inl ⟨aW _,.inl ⟨aW _,by rw [iT,iT,xab,xab]; lia,.inl ⟨by rw [iT]; exact aW _,by rw [iT]; exact aW _,by lia,.inl ⟨aW _,aW _,.inl ⟨aW _,aW _,by rw [iT,xbR,xab,xab]; lia,.inl ⟨by rw [iT]; exact aW _,by rw [<- List.map_reverse]; exact aW _,.inr ?_⟩⟩⟩⟩⟩⟩
 rw [show ([.list (drawn.map p2D),.list ((same++drawn).map p2D),.list (pr.map p2D),.list (best.map p2D),.list (cutG (best.map p2D) none (some at')++cutG (best.map p2D) (some (at'+1)) none),.list (best.map p2D++drawn.map p2D),.list (cutG (best.map p2D) (some at') none++(best.map p2D).reverse),.list []]:List D)=[drawn,same++drawn,pr,best,cutG best none (some at')++cutG best (some (at'+1)) none,best++drawn,cutG best (some at') none++best.reverse,[]].map psD by simp only [xas,List.map_nil,psD,iT,xaP,List.map_reverse],e9]
 refine yG m1 m2 hin hl hb bi bb a0 (by lia) (fun ps hps=>?_) h
 have hpl:=hpr.len
 rw [xaA] at hpl
 simp only [xaj,xbF,or_false] at hps
 rcases hps with rfl | rfl | rfl | rfl | rfl | rfl | rfl | rfl
 ·exact ⟨by lia,di⟩
 ·exact ⟨by rw [xaA]; lia,InP.app hsi di⟩
 ·exact ⟨by lia,fun p hp=>InP.app hsi di p (hpr.sub p hp)⟩
 ·exact ⟨by lia,bi⟩
 ·exact ⟨by rw [xaA]; lia,InP.app (fun p hp=>bi p (qg hp)) fun p hp=>bi p (qg hp)⟩
 ·exact ⟨by rw [xaA]; lia,InP.app bi di⟩
 ·exact ⟨by rw [xaA,xbR]; lia,InP.app (fun p hp=>bi p (qg hp)) fun p hp=>bi p (List.mem_reverse.mp hp)⟩
 ·exact ⟨by decide,fun p hp=>nomatch hp⟩
theorem zf {Q:Md->D->Prop} {ns:List Int} {many:Int} {steps:List Stp} {best:List P2} (m1:1<=many) (m2:many<=20) (hin:StIn many steps) (hl:steps.length<=1000) (hb:best.length<=400) (b1:0<best.length) (bi:∀ p∈best,InP many p) (bb:∀ p∈best,Both steps best p) (h:∀ m,Q m (.bl true)) :
  m_ { nx:=fun _=>Q .sh .non,rt:=Q } [some (.sh (.list (ns.map .int))),some (.sh (.int many)),some (.sh (.list (steps.map stpD))),some (.ow true (exD many steps)),some (.ow true (.list (best.map p2D))),none,none,none,none,none,none,none,none,none,none,none,none]:=by
 obtain ⟨w5,e5⟩:∃ w5,w5=mR:=⟨_,rfl⟩
 unfold m_
 rw [<- e5]
 walk_at "q"
 refine ⟨ns,80,1,13,rfl,by decide,by decide,by decide,fun r r0 r1=>?_⟩
 walk_at "q"
 refine ⟨by lia,by lia,?_⟩
 refine aZ _ (fun i ρ=>∃ (ds:List P2) (o6:Option Sl),ds.length=i/\(∀ p∈ds,InP many p)/\ρ=[some (.sh (.list (ns.map .int))),some (.sh (.int many)),some (.sh (.list (steps.map stpD))),some (.ow true (exD many steps)),some (.ow true (.list (best.map p2D))),some (.ow true (.list (ds.map p2D))),o6,none,none,none,none,none,none,none,none,none,none]) ⟨[],_,rfl,(fun p hp=>nomatch hp),rfl⟩ ?_ ?_
 ·rintro i x ρ hx ⟨ds,o6,dl,di,rfl⟩ N hN
  obtain ⟨hi,rfl⟩:=bW hx
  walk_at "q"
  refine ⟨ns,_,0,many,rfl,by lia,by decide,by lia,fun p p0 p1=>?_⟩
  walk_at "q"
  refine ⟨ns,_,1,many,rfl,by lia,by decide,by lia,fun q q0 q1=>?_⟩
  walk_at "q"
  refine ⟨by lia,hN _ ⟨ds++[(p,q)],_,by simp [dl],InP.app di (fun x hx=>(by rw [xaJ.mp hx]; exact ⟨⟨p0,p1⟩,q0,q1⟩)),(by rw [xaP]; rfl)⟩⟩
 ·rintro ρ ⟨ds,o6,dl,di,rfl⟩
  rw [bM] at dl
  rw [e5]
  exact zL m1 m2 hin hl hb b1 bi bb (by lia) di h
theorem E_:∀ ds Q,sp_law ds Q->zV { nx:=fun _=>Q .sh .non,rt:=Q } (bC 17 ds):=by
 rintro ds Q ⟨ns,rfl,hn,h⟩
 obtain ⟨w3,e3⟩:∃ w3,w3=m_:=⟨_,rfl⟩
 unfold zV
 rw [<- e3]
 walk_at "q"
 refine ⟨ns,100,rfl,by decide,fun many steps m1 m2 hin hl pw=>?_⟩
 have hl:=xaB hl (show 500<=1000 by decide)
 unfold mD
 walk_at "q"
 refine ⟨many,steps,rfl,by lia,hin,by lia,?_⟩
 walk_at "q"
 have mm:0<=many * many/\many * many<=400:=⟨Int.mul_nonneg (by lia) (by lia),Int.mul_le_mul m2 m2 (by lia) (by lia)⟩
 refine ⟨bD (by lia) (by lia),by lia,by lia,?_⟩
 refine cu (fun n out=>∃ ps:List P2,out=ps.map p2D/\ps.length=n/\(∀ p∈ps,InP many p)/\∀ i:Nat,i<n->(((i:Int) / many,(i:Int) % many):P2)∈ps) (fun ρ=>∃ o,ρ=[o,some (.sh (.int many))]) _ 0 [] _ _ ⟨_,rfl⟩ ⟨[],rfl,rfl,(fun p hp=>nomatch hp),fun i hi=>by lia⟩ ?_ ?_
 ·rintro j y hy ρ ⟨o,rfl⟩ out ⟨ps,rfl,hpl,hpi,hpm⟩ N1 N2 hN2
  obtain ⟨hj,rfl⟩:=bW hy
  walk_at "q"
  refine ⟨by lia,by lia,.inl rfl,hN2 _ _ ⟨_,rfl⟩ ⟨ps++[(((j:Int) / many,(j:Int) % many):P2)],?_,by simp [hpl],InP.app hpi fun x hx=>?_,fun i hi=>?_⟩⟩
  ·rw [xaP]
   simp [p2D]
  ·rw [xaJ.mp hx]
   have:=oM (j:Int) (show 0<many by lia)
   exact ⟨⟨Int.ediv_nonneg (by lia) (by lia),Int.ediv_lt_of_lt_mul (by lia) (by lia)⟩,this⟩
  ·by_cases hij:i<j
   ·exact xai _ (hpm i (by lia))
   ·have:i=j:=by lia
    subst this
    exact xae _ (xaJ.mpr rfl)
 rintro out ⟨ps,e,hpl,hpi,hpm⟩
 simp only [xbn] at e
 subst e
 rw [bM] at hpl hpm
 refine ⟨many,steps,ps,rfl,by lia,hpi,fun best hp=>?_⟩
 walk_at "q"
 rw [e3]
 have all:∀ x,InP many x->x∈ps:=fun x hx=>wZ (n:=(many * many).toNat) (xa4 mm.1) (by simpa using hpm) hx
 have dg:=hp.diag hin m1 all
 exact zf m1 m2 hin hl (by have:=hp.len; lia) (xb2 dg) (fun p hpb=>hpi p (hp.sub p hpb)) hp.both h
def top (i:Nat):Stmt:=PySem.Challenge.pw_kinlook_k33_what_is_a_table.main.body.getD i (.Pass ⟨0,0,0,0⟩)
abbrev aQ:Stmt:=top 4
abbrev gk:List Str:=["m", "state"]
abbrev dJ:Stmt:=top 5
abbrev rR:List Str:=["m", "ways", "start", "deed", "end"]
abbrev cG:Stmt:=top 6
abbrev jw:List Str:=["m", "exits", "start", "deed", "end"]
abbrev aP:Stmt:=top 8
abbrev gm:List Str:=["m", "pairs", "pair"]
abbrev aU:Stmt:=top 9
abbrev eO:List Str:=["m", "pairs", "listed", "pair", "exits", "ways", "p", "q", "deed", "end"]
abbrev bw:Stmt:=top 10
abbrev gF:List Str:=["m", "pairs"]
abbrev bH:Stmt:=top 12
abbrev jF:List Str:=["_law_script", "_law_k"]
abbrev b7:Stmt:=top 13
abbrev mL:List Str:=["_law_cell", "_law_way", "_law_many", "_law_prime"]
abbrev aV:Stmt:=top 14
abbrev b8:List Str:=["_law_cell", "_law_letters", "_law_size", "_law_at", "_law_base", "_law_kind", "_law_words", "_law_k", "_law_word", "_law_tail", "_law_first"]
abbrev cI:Stmt:=top 15
abbrev oF:List Str:=["_law_script", "_law_k", "_law_way", "_law_many", "_law_cell"]
abbrev bJ:Stmt:=top 16
abbrev kW:List Str:=["_law_script", "_law_most", "_law_shape", "_law_copies", "_law_states", "_law_size", "_law_many", "_law_menu_here", "_law_steps", "_law_k", "_law_one", "_law_two", "_law_deed", "_law_way", "_law_j", "_law_i"]
abbrev bY:Stmt:=top 17
abbrev iY:List Str:=["_law_many", "_law_steps", "_law_rows_here", "_law_at", "_law_deed", "_law_to"]
abbrev aN:Stmt:=top 18
abbrev cH:List Str:=["_law_rows_here", "_law_one", "_law_other", "_law_pairs", "_law_deed", "_law_to", "_law_end"]
abbrev bB:Stmt:=top 19
abbrev gh:List Str:=["_law_rows_here", "_law_some", "_law_pairs", "_law_pair", "_law_gone"]
abbrev cD:Stmt:=top 20
abbrev jD:List Str:=["_law_rows_here", "_law_some", "_law_pairs", "_law_pair"]
abbrev bF:Stmt:=top 21
abbrev jZ:List Str:=["_law_m", "_law_some", "_law_kept", "e"]
abbrev ju:Stmt:=top 22
abbrev uA:List Str:=["_law_script", "_law_many", "_law_steps", "_law_rows_here", "_law_best", "_law_drawn", "_law_k", "_law_same", "_law_at", "_law_lists", "_law_handed", "_law_some", "_law_given", "_law_found", "_law_far", "_law_put", "_law_pair"]
abbrev rn:List Str:=["NoState"]
structure Txt (K:PySem.W.Frag) (mg:Str->Option Value):Prop where
 n_any:mg "any" = none
 n_bool:mg "bool" = none
 n_int:mg "int" = none
 n_isinstance:mg "isinstance" = none
 n_len:mg "len" = none
 n_list:mg "list" = none
 n_min:mg "min" = none
 n_range:mg "range" = none
 n_reversed:mg "reversed" = none
 n_sorted:mg "sorted" = none
 x_NoState:XCl K mg "NoState"
 r_KinError:By K mg rn "KinError"
 i_NoState:∀ n C,n∈rn->mg n=some (.ref C)->∃ c,mg "NoState" = some (.ref c)/\PySem.W.kitOne K (.ref C) (.ref c)=some (decide (n = "NoState"))
section
variable {P:Program} {w:World} {K:PySem.W.Frag} {mg:Str->Option Value} {base:Heap}
theorem fZ:FnScope gk ["m", "state"] (defScope aQ):=⟨rfl,rfl,rfl,by decide +kernel,rfl,by decide +kernel,by decide +kernel⟩
theorem m8 {f:Addr} (T:Txt K mg)  (cdv:Value) (A:Around) (outer:List PySem.Env) (s:Shared) (H:Hp) (E:XK) (hr:Room 0 (A.deeper (envOfC "check_state" (defScope aQ) s.heap.objs.size f cdv))) :
  QSs (cxOf (CXx P w mg rn) P w K mg base gk "check_state" (defScope aQ) f cdv A outer s H E) K (LX rn mg E) (defBody aQ) dY :=
 have nd:=fZ.nd
 have hu:(A.deeper (envOfC "check_state" (defScope aQ) s.heap.objs.size f cdv)).units+64<cLine:=hr.units
 (au (fW (jM (xj Bt xJ Fy Ck aq (qv 1) (q_ix hu (qv 0) aq)))
   (au (wA rfl Bp T.x_NoState (.head _) pZ))
   bO))
theorem lB {f:Addr} {fd:FuncData} (F:Fun K "check_state" "check_state" aQ f fd) (T:Txt K mg)  : FnOk P w K mg base (CXx P w mg rn) 1 f fd ["m", "state"] (dW K rn mg aR) :=
 FunX.ok F fZ jJ (m8 T ) l_
theorem lD:FnScope rR ["m"] (defScope dJ):=⟨rfl,rfl,rfl,by decide +kernel,rfl,by decide +kernel,by decide +kernel⟩
theorem sU {f:Addr} {fd:FuncData} (F:Fun K "ways_of" "ways_of" dJ f fd) (T:Txt K mg)  : FnOk P w K mg base CX0 1 f fd ["m"] (aD K cV) :=
 FunQ.ok (t:=kh) F lD qd (fun cdv A outer s H E hr =>
  have nd:=lD.nd
  have hu:=hr.units
  (ak (aG (i:=1) nd rfl (Or.inl rfl) jV)
   (ak (aO 0 (bZ PassesOwn.never rfl (cj (q_ix hu (qv 0) aq)) (fD rfl (aJ (aA (i:=2) nd rfl (Or.inl rfl)) (aJ (aA (i:=3) nd rfl (Or.inl rfl)) (aJ (aA (i:=4) nd rfl (Or.inl rfl)) cZ))))
   (au (aO 4 (aO 3 (aO 2 (Ei hu (pv 1) (dH (aa (qv 2) (aa (qv 3) ao))) (qv 4))))))))
   (au (p_ (pv 1)))))) uB
theorem jA:FnScope jw ["m"] (defScope cG):=⟨rfl,rfl,rfl,by decide +kernel,rfl,by decide +kernel,by decide +kernel⟩
theorem pI {f:Addr} {fd:FuncData} (F:Fun K "exits_of" "exits_of" cG f fd) (T:Txt K mg)  : FnOk P w K mg base CX0 1 f fd ["m"] (aD K cJ) :=
 FunQ.ok (t:=iy) F jA oA (fun cdv A outer s H E hr =>
  have nd:=jA.nd
  have hu:=hr.units
  (ak (dN (i:=1) (tn:=["state"]) (cn:=[]) (ix:=[]) nd rfl (Or.inl rfl) rfl (ig (bV T.n_range (q_ix hu (qv 0) aq))) (bL.of (sc:=defScope cG) (N:=jw) rfl rfl (by decide +kernel)) (fun _ _ _ _=>(aA (i:=0) (show (["state"]:List Str).Nodup by decide +kernel) rfl (Or.inl rfl) (.inr rfl))) (fun _ _ _ _=>cP) (fun _ _ _ _=>(gq ao)))
   (ak (aO 0 (bZ PassesOwn.never rfl (cj (q_ix hu (qv 0) aq)) (fD rfl (aJ (aA (i:=2) nd rfl (Or.inl rfl)) (aJ (aA (i:=3) nd rfl (Or.inl rfl)) (aJ (aA (i:=4) nd rfl (Or.inl rfl)) cZ))))
   (au (aO 4 (aO 3 (qO (BR hu (dD (pv 1)) (qv 2)) (dH (aa (qv 3) (aa (qv 4) ao)))))))))
   (au (p_ (pv 1)))))) rM
theorem fj:FnScope jF ["_law_script", "_law_k"] (defScope bH):=⟨rfl,rfl,rfl,by decide +kernel,rfl,by decide +kernel,by decide +kernel⟩
theorem jE {f:Addr} {fd:FuncData} (F:Fun K "_law_cell_at" "_law_cell_at" bH f fd) (T:Txt K mg)  : FnOk P w K mg base CX0 1 f fd ["_law_script", "_law_k"] (aD K aH) :=
 FunQ.ok (t:=dF) F fj ji (fun cdv A outer s H E hr =>
  have nd:=fj.nd
  have hu:=hr.units
  (ak (fW (cR xJ Ck (qv 1) (d_ fO qx rfl T.n_len qL (qv 0)) (nomark _))
   (au (cz (q_ix hu (qv 0) (qv 1))))
   bO)
   (au (cz aq)))) lq
theorem ik:FnScope mL ["_law_cell", "_law_way", "_law_many"] (defScope b7):=⟨rfl,rfl,rfl,by decide +kernel,rfl,by decide +kernel,by decide +kernel⟩
theorem mX {f:Addr} {fd:FuncData} (F:Fun K "_law_digit" "_law_digit" b7 f fd) (T:Txt K mg)  : FnOk P w K mg base CX0 1 f fd ["_law_cell", "_law_way", "_law_many"] (aD K az) :=
 FunQ.ok (t:=eV) F ik lu (fun cdv A outer s H E hr =>
  have nd:=ik.nd
  have hu:=hr.units
  (ak (aG (i:=3) nd rfl (Or.inl rfl) (q_ix hu (gq (aa aq (aa aq (aa aq (aa aq (aa aq (aa aq ao))))))) (qv 1)))
   (au (cz (iB (rJ (iB (gH (qv 0) (q_ix hu (gq (aa aq (aa aq (aa aq (aa aq (aa aq (aa aq ao))))))) (qv 1))) (qv 3)) aq) (qv 2)))))) oW
theorem iQ:FnScope iY ["_law_many", "_law_steps"] (defScope bY):=⟨rfl,rfl,rfl,by decide +kernel,rfl,by decide +kernel,by decide +kernel⟩
theorem nP {f:Addr} {fd:FuncData} (F:Fun K "_law_rows" "_law_rows" bY f fd) (T:Txt K mg)  : FnOk P w K mg base CX0 1 f fd ["_law_many", "_law_steps"] (aD K b_) :=
 FunQ.ok (t:=gC) F iQ nJ (fun cdv A outer s H E hr =>
  have nd:=iQ.nd
  have hu:=hr.units
  (ak (dN (i:=2) (tn:=["_law_k"]) (cn:=[]) (ix:=[]) nd rfl (Or.inl rfl) rfl (ig (bV T.n_range (qv 0))) (bL.of (sc:=defScope bY) (N:=iY) rfl rfl (by decide +kernel)) (fun _ _ _ _=>(aA (i:=0) (show (["_law_k"]:List Str).Nodup by decide +kernel) rfl (Or.inl rfl) (.inr rfl))) (fun _ _ _ _=>cP) (fun _ _ _ _=>(gq ao)))
   (ak (aO 1 (bZ PassesOwn.never rfl (cj (qv 1)) (fD rfl (aJ (aA (i:=3) nd rfl (Or.inl rfl)) (aJ (aA (i:=4) nd rfl (Or.inl rfl)) (aJ (aA (i:=5) nd rfl (Or.inl rfl)) cZ))))
   (au (aO 5 (aO 4 (qO (BR hu (dD (pv 2)) (qv 3)) (dH (aa (qv 4) (aa (qv 5) ao)))))))))
   (au (p_ (pv 2)))))) pY
theorem dO:FnScope cH ["_law_rows_here", "_law_one", "_law_other", "_law_pairs"] (defScope aN):=⟨rfl,rfl,rfl,by decide +kernel,rfl,by decide +kernel,by decide +kernel⟩
theorem iI {f:Addr} {fd:FuncData} (F:Fun K "_law_both_ways" "_law_both_ways" aN f fd) (T:Txt K mg)  : FnOk P w K mg base CX0 1 f fd ["_law_rows_here", "_law_one", "_law_other", "_law_pairs"] (aD K aK) :=
 FunQ.ok (t:=cO) F dO gJ (fun cdv A outer s H E hr =>
  have nd:=dO.nd
  have hu:=hr.units
  (ak (aO 0 (bZ PassesOwn.never rfl (cj (q_ix hu (qv 0) (qv 1))) (fD rfl (aJ (aA (i:=4) nd rfl (Or.inr rfl)) (aJ (aA (i:=5) nd rfl (Or.inr rfl)) cZ)))
   (au (fW (jM (jX (d_ kAny uO rfl T.n_any vf (gf (tn:=["_law_name", "_law_end"]) (cn:=["_law_deed", "_law_pairs", "_law_to"]) (ix:=[4,3,5]) rfl (iH (q_ix hu (qv 0) (qv 2))) (bL.of (sc:=defScope aN) (N:=cH) rfl rfl (by decide +kernel)) (fun _ _ _ _=>(fD rfl (aJ (aA (i:=0) (show (["_law_name", "_law_end", "_law_deed", "_law_pairs", "_law_to"]:List Str).Nodup by decide +kernel) rfl (Or.inl rfl) (.inr rfl)) (aJ (aA (i:=1) (show (["_law_name", "_law_end", "_law_deed", "_law_pairs", "_law_to"]:List Str).Nodup by decide +kernel) rfl (Or.inl rfl) (.inr rfl)) cZ)))) (fun _ _ _ _=>(pU (cR (kEq (K:=K) hu) gK (qv 0) (qv 2) (nomark _)))) (fun _ _ _ _=>(qj (kIn (K:=K) hu) xm (dH (aa (qv 4) (aa (qv 1) ao))) (qv 3) (by rfl)))))))
   (au (cz q_bl))
   bO))))
   (ak (aO 0 (bZ PassesOwn.never rfl (cj (q_ix hu (qv 0) (qv 2))) (fD rfl (aJ (aA (i:=4) nd rfl (Or.inr rfl)) (aJ (aA (i:=6) nd rfl (Or.inr rfl)) cZ)))
   (au (fW (jM (jX (d_ kAny uO rfl T.n_any vf (gf (tn:=["_law_name", "_law_to"]) (cn:=["_law_deed", "_law_end", "_law_pairs"]) (ix:=[4,6,3]) rfl (iH (q_ix hu (qv 0) (qv 1))) (bL.of (sc:=defScope aN) (N:=cH) rfl rfl (by decide +kernel)) (fun _ _ _ _=>(fD rfl (aJ (aA (i:=0) (show (["_law_name", "_law_to", "_law_deed", "_law_end", "_law_pairs"]:List Str).Nodup by decide +kernel) rfl (Or.inl rfl) (.inr rfl)) (aJ (aA (i:=1) (show (["_law_name", "_law_to", "_law_deed", "_law_end", "_law_pairs"]:List Str).Nodup by decide +kernel) rfl (Or.inl rfl) (.inr rfl)) cZ)))) (fun _ _ _ _=>(pU (cR (kEq (K:=K) hu) gK (qv 0) (qv 2) (nomark _)))) (fun _ _ _ _=>(qj (kIn (K:=K) hu) xm (dH (aa (qv 1) (aa (qv 3) ao))) (qv 4) (by rfl)))))))
   (au (cz q_bl))
   bO))))
   (au (cz q_bl))))) jc
theorem fY:FnScope gm ["m", "pairs"] (defScope aP):=⟨rfl,rfl,rfl,by decide +kernel,rfl,by decide +kernel,by decide +kernel⟩
theorem mC {f:Addr} (T:Txt K mg) (c_check_state:CalX P w K mg base rn 1 "check_state" ["m", "state"] aR) (cdv:Value) (A:Around) (outer:List PySem.Env) (s:Shared) (H:Hp) (E:XK) (hr:Room 1 (A.deeper (envOfC "check_pairs" (defScope aP) s.heap.objs.size f cdv))) :
  QSs (cxOf (CXx P w mg rn) P w K mg base gm "check_pairs" (defScope aP) f cdv A outer s H E) K (LX rn mg E) (defBody aP) dX :=
 have nd:=fY.nd
 have hu:(A.deeper (envOfC "check_pairs" (defScope aP) s.heap.objs.size f cdv)).units+64<cLine:=hr.units
 (au (aO 1 (bZ PassesOwn.leaving rfl (cj (qv 1)) (aA (i:=2) nd rfl (Or.inl rfl))
   (ak (jo c_check_state (hr.mono (by decide)) zM (aa (qv 0) (aa (q_ix hu (qv 2) aq) ao)))
   (au (jo c_check_state (hr.mono (by decide)) zM (aa (qv 0) (aa (q_ix hu (qv 2) aq) ao))))))))
theorem lr {f:Addr} {fd:FuncData} (F:Fun K "check_pairs" "check_pairs" aP f fd) (T:Txt K mg) (c_check_state:CalX P w K mg base rn 1 "check_state" ["m", "state"] aR):FnOk P w K mg base (CXx P w mg rn) 2 f fd ["m", "pairs"] (dW K rn mg aX) :=
 FunX.ok F fY kZ (mC T c_check_state) mY
theorem eQ:FnScope eO ["m", "pairs"] (defScope aU):=⟨rfl,rfl,rfl,by decide +kernel,rfl,by decide +kernel,by decide +kernel⟩
theorem jg {f:Addr} {fd:FuncData} (F:Fun K "steps_matched" "steps_matched" aU f fd) (T:Txt K mg) (c_exits_of:Cal P w K mg base 1 "exits_of" ["m"] (aD K cJ)) (c_ways_of:Cal P w K mg base 1 "ways_of" ["m"] (aD K cV)):FnOk P w K mg base CX0 2 f fd ["m", "pairs"] (aD K aM) :=
 FunQ.ok (t:=dh) F eQ iM (fun cdv A outer s H E hr =>
  have nd:=eQ.nd
  have hu:=hr.units
  (ak (aG (i:=2) nd rfl (Or.inr rfl) jV)
   (ak (aO 1 (bZ PassesOwn.never rfl (cj (qv 1)) (aA (i:=3) nd rfl (Or.inl rfl))
   (au (jK hu (dD (pv 2)) (qv 3) q_bl))))
   (ak (aG (i:=4) nd rfl (Or.inl rfl) (bz c_exits_of (hr.mono (by decide)) (aa (qv 0) ao)))
   (ak (aG (i:=5) nd rfl (Or.inl rfl) (bz c_ways_of (hr.mono (by decide)) (aa (qv 0) ao)))
   (ak (aO 5 (aO 4 (aO 2 (Ad PassesOwn.never rfl (qv 2) (fD rfl (aJ (aA (i:=6) nd rfl (Or.inl rfl)) (aJ (aA (i:=7) nd rfl (Or.inl rfl)) cZ)))
   (au (aO 4 (bZ PassesOwn.never rfl (cj (q_ix hu (qv 4) (qv 6))) (fD rfl (aJ (aA (i:=8) nd rfl (Or.inl rfl)) (aJ (aA (i:=9) nd rfl (Or.inr rfl)) cZ)))
   (au (aO 8 (aO 7 (aO 9 (fW (jM (jX (d_ kAny uO rfl T.n_any vf (gf (tn:=["other"]) (cn:=["end", "listed"]) (ix:=[9,2]) rfl (iH (Fj hu (qv 5) (dH (aa (qv 7) (aa (qv 8) ao))) (q_fz (gq ao)))) (bL.of (sc:=defScope aU) (N:=eO) rfl rfl (by decide +kernel)) (fun _ _ _ _=>(aA (i:=0) (show (["other", "end", "listed"]:List Str).Nodup by decide +kernel) rfl (Or.inl rfl) (.inr rfl))) (fun _ _ _ _=>cP) (fun _ _ _ _=>(qj (kIn (K:=K) hu) xm (dH (aa (qv 1) (aa (qv 0) ao))) (qv 2) (by rfl)))))))
   (au (cz q_bl))
   bO)))))))) (fun _ _=>trivial)))))
   (au (cz q_bl)))))))) jC
theorem iR:FnScope b8 ["_law_cell"] (defScope aV):=⟨rfl,rfl,rfl,by decide +kernel,rfl,by decide +kernel,by decide +kernel⟩
theorem pF {f:Addr} {fd:FuncData} (F:Fun K "_law_menu" "_law_menu" aV f fd) (T:Txt K mg) (c__law_digit:Cal P w K mg base 1 "_law_digit" ["_law_cell", "_law_way", "_law_many"] (aD K az)):FnOk P w K mg base CX0 2 f fd ["_law_cell"] (aD K cg) :=
 FunQ.ok (t:=gr) F iR nM (fun cdv A outer s H E hr =>
  have nd:=iR.nd
  have hu:=hr.units
  (ak (aG (i:=1) nd rfl (Or.inr rfl) pZ)
   (ak (aG (i:=2) nd rfl (Or.inl rfl) (bf aq (bz c__law_digit (hr.mono (by decide)) (aa (qv 0) (aa aq (aa aq ao))))))
   (ak (aG (i:=3) nd rfl (Or.inr rfl) (bz c__law_digit (hr.mono (by decide)) (aa (qv 0) (aa aq (aa (qv 2) ao)))))
   (ak (aG (i:=4) nd rfl (Or.inr rfl) (gf (tn:=["_law_j"]) (cn:=["_law_cell"]) (ix:=[0]) rfl (ig (bV T.n_range aq)) (bL.of (sc:=defScope aV) (N:=b8) rfl rfl (by decide +kernel)) (fun _ _ _ _=>(aA (i:=0) (show (["_law_j", "_law_cell"]:List Str).Nodup by decide +kernel) rfl (Or.inl rfl) (.inr rfl))) (fun _ _ _ _=>cP) (fun _ _ _ _=>(bz c__law_digit (hr.mono (by decide)) (aa (bf (gH (qv 1) (bf (qv 0) aq)) (qv 0)) (aa aq (aa aq ao)))))))
   (ak (aG (i:=5) nd rfl (Or.inl rfl) (bz c__law_digit (hr.mono (by decide)) (aa (qv 0) (aa aq (aa aq ao)))))
   (ak (aG (i:=6) nd rfl (Or.inl rfl) (gq ao))
   (ak (bZ PassesOwn.never rfl (bV T.n_range aq) (aA (i:=7) nd rfl (Or.inr rfl))
   (ak (aG (i:=8) nd rfl (Or.inl rfl) (qY pZ (gf (tn:=["_law_j"]) (cn:=["_law_at", "_law_base", "_law_k", "_law_letters"]) (ix:=[3,4,7,1]) rfl (ig (bV T.n_range (qv 2))) (bL.of (sc:=defScope aV) (N:=b8) rfl rfl (by decide +kernel)) (fun _ _ _ _=>(aA (i:=0) (show (["_law_j", "_law_at", "_law_base", "_law_k", "_law_letters"]:List Str).Nodup by decide +kernel) rfl (Or.inl rfl) (.inr rfl))) (fun _ _ _ _=>cP) (fun _ _ _ _=>(q_ix hu (qv 4) (iB (bf (q_ix hu (qv 2) (qv 0)) (gH (qv 3) (gP call_int1 BZ rfl T.n_int xV (qj (kEq (K:=K) hu) gK (qv 0) (qv 1) (nomark _))))) aq))))))
   (ak (fW (cR (kEq (K:=K) hu) gK (qv 5) aq (nomark _))
   (au (aG (i:=8) nd rfl (Or.inl rfl) (qY pZ (gf (tn:=["_law_j"]) (cn:=["_law_base", "_law_letters"]) (ix:=[4,1]) rfl (ig (bV T.n_range (bf (qv 7) aq))) (bL.of (sc:=defScope aV) (N:=b8) rfl rfl (by decide +kernel)) (fun _ _ _ _=>(aA (i:=0) (show (["_law_j", "_law_base", "_law_letters"]:List Str).Nodup by decide +kernel) rfl (Or.inl rfl) (.inr rfl))) (fun _ _ _ _=>cP) (fun _ _ _ _=>(q_ix hu (qv 2) (q_ix hu (qv 1) (qv 0))))))))
   bO)
   (ak (fW (cR (kEq (K:=K) hu) gK (qv 5) aq (nomark _))
   (ak (dN (i:=9) (tn:=["_law_j"]) (cn:=["_law_base", "_law_letters"]) (ix:=[4,1]) nd rfl (Or.inl rfl) rfl (ig (bV T.n_range (bz c__law_digit (hr.mono (by decide)) (aa (bf (qv 0) (qv 7)) (aa aq (aa aq ao)))))) (bL.of (sc:=defScope aV) (N:=b8) rfl rfl (by decide +kernel)) (fun _ _ _ _=>(aA (i:=0) (show (["_law_j", "_law_base", "_law_letters"]:List Str).Nodup by decide +kernel) rfl (Or.inl rfl) (.inr rfl))) (fun _ _ _ _=>cP) (fun _ _ _ _=>(q_ix hu (qv 2) (q_ix hu (qv 1) (qv 0)))))
   (au (aG (i:=8) nd rfl (Or.inl rfl) (bf (q_ix hu (qv 1) (iB (bf (q_ix hu (qv 4) aq) (gH aq (qv 7))) aq)) (qY pZ (qv 9))))))
   bO)
   (ak (fW (cR (kEq (K:=K) hu) gK (qv 5) aq (nomark _))
   (au (aG (i:=8) nd rfl (Or.inl rfl) (qY pZ (gf (tn:=["_law_j"]) (cn:=["_law_base", "_law_k", "_law_letters"]) (ix:=[4,7,1]) rfl (ig (bV T.n_range aq)) (bL.of (sc:=defScope aV) (N:=b8) rfl rfl (by decide +kernel)) (fun _ _ _ _=>(aA (i:=0) (show (["_law_j", "_law_base", "_law_k", "_law_letters"]:List Str).Nodup by decide +kernel) rfl (Or.inl rfl) (.inr rfl))) (fun _ _ _ _=>cP) (fun _ _ _ _=>(q_ix hu (qv 3) (iB (bf (q_ix hu (qv 1) aq) (iB (bf (qv 0) (qv 2)) aq)) aq)))))))
   bO)
   (au (aO 8 (qO (dD (pv 6)) (qv 8)))))))))
   (ak (aG (i:=10) nd rfl (Or.inl rfl) (bz c__law_digit (hr.mono (by decide)) (aa (qv 0) (aa aq (aa aq ao)))))
   (au (cz (iK (bf (gq (aa pZ ao)) (qv 6)) (gA (qv 10)) (gA (bf (bf (qv 10) aq) (bz c__law_digit (hr.mono (by decide)) (aa (qv 0) (aa aq (aa aq ao)))))))))))))))))) pJ
theorem iW:FnScope oF ["_law_script", "_law_k", "_law_way", "_law_many"] (defScope cI):=⟨rfl,rfl,rfl,by decide +kernel,rfl,by decide +kernel,by decide +kernel⟩
theorem oX {f:Addr} {fd:FuncData} (F:Fun K "_law_draw" "_law_draw" cI f fd) (T:Txt K mg) (c__law_cell_at:Cal P w K mg base 1 "_law_cell_at" ["_law_script", "_law_k"] (aD K aH)) (c__law_digit:Cal P w K mg base 1 "_law_digit" ["_law_cell", "_law_way", "_law_many"] (aD K az)):FnOk P w K mg base CX0 2 f fd ["_law_script", "_law_k", "_law_way", "_law_many"] (aD K aF) :=
 FunQ.ok (t:=gG) F iW mQ (fun cdv A outer s H E hr =>
  have nd:=iW.nd
  have hu:=hr.units
  (ak (aG (i:=4) nd rfl (Or.inl rfl) (bz c__law_cell_at (hr.mono (by decide)) (aa (qv 0) (aa (bf aq (iB (bf (gH aq (qv 1)) (gH aq (qv 2))) aq)) ao))))
   (au (cz (bz c__law_digit (hr.mono (by decide)) (aa (bf (bf (qv 4) (gH (bz c__law_cell_at (hr.mono (by decide)) (aa (qv 0) (aa aq ao))) (bf (qv 1) aq))) (gH (bf (qv 1) aq) (bf (bf (qv 1) aq) (qv 2)))) (aa (qv 2) (aa (qv 3) ao)))))))) qp
theorem gn:FnScope gh ["_law_rows_here", "_law_some"] (defScope bB):=⟨rfl,rfl,rfl,by decide +kernel,rfl,by decide +kernel,by decide +kernel⟩
theorem k_ {f:Addr} {fd:FuncData} (F:Fun K "_law_pruned" "_law_pruned" bB f fd) (T:Txt K mg) (c__law_both_ways:Cal P w K mg base 1 "_law_both_ways" ["_law_rows_here", "_law_one", "_law_other", "_law_pairs"] (aD K aK)):FnOk P w K mg base CX0 2 f fd ["_law_rows_here", "_law_some"] (aD K a_) :=
 FunQ.ok (t:=eE) F gn jz (fun cdv A outer s H E hr =>
  have nd:=gn.nd
  have hu:=hr.units
  (ak (aG (i:=2) nd rfl (Or.inr rfl) jV)
   (ak (aO 1 (bZ PassesOwn.never rfl (cj (qv 1)) (aA (i:=3) nd rfl (Or.inl rfl))
   (au (jK hu (dD (pv 2)) (qv 3) q_bl))))
   (au (wY PassesOwn.never (jX q_bl)
   (ak (dN (i:=4) (tn:=["_law_pair"]) (cn:=["_law_pairs", "_law_rows_here"]) (ix:=[2,0]) nd rfl (Or.inl rfl) rfl (iH (gP fJ mV rfl T.n_list kI (qv 2))) (bL.of (sc:=defScope bB) (N:=gh) rfl rfl (by decide +kernel)) (fun _ _ _ _=>(aA (i:=0) (show (["_law_pair", "_law_pairs", "_law_rows_here"]:List Str).Nodup by decide +kernel) rfl (Or.inl rfl) (.inr rfl))) (fun _ _ _ _=>(pU (jM (jX (bz c__law_both_ways (hr.mono (by decide)) (aa (qv 2) (aa (q_ix hu (qv 0) aq) (aa (q_ix hu (qv 0) aq) (aa (qv 1) ao))))))))) (fun _ _ _ _=>(qv 0)))
   (ak (fW (cR (kEq (K:=K) hu) gK (qv 4) (gq ao) (nomark _))
   (au (cz (d_ uL oY rfl T.n_sorted oZ (qv 2))))
   bO)
   (au (aO 4 (bZ PassesOwn.never rfl (cj (qv 4)) (aA (i:=3) nd rfl (Or.inl rfl))
   (au (aO 3 (yM (xbT (Nat.add_le_add_left (by decide:1<=64) _) hu) (dD (pv 2)) (qv 3)))))))))))))) m7
theorem jy:FnScope jD ["_law_rows_here", "_law_some"] (defScope cD):=⟨rfl,rfl,rfl,by decide +kernel,rfl,by decide +kernel,by decide +kernel⟩
theorem pQ {f:Addr} {fd:FuncData} (F:Fun K "_law_due" "_law_due" cD f fd) (T:Txt K mg) (c__law_both_ways:Cal P w K mg base 1 "_law_both_ways" ["_law_rows_here", "_law_one", "_law_other", "_law_pairs"] (aD K aK)):FnOk P w K mg base CX0 2 f fd ["_law_rows_here", "_law_some"] (aD K cF) :=
 FunQ.ok (t:=iw) F jy n_ (fun cdv A outer s H E hr =>
  have nd:=jy.nd
  have hu:=hr.units
  (ak (aG (i:=2) nd rfl (Or.inr rfl) jV)
   (ak (aO 1 (bZ PassesOwn.never rfl (cj (qv 1)) (aA (i:=3) nd rfl (Or.inl rfl))
   (au (jK hu (dD (pv 2)) (qv 3) q_bl))))
   (au (cz (qj (Cp (K:=K) hu) xm q_bl (gf (tn:=["_law_one", "_law_other"]) (cn:=["_law_pairs", "_law_rows_here"]) (ix:=[2,0]) rfl (iH (qv 1)) (bL.of (sc:=defScope cD) (N:=jD) rfl rfl (by decide +kernel)) (fun _ _ _ _=>(fD rfl (aJ (aA (i:=0) (show (["_law_one", "_law_other", "_law_pairs", "_law_rows_here"]:List Str).Nodup by decide +kernel) rfl (Or.inl rfl) (.inr rfl)) (aJ (aA (i:=1) (show (["_law_one", "_law_other", "_law_pairs", "_law_rows_here"]:List Str).Nodup by decide +kernel) rfl (Or.inl rfl) (.inr rfl)) cZ)))) (fun _ _ _ _=>cP) (fun _ _ _ _=>(bz c__law_both_ways (hr.mono (by decide)) (aa (qv 3) (aa (qv 0) (aa (qv 1) (aa (qv 2) ao))))))) (by rfl))))))) sI
theorem jY:FnScope gF ["m", "pairs"] (defScope bw):=⟨rfl,rfl,rfl,by decide +kernel,rfl,by decide +kernel,by decide +kernel⟩
theorem sE {f:Addr} (T:Txt K mg) (c_check_pairs:CalX P w K mg base rn 2 "check_pairs" ["m", "pairs"] aX) (c_steps_matched:Cal P w K mg base 2 "steps_matched" ["m", "pairs"] (aD K aM)) (cdv:Value) (A:Around) (outer:List PySem.Env) (s:Shared) (H:Hp) (E:XK) (hr:Room 2 (A.deeper (envOfC "is_table" (defScope bw) s.heap.objs.size f cdv))) :
  QSs (cxOf (CXx P w mg rn) P w K mg base gF "is_table" (defScope bw) f cdv A outer s H E) K (LX rn mg E) (defBody bw) ir :=
 have nd:=jY.nd
 have hu:(A.deeper (envOfC "is_table" (defScope bw) s.heap.objs.size f cdv)).units+64<cLine:=hr.units
 (ak (jo c_check_pairs (hr.mono (by decide)) zM (aa (qv 0) (aa (qv 1) ao)))
   (au (cz (Ao (bz c_steps_matched (hr.mono (by decide)) (aa (qv 0) (aa (qv 1) ao))) (Bl (bz c_steps_matched (hr.mono (by decide)) (aa (qv 0) (aa (gf (tn:=["p", "q"]) (cn:=[]) (ix:=[]) rfl (iH (qv 1)) (bL.of (sc:=defScope bw) (N:=gF) rfl rfl (by decide +kernel)) (fun _ _ _ _=>(fD rfl (aJ (aA (i:=0) (show (["p", "q"]:List Str).Nodup by decide +kernel) rfl (Or.inl rfl) (.inr rfl)) (aJ (aA (i:=1) (show (["p", "q"]:List Str).Nodup by decide +kernel) rfl (Or.inl rfl) (.inr rfl)) cZ)))) (fun _ _ _ _=>cP) (fun _ _ _ _=>(dH (aa (qv 1) (aa (qv 0) ao))))) ao))))))))
theorem pM {f:Addr} {fd:FuncData} (F:Fun K "is_table" "is_table" bw f fd) (T:Txt K mg) (c_check_pairs:CalX P w K mg base rn 2 "check_pairs" ["m", "pairs"] aX) (c_steps_matched:Cal P w K mg base 2 "steps_matched" ["m", "pairs"] (aD K aM)):FnOk P w K mg base (CXx P w mg rn) 3 f fd ["m", "pairs"] (dW K rn mg bA) :=
 FunX.ok F jY n8 (sE T c_check_pairs c_steps_matched) rF
theorem fG:FnScope kW ["_law_script", "_law_most"] (defScope bJ):=⟨rfl,rfl,rfl,by decide +kernel,rfl,by decide +kernel,by decide +kernel⟩
theorem jt {f:Addr} {fd:FuncData} (F:Fun K "_law_machine" "_law_machine" bJ f fd) (T:Txt K mg) (c__law_cell_at:Cal P w K mg base 1 "_law_cell_at" ["_law_script", "_law_k"] (aD K aH)) (c__law_digit:Cal P w K mg base 1 "_law_digit" ["_law_cell", "_law_way", "_law_many"] (aD K az)) (c__law_menu:Cal P w K mg base 2 "_law_menu" ["_law_cell"] (aD K cg)) (c__law_draw:Cal P w K mg base 2 "_law_draw" ["_law_script", "_law_k", "_law_way", "_law_many"] (aD K aF)):FnOk P w K mg base CX0 3 f fd ["_law_script", "_law_most"] (aD K bu) :=
 FunQ.ok (t:=dC) F fG jb (fun cdv A outer s H E hr =>
  have nd:=fG.nd
  have hu:=hr.units
  (ak (aG (i:=2) nd rfl (Or.inl rfl) (bz c__law_cell_at (hr.mono (by decide)) (aa (qv 0) (aa aq ao))))
   (ak (aG (i:=3) nd rfl (Or.inl rfl) (bf aq (rJ (bz c__law_digit (hr.mono (by decide)) (aa (qv 2) (aa aq (aa aq ao)))) aq)))
   (ak (aG (i:=4) nd rfl (Or.inl rfl) (bf aq (bz c__law_digit (hr.mono (by decide)) (aa (qv 2) (aa aq (aa aq ao))))))
   (ak (aG (i:=5) nd rfl (Or.inl rfl) (bz c__law_digit (hr.mono (by decide)) (aa (qv 2) (aa aq (aa aq ao)))))
   (ak (fW (cR (kEq (K:=K) hu) gK (qv 5) aq (nomark _))
   (au (aG (i:=4) nd rfl (Or.inl rfl) (rJ aq (qv 3))))
   bO)
   (ak (fW (cR (kEq (K:=K) hu) gK (qv 5) aq (nomark _))
   (au (aG (i:=4) nd rfl (Or.inl rfl) (bf aq (bz c__law_digit (hr.mono (by decide)) (aa (qv 2) (aa aq (aa (rJ aq (qv 3)) ao)))))))
   bO)
   (ak (aG (i:=6) nd rfl (Or.inl rfl) (bz c__law_digit (hr.mono (by decide)) (aa (qv 2) (aa aq (aa (gH aq (qv 4)) ao)))))
   (ak (fW (cR (kEq (K:=K) hu) gK (qv 5) aq (nomark _))
   (au (aO 1 (aG (i:=6) nd rfl (Or.inl rfl) (qv 1))))
   bO)
   (ak (aG (i:=7) nd rfl (Or.inl rfl) (bz c__law_menu (hr.mono (by decide)) (aa (bz c__law_cell_at (hr.mono (by decide)) (aa (qv 0) (aa aq ao))) ao)))
   (ak (aG (i:=8) nd rfl (Or.inl rfl) jV)
   (ak (bZ PassesOwn.never rfl (bV T.n_range (zO Bg zR rfl T.n_min Bh (qv 6) (rJ (qv 1) (gH (qv 3) (qv 3))))) (aA (i:=9) nd rfl (Or.inl rfl))
   (ak (aG (i:=10) nd rfl (Or.inl rfl) (bz c__law_draw (hr.mono (by decide)) (aa (qv 0) (aa (qv 9) (aa aq (aa (qv 4) ao))))))
   (ak (aG (i:=11) nd rfl (Or.inl rfl) (bz c__law_draw (hr.mono (by decide)) (aa (qv 0) (aa (qv 9) (aa aq (aa (qv 4) ao))))))
   (ak (aG (i:=12) nd rfl (Or.inl rfl) (q_ix hu (qv 7) (bz c__law_draw (hr.mono (by decide)) (aa (qv 0) (aa (qv 9) (aa aq (aa (d_ fO qx rfl T.n_len qL (qv 7)) ao)))))))
   (ak (aG (i:=13) nd rfl (Or.inl rfl) (bz c__law_draw (hr.mono (by decide)) (aa (qv 0) (aa (qv 9) (aa aq (aa aq ao))))))
   (au (bZ PassesOwn.never rfl (bV T.n_range (qv 3)) (aA (i:=14) nd rfl (Or.inl rfl))
   (au (bZ PassesOwn.never rfl (bV T.n_range (qv 3)) (aA (i:=15) nd rfl (Or.inl rfl))
   (au (fW (qt_w (zY (cR (kEq (K:=K) hu) gK (qv 13) aq (nomark _)) (xQ (cR (kEq (K:=K) hu) gK (qv 15) (iB (bf (qv 13) (qv 14)) (qv 3)) (nomark _)))))
   (au (jK hu (dD (pv 8)) (dH (aa (bf (qv 10) (gH (qv 4) (qv 14))) (aa (qv 12) (aa (bf (qv 11) (gH (qv 4) (qv 15))) ao)))) q_bl))
   bO)))))))))))
   (ak (bZ PassesOwn.never rfl (bV T.n_range (Cd (gH (qv 3) (qv 4)) aq)) (aA (i:=9) nd rfl (Or.inl rfl))
   (au (fW (qt_w (Cw (cR (kEq (K:=K) hu) gK (bz c__law_digit (hr.mono (by decide)) (aa (qv 2) (aa aq (aa aq ao)))) aq (nomark _)) (zE (cR Bq Fi (iB (bf (qv 9) aq) (qv 4)) aq (nomark _)))))
   (au (jK hu (dD (pv 8)) (dH (aa (qv 9) (aa (q_ix hu (qv 7) aq) (aa (bf (qv 9) aq) ao)))) q_bl))
   bO)))
   (au (cz (dH (aa (gH (qv 3) (qv 4)) (aa (d_ uL oY rfl T.n_sorted oZ (qv 8)) ao)))))))))))))))))) lg
theorem eZ:FnScope jZ ["_law_m", "_law_some"] (defScope bF):=⟨rfl,rfl,rfl,by decide +kernel,rfl,by decide +kernel,by decide +kernel⟩
theorem kY {f:Addr} {fd:FuncData} (F:Fun K "_law_refused" "_law_refused" bF f fd) (T:Txt K mg) (c_is_table:CalX P w K mg base rn 3 "is_table" ["m", "pairs"] bA):FnOk P w K mg base CX0 4 f fd ["_law_m", "_law_some"] (aD K bx) :=
 FunQ.ok (t:=dG) F eZ jj (fun cdv A outer s H E hr =>
  have nd:=eZ.nd
  have hu:=hr.units
  (ak (aG (i:=2) nd rfl (Or.inl rfl) Ey)
   (wg (i:=2) (j:=3) (ρk:=fun a=>[none,none,some (.xc a),none]) T.r_KinError nd rfl rfl rfl rfl rfl rfl (fun a=>rfl) (fun pn xe E1 hx1=>(au (jo c_is_table (hr.mono (by decide)) hx1 (aa (qv 0) (aa (qv 1) ao)))))
   (fun pn a oe n C hn hm xc hp hcl=>by
    obtain ⟨c_NoState,m_NoState,k_NoState⟩:=T.i_NoState n C hn hm
    exact (au (cz (DY (vc:=.ref c_NoState) (j:=2) T.n_isinstance hp hcl xc k_NoState (pv 2) (pe_glob rfl m_NoState rfl) (fun _ r=>r)))))))) lz
theorem xu:FnScope uA ["_law_script"] (defScope ju):=⟨rfl,rfl,rfl,by decide +kernel,rfl,by decide +kernel,by decide +kernel⟩
theorem ok_law {f:Addr} {fd:FuncData} (F:Fun K "law" "law" ju f fd) (T:Txt K mg) (c__law_machine:Cal P w K mg base 3 "_law_machine" ["_law_script", "_law_most"] (aD K bu)) (c__law_rows:Cal P w K mg base 1 "_law_rows" ["_law_many", "_law_steps"] (aD K b_)) (c__law_pruned:Cal P w K mg base 2 "_law_pruned" ["_law_rows_here", "_law_some"] (aD K a_)) (c__law_draw:Cal P w K mg base 2 "_law_draw" ["_law_script", "_law_k", "_law_way", "_law_many"] (aD K aF)) (c_is_table:CalX P w K mg base rn 3 "is_table" ["m", "pairs"] bA) (c__law_due:Cal P w K mg base 2 "_law_due" ["_law_rows_here", "_law_some"] (aD K cF)) (c__law_refused:Cal P w K mg base 4 "_law_refused" ["_law_m", "_law_some"] (aD K bx)):FnOk P w K mg base CX0 5 f fd ["_law_script"] (aD K sp_law) :=
 FunQ.ok (t:=zV) F xu yF (fun cdv A outer s H E hr =>
  have nd:=xu.nd
  have hu:=hr.units
  (ak (yt (i:=1) (j:=2) rfl nd rfl (Or.inr rfl) rfl (Or.inl rfl) (q_fz (bz c__law_machine (hr.mono (by decide)) (aa (qv 0) (aa aq ao)))))
   (ak (aG (i:=3) nd rfl (Or.inl rfl) (bz c__law_rows (hr.mono (by decide)) (aa (qv 1) (aa (qv 2) ao))))
   (ak (aG (i:=4) nd rfl (Or.inl rfl) (bz c__law_pruned (hr.mono (by decide)) (aa (qv 3) (aa (gf (tn:=["_law_k"]) (cn:=["_law_many"]) (ix:=[1]) rfl (ig (bV T.n_range (gH (qv 1) (qv 1)))) (bL.of (sc:=defScope ju) (N:=uA) rfl rfl (by decide +kernel)) (fun _ _ _ _=>(aA (i:=0) (show (["_law_k", "_law_many"]:List Str).Nodup by decide +kernel) rfl (Or.inl rfl) (.inr rfl))) (fun _ _ _ _=>cP) (fun _ _ _ _=>(dH (aa (rJ (qv 0) (qv 1)) (aa (iB (qv 0) (qv 1)) ao))))) ao))))
   (ak (aG (i:=5) nd rfl (Or.inl rfl) (gq ao))
   (ak (bZ PassesOwn.never rfl (bV T.n_range (bz c__law_draw (hr.mono (by decide)) (aa (qv 0) (aa aq (aa aq (aa aq ao)))))) (aA (i:=6) nd rfl (Or.inl rfl))
   (au (qO (dD (pv 5)) (dH (aa (bz c__law_draw (hr.mono (by decide)) (aa (qv 0) (aa (bf aq (qv 6)) (aa aq (aa (qv 1) ao))))) (aa (bz c__law_draw (hr.mono (by decide)) (aa (qv 0) (aa (bf aq (qv 6)) (aa aq (aa (qv 1) ao))))) ao))))))
   (ak (dN (i:=7) (tn:=["_law_k"]) (cn:=[]) (ix:=[]) nd rfl (Or.inl rfl) rfl (ig (bV T.n_range (qv 1))) (bL.of (sc:=defScope ju) (N:=uA) rfl rfl (by decide +kernel)) (fun _ _ _ _=>(aA (i:=0) (show (["_law_k"]:List Str).Nodup by decide +kernel) rfl (Or.inl rfl) (.inr rfl))) (fun _ _ _ _=>cP) (fun _ _ _ _=>(dH (aa (qv 0) (aa (qv 0) ao)))))
   (ak (aG (i:=8) nd rfl (Or.inl rfl) (bz c__law_draw (hr.mono (by decide)) (aa (qv 0) (aa aq (aa aq (aa (d_ fO qx rfl T.n_len qL (qv 4)) ao))))))
   (ak (aO 5 (aO 4 (aG (i:=9) nd rfl (Or.inl rfl) (gq (aa (qv 5) (aa (bf (qv 7) (qv 5)) (aa (bz c__law_pruned (hr.mono (by decide)) (aa (qv 3) (aa (bf (qv 7) (qv 5)) ao))) (aa (qv 4) (aa (bf (iK (qv 4) jT (gA (qv 8))) (iK (qv 4) (gA (bf (qv 8) aq)) jT)) ao)))))))))
   (ak (aO 9 (aG (i:=9) nd rfl (Or.inl rfl) (bf (qv 9) (q_fz (gq (aa (bf (qv 4) (qv 5)) (aa (bf (iK (qv 4) (gA (qv 8)) jT) (tV rfl T.n_list rfl T.n_reversed (qv 4))) (aa (gq ao) ao))))))))
   (ak (aO 1 (aG (i:=10) nd rfl (Or.inl rfl) (dH (aa (qv 1) (aa (gP fJ mV rfl T.n_list kI (qv 2)) ao)))))
   (ak (aO 9 (bZ PassesOwn.never rfl (cj (qv 9)) (aA (i:=11) nd rfl (Or.inl rfl))
   (ak (aG (i:=12) nd rfl (Or.inl rfl) (gP fJ mV rfl T.n_list kI (qv 11)))
   (ak (aG (i:=13) nd rfl (Or.inl rfl) (xN c_is_table (hr.mono (by decide)) (aa (qv 10) (aa (qv 12) ao))))
   (au (fW (qt_w (zY (jM (jX (Ed T.n_isinstance (qv 13) (DQ T.n_bool yH)))) (zY (cR (kNe (K:=K) hu) CJ (qv 13) (bz c__law_due (hr.mono (by decide)) (aa (qv 3) (aa (qv 11) ao))) (nomark _)) (xQ (cR (kNe (K:=K) hu) CJ (qv 12) (qv 11) (nomark _))))))
   (au (cz q_bl))
   bO))))))
   (ak (aG (i:=14) nd rfl (Or.inl rfl) (bz c__law_draw (hr.mono (by decide)) (aa (qv 0) (aa aq (aa aq (aa (Dw aq aq) ao))))))
   (ak (aO 9 (bZ PassesOwn.never rfl (cj (qv 9)) (aA (i:=11) nd rfl (Or.inl rfl))
   (ak (aG (i:=15) nd rfl (Or.inl rfl) (iB (qv 8) (bf (d_ fO qx rfl T.n_len qL (qv 11)) aq)))
   (au (aO 1 (bZ PassesOwn.never rfl (cj (gq (aa (dH (aa (Cd (Av aq) (qv 14)) (aa aq ao))) (aa (dH (aa (bf (qv 1) (qv 14)) (aa (iB (qv 8) (qv 1)) ao))) (aa (dH (aa (iB (qv 8) (qv 1)) (aa (qv 1) ao))) (aa (dH (aa aq (aa (Av aq) ao))) ao)))))) (aA (i:=16) nd rfl (Or.inl rfl))
   (au (aO 16 (fW (jM (jX (bz c__law_refused (hr.mono (by decide)) (aa (qv 10) (aa (bf (bf (iK (qv 11) jT (gA (qv 15))) (gq (aa (qv 16) ao))) (iK (qv 11) (gA (qv 15)) jT)) ao)))))
   (au (cz q_bl))
   bO)))))))))
   (au (aO 2 (aO 1 (cz (Ao (qj Bm Ca (xN c_is_table (hr.mono (by decide)) (aa (qv 10) (aa (gP fJ mV rfl T.n_list kI (qv 4)) ao))) q_bl (nomark _)) (Bl (qj (kEq (K:=K) hu) gK (qv 10) (dH (aa (qv 1) (aa (qv 2) ao))) (nomark _)))))))))))))))))))))) E_
end
theorem us1 {us:List Value} (h:us.length=1):∃ a0,us=[a0]:=by
 cases us with
 | nil=>simp at h
 | cons a0 us =>
 cases us with
 | nil=>exact ⟨_,rfl⟩
 | cons b us=>simp at h
theorem us2 {us:List Value} (h:us.length=2):∃ a0 a1,us=[a0,a1]:=by
 cases us with
 | nil=>simp at h
 | cons a0 us =>
 cases us with
 | nil=>simp at h
 | cons a1 us =>
 cases us with
 | nil=>exact ⟨_,_,rfl⟩
 | cons b us=>simp at h
theorem us3 {us:List Value} (h:us.length=3):∃ a0 a1 a2,us=[a0,a1,a2]:=by
 cases us with
 | nil=>simp at h
 | cons a0 us =>
 cases us with
 | nil=>simp at h
 | cons a1 us =>
 cases us with
 | nil=>simp at h
 | cons a2 us =>
 cases us with
 | nil=>exact ⟨_,_,_,rfl⟩
 | cons b us=>simp at h
theorem us4 {us:List Value} (h:us.length=4):∃ a0 a1 a2 a3,us=[a0,a1,a2,a3]:=by
 cases us with
 | nil=>simp at h
 | cons a0 us =>
 cases us with
 | nil=>simp at h
 | cons a1 us =>
 cases us with
 | nil=>simp at h
 | cons a2 us =>
 cases us with
 | nil=>simp at h
 | cons a3 us =>
 cases us with
 | nil=>exact ⟨_,_,_,_,rfl⟩
 | cons b us=>simp at h
theorem all_mk {l:PySem.W.OpenLaw} {w:World} {K:PySem.W.Frag} {h:Heap} {mg:Str->Option Value} {fa:Addr} (X:K.In h) (G:h.Ns mainGlobals mg) (hfa:mg "law" = some (.ref fa))
  (a0:PySem.W.nsIn K mainGlobals "check_state" = some (some (.ref f0))) (l0:K.lookup f0=some ⟨o0,d0,.func (PySem.W.fnOf "check_state" "check_state" (defArgs aQ) (defBody aQ) (defScope aQ) .none v0 j0 p0 e0 r0 u0),t0⟩) (c0:PySem.W.codeIn K r0 "check_state" = true) (k0:PySem.W.keepIn K (.ref f0)=true)
  (a1:PySem.W.nsIn K mainGlobals "ways_of" = some (some (.ref f1))) (l1:K.lookup f1=some ⟨o1,d1,.func (PySem.W.fnOf "ways_of" "ways_of" (defArgs dJ) (defBody dJ) (defScope dJ) .none v1 j1 p1 e1 r1 u1),t1⟩) (c1:PySem.W.codeIn K r1 "ways_of" = true) (k1:PySem.W.keepIn K (.ref f1)=true)
  (a2:PySem.W.nsIn K mainGlobals "exits_of" = some (some (.ref f2))) (l2:K.lookup f2=some ⟨o2,d2,.func (PySem.W.fnOf "exits_of" "exits_of" (defArgs cG) (defBody cG) (defScope cG) .none v2 j2 p2 e2 r2 u2),t2⟩) (c2:PySem.W.codeIn K r2 "exits_of" = true) (k2:PySem.W.keepIn K (.ref f2)=true)
  (a3:PySem.W.nsIn K mainGlobals "check_pairs" = some (some (.ref f3))) (l3:K.lookup f3=some ⟨o3,d3,.func (PySem.W.fnOf "check_pairs" "check_pairs" (defArgs aP) (defBody aP) (defScope aP) .none v3 j3 p3 e3 r3 u3),t3⟩) (c3:PySem.W.codeIn K r3 "check_pairs" = true) (k3:PySem.W.keepIn K (.ref f3)=true)
  (a4:PySem.W.nsIn K mainGlobals "steps_matched" = some (some (.ref f4))) (l4:K.lookup f4=some ⟨o4,d4,.func (PySem.W.fnOf "steps_matched" "steps_matched" (defArgs aU) (defBody aU) (defScope aU) .none v4 j4 p4 e4 r4 u4),t4⟩) (c4:PySem.W.codeIn K r4 "steps_matched" = true) (k4:PySem.W.keepIn K (.ref f4)=true)
  (a5:PySem.W.nsIn K mainGlobals "is_table" = some (some (.ref f5))) (l5:K.lookup f5=some ⟨o5,d5,.func (PySem.W.fnOf "is_table" "is_table" (defArgs bw) (defBody bw) (defScope bw) .none v5 j5 p5 e5 r5 u5),t5⟩) (c5:PySem.W.codeIn K r5 "is_table" = true) (k5:PySem.W.keepIn K (.ref f5)=true)
  (a6:PySem.W.nsIn K mainGlobals "_law_cell_at" = some (some (.ref f6))) (l6:K.lookup f6=some ⟨o6,d6,.func (PySem.W.fnOf "_law_cell_at" "_law_cell_at" (defArgs bH) (defBody bH) (defScope bH) .none v6 j6 p6 e6 r6 u6),t6⟩) (c6:PySem.W.codeIn K r6 "_law_cell_at" = true) (k6:PySem.W.keepIn K (.ref f6)=true)
  (a7:PySem.W.nsIn K mainGlobals "_law_digit" = some (some (.ref f7))) (l7:K.lookup f7=some ⟨o7,d7,.func (PySem.W.fnOf "_law_digit" "_law_digit" (defArgs b7) (defBody b7) (defScope b7) .none v7 j7 p7 e7 r7 u7),t7⟩) (c7:PySem.W.codeIn K r7 "_law_digit" = true) (k7:PySem.W.keepIn K (.ref f7)=true)
  (a8:PySem.W.nsIn K mainGlobals "_law_menu" = some (some (.ref f8))) (l8:K.lookup f8=some ⟨o8,d8,.func (PySem.W.fnOf "_law_menu" "_law_menu" (defArgs aV) (defBody aV) (defScope aV) .none v8 j8 p8 e8 r8 u8),t8⟩) (c8:PySem.W.codeIn K r8 "_law_menu" = true) (k8:PySem.W.keepIn K (.ref f8)=true)
  (a9:PySem.W.nsIn K mainGlobals "_law_draw" = some (some (.ref f9))) (l9:K.lookup f9=some ⟨o9,d9,.func (PySem.W.fnOf "_law_draw" "_law_draw" (defArgs cI) (defBody cI) (defScope cI) .none v9 j9 p9 e9 r9 u9),t9⟩) (c9:PySem.W.codeIn K r9 "_law_draw" = true) (k9:PySem.W.keepIn K (.ref f9)=true)
  (a10:PySem.W.nsIn K mainGlobals "_law_machine" = some (some (.ref f10))) (l10:K.lookup f10=some ⟨o10,d10,.func (PySem.W.fnOf "_law_machine" "_law_machine" (defArgs bJ) (defBody bJ) (defScope bJ) .none v10 j10 p10 e10 r10 u10),t10⟩) (c10:PySem.W.codeIn K r10 "_law_machine" = true) (k10:PySem.W.keepIn K (.ref f10)=true)
  (a11:PySem.W.nsIn K mainGlobals "_law_rows" = some (some (.ref f11))) (l11:K.lookup f11=some ⟨o11,d11,.func (PySem.W.fnOf "_law_rows" "_law_rows" (defArgs bY) (defBody bY) (defScope bY) .none v11 j11 p11 e11 r11 u11),t11⟩) (c11:PySem.W.codeIn K r11 "_law_rows" = true) (k11:PySem.W.keepIn K (.ref f11)=true)
  (a12:PySem.W.nsIn K mainGlobals "_law_both_ways" = some (some (.ref f12))) (l12:K.lookup f12=some ⟨o12,d12,.func (PySem.W.fnOf "_law_both_ways" "_law_both_ways" (defArgs aN) (defBody aN) (defScope aN) .none v12 j12 p12 e12 r12 u12),t12⟩) (c12:PySem.W.codeIn K r12 "_law_both_ways" = true) (k12:PySem.W.keepIn K (.ref f12)=true)
  (a13:PySem.W.nsIn K mainGlobals "_law_pruned" = some (some (.ref f13))) (l13:K.lookup f13=some ⟨o13,d13,.func (PySem.W.fnOf "_law_pruned" "_law_pruned" (defArgs bB) (defBody bB) (defScope bB) .none v13 j13 p13 e13 r13 u13),t13⟩) (c13:PySem.W.codeIn K r13 "_law_pruned" = true) (k13:PySem.W.keepIn K (.ref f13)=true)
  (a14:PySem.W.nsIn K mainGlobals "_law_due" = some (some (.ref f14))) (l14:K.lookup f14=some ⟨o14,d14,.func (PySem.W.fnOf "_law_due" "_law_due" (defArgs cD) (defBody cD) (defScope cD) .none v14 j14 p14 e14 r14 u14),t14⟩) (c14:PySem.W.codeIn K r14 "_law_due" = true) (k14:PySem.W.keepIn K (.ref f14)=true)
  (a15:PySem.W.nsIn K mainGlobals "_law_refused" = some (some (.ref f15))) (l15:K.lookup f15=some ⟨o15,d15,.func (PySem.W.fnOf "_law_refused" "_law_refused" (defArgs bF) (defBody bF) (defScope bF) .none v15 j15 p15 e15 r15 u15),t15⟩) (c15:PySem.W.codeIn K r15 "_law_refused" = true) (k15:PySem.W.keepIn K (.ref f15)=true)
  (a16:PySem.W.nsIn K mainGlobals "law" = some (some (.ref f16))) (l16:K.lookup f16=some ⟨o16,d16,.func (PySem.W.fnOf "law" "law" (defArgs ju) (defBody ju) (defScope ju) .none v16 j16 p16 e16 r16 u16),t16⟩) (c16:PySem.W.codeIn K r16 "law" = true) (k16:PySem.W.keepIn K (.ref f16)=true)
  (n_any:PySem.W.nsIn K mainGlobals "any" = some none)
  (n_bool:PySem.W.nsIn K mainGlobals "bool" = some none)
  (n_int:PySem.W.nsIn K mainGlobals "int" = some none)
  (n_isinstance:PySem.W.nsIn K mainGlobals "isinstance" = some none)
  (n_len:PySem.W.nsIn K mainGlobals "len" = some none)
  (n_list:PySem.W.nsIn K mainGlobals "list" = some none)
  (n_min:PySem.W.nsIn K mainGlobals "min" = some none)
  (n_range:PySem.W.nsIn K mainGlobals "range" = some none)
  (n_reversed:PySem.W.nsIn K mainGlobals "reversed" = some none)
  (n_sorted:PySem.W.nsIn K mainGlobals "sorted" = some none)
  {C_KinError:Addr} (xa_KinError:PySem.W.nsIn K mainGlobals "KinError" = some (some (.ref C_KinError)))
  {C_NoState:Addr} (xa_NoState:PySem.W.nsIn K mainGlobals "NoState" = some (some (.ref C_NoState)))
  (xe_KinError:PySem.W.excIn K C_KinError [.type "ValueError",.type "Exception",.type "BaseException",.type "object"] "ValueError.__new__" = true) (xg_KinError:PySem.W.findIn K (.ref C_KinError) "__getattr__" = some none) (xh_KinError:PySem.W.findIn K (.ref C_KinError) "__getattribute__" = some (some (.builtin "BaseException.__getattribute__"))) (xi_KinError:PySem.W.findIn K (.ref C_KinError) "__class__" = some (some (.builtin "object.__class__"))) (xj_KinError:PySem.W.mroIn K C_KinError (.type "object")=some true)
  (xe_NoState:PySem.W.excIn K C_NoState [.type "ValueError",.type "Exception",.type "BaseException",.type "object"] "ValueError.__new__" = true) (xg_NoState:PySem.W.findIn K (.ref C_NoState) "__getattr__" = some none) (xh_NoState:PySem.W.findIn K (.ref C_NoState) "__getattribute__" = some (some (.builtin "BaseException.__getattribute__"))) (xi_NoState:PySem.W.findIn K (.ref C_NoState) "__class__" = some (some (.builtin "object.__class__"))) (xj_NoState:PySem.W.mroIn K C_NoState (.type "object")=some true)
  (xs_NoState_KinError:PySem.W.mroIn K C_NoState (.ref C_KinError)=some true)
  (xt_NoState_NoState:PySem.W.kitOne K (.ref C_NoState) (.ref C_NoState)=some true)
  : ∃ fd:FuncData,(∀ (s:Shared) (v:Value),BindsTo s fd ⟨[v],[]⟩ [("_law_script",v)])/\∀ base:Heap,K.In base->base.Ns mainGlobals mg->FnOk l.prog w K mg base CX0 5 fa fd ["_law_script"] (aD K sp_law):=by
 have e:=hfa.symm.trans (PySem.W.mg_of X G a16)
 cases e
 have ma_KinError:=PySem.W.mg_of X G xa_KinError
 have ma_NoState:=PySem.W.mg_of X G xa_NoState
 have mk_KinError:XcK K C_KinError:=⟨xe_KinError,xg_KinError,xh_KinError,xi_KinError,xj_KinError⟩
 have mk_NoState:XcK K C_NoState:=⟨xe_NoState,xg_NoState,xh_NoState,xi_NoState,xj_NoState⟩
 have each:∀ {G:Str->Addr->Prop},G "NoState" C_NoState->∀ n C,n∈rn->mg n=some (.ref C)->G n C:=by
  intro G q_NoState n C hn hm
  simp only [rn,xaj,xbF,or_false] at hn
  rcases hn with rfl
  ·rw [ma_NoState] at hm; cases hm; exact q_NoState
 have T:Txt K mg:=⟨PySem.W.mg_none_of X G n_any,PySem.W.mg_none_of X G n_bool,PySem.W.mg_none_of X G n_int,PySem.W.mg_none_of X G n_isinstance,PySem.W.mg_none_of X G n_len,PySem.W.mg_none_of X G n_list,PySem.W.mg_none_of X G n_min,PySem.W.mg_none_of X G n_range,PySem.W.mg_none_of X G n_reversed,PySem.W.mg_none_of X G n_sorted,⟨_,ma_NoState,mk_NoState⟩,⟨_,ma_KinError,mk_KinError,each ⟨mk_NoState,xs_NoState_KinError⟩⟩,each ⟨_,ma_NoState,xt_NoState_NoState⟩⟩
 have F0:=fun_mk (st:=aQ) l0 c0 k0
 have F1:=fun_mk (st:=dJ) l1 c1 k1
 have F2:=fun_mk (st:=cG) l2 c2 k2
 have F3:=fun_mk (st:=aP) l3 c3 k3
 have F4:=fun_mk (st:=aU) l4 c4 k4
 have F5:=fun_mk (st:=bw) l5 c5 k5
 have F6:=fun_mk (st:=bH) l6 c6 k6
 have F7:=fun_mk (st:=b7) l7 c7 k7
 have F8:=fun_mk (st:=aV) l8 c8 k8
 have F9:=fun_mk (st:=cI) l9 c9 k9
 have F10:=fun_mk (st:=bJ) l10 c10 k10
 have F11:=fun_mk (st:=bY) l11 c11 k11
 have F12:=fun_mk (st:=aN) l12 c12 k12
 have F13:=fun_mk (st:=bB) l13 c13 k13
 have F14:=fun_mk (st:=cD) l14 c14 k14
 have F15:=fun_mk (st:=bF) l15 c15 k15
 have F16:=fun_mk (st:=ju) l16 c16 k16
 refine ⟨PySem.W.fnOf "law" "law" (defArgs ju) (defBody ju) (defScope ju) .none v16 j16 p16 e16 r16 u16,fun s v=>.of_eq rfl,fun base _ _=>?_⟩
 have C0:CalX l.prog w K mg base rn 1 "check_state" ["m", "state"] aR:=Fun.calX F0 (PySem.W.mg_of X G a0) (lB F0 T ) fun _ _ _ _ _ _ us hl=>by obtain ⟨_,_,rfl⟩:=us2 hl; rfl
 have C1:Cal l.prog w K mg base 1 "ways_of" ["m"] (aD K cV):=F1.cal (PySem.W.mg_of X G a1) (sU F1 T ) fun _ _ _ _ _ _ us hl=>by obtain ⟨_,rfl⟩:=us1 hl; rfl
 have C2:Cal l.prog w K mg base 1 "exits_of" ["m"] (aD K cJ):=F2.cal (PySem.W.mg_of X G a2) (pI F2 T ) fun _ _ _ _ _ _ us hl=>by obtain ⟨_,rfl⟩:=us1 hl; rfl
 have C6:Cal l.prog w K mg base 1 "_law_cell_at" ["_law_script", "_law_k"] (aD K aH):=F6.cal (PySem.W.mg_of X G a6) (jE F6 T ) fun _ _ _ _ _ _ us hl=>by obtain ⟨_,_,rfl⟩:=us2 hl; rfl
 have C7:Cal l.prog w K mg base 1 "_law_digit" ["_law_cell", "_law_way", "_law_many"] (aD K az):=F7.cal (PySem.W.mg_of X G a7) (mX F7 T ) fun _ _ _ _ _ _ us hl=>by obtain ⟨_,_,_,rfl⟩:=us3 hl; rfl
 have C11:Cal l.prog w K mg base 1 "_law_rows" ["_law_many", "_law_steps"] (aD K b_):=F11.cal (PySem.W.mg_of X G a11) (nP F11 T ) fun _ _ _ _ _ _ us hl=>by obtain ⟨_,_,rfl⟩:=us2 hl; rfl
 have C12:Cal l.prog w K mg base 1 "_law_both_ways" ["_law_rows_here", "_law_one", "_law_other", "_law_pairs"] (aD K aK):=F12.cal (PySem.W.mg_of X G a12) (iI F12 T ) fun _ _ _ _ _ _ us hl=>by obtain ⟨_,_,_,_,rfl⟩:=us4 hl; rfl
 have C3:CalX l.prog w K mg base rn 2 "check_pairs" ["m", "pairs"] aX:=Fun.calX F3 (PySem.W.mg_of X G a3) (lr F3 T C0) fun _ _ _ _ _ _ us hl=>by obtain ⟨_,_,rfl⟩:=us2 hl; rfl
 have C4:Cal l.prog w K mg base 2 "steps_matched" ["m", "pairs"] (aD K aM):=F4.cal (PySem.W.mg_of X G a4) (jg F4 T C2 C1) fun _ _ _ _ _ _ us hl=>by obtain ⟨_,_,rfl⟩:=us2 hl; rfl
 have C8:Cal l.prog w K mg base 2 "_law_menu" ["_law_cell"] (aD K cg):=F8.cal (PySem.W.mg_of X G a8) (pF F8 T C7) fun _ _ _ _ _ _ us hl=>by obtain ⟨_,rfl⟩:=us1 hl; rfl
 have C9:Cal l.prog w K mg base 2 "_law_draw" ["_law_script", "_law_k", "_law_way", "_law_many"] (aD K aF):=F9.cal (PySem.W.mg_of X G a9) (oX F9 T C6 C7) fun _ _ _ _ _ _ us hl=>by obtain ⟨_,_,_,_,rfl⟩:=us4 hl; rfl
 have C13:Cal l.prog w K mg base 2 "_law_pruned" ["_law_rows_here", "_law_some"] (aD K a_):=F13.cal (PySem.W.mg_of X G a13) (k_ F13 T C12) fun _ _ _ _ _ _ us hl=>by obtain ⟨_,_,rfl⟩:=us2 hl; rfl
 have C14:Cal l.prog w K mg base 2 "_law_due" ["_law_rows_here", "_law_some"] (aD K cF):=F14.cal (PySem.W.mg_of X G a14) (pQ F14 T C12) fun _ _ _ _ _ _ us hl=>by obtain ⟨_,_,rfl⟩:=us2 hl; rfl
 have C5:CalX l.prog w K mg base rn 3 "is_table" ["m", "pairs"] bA:=Fun.calX F5 (PySem.W.mg_of X G a5) (pM F5 T C3 C4) fun _ _ _ _ _ _ us hl=>by obtain ⟨_,_,rfl⟩:=us2 hl; rfl
 have C10:Cal l.prog w K mg base 3 "_law_machine" ["_law_script", "_law_most"] (aD K bu):=F10.cal (PySem.W.mg_of X G a10) (jt F10 T C6 C7 C8 C9) fun _ _ _ _ _ _ us hl=>by obtain ⟨_,_,rfl⟩:=us2 hl; rfl
 have C15:Cal l.prog w K mg base 4 "_law_refused" ["_law_m", "_law_some"] (aD K bx):=F15.cal (PySem.W.mg_of X G a15) (kY F15 T C5) fun _ _ _ _ _ _ us hl=>by obtain ⟨_,_,rfl⟩:=us2 hl; rfl
 exact ok_law F16 T C10 C11 C13 C9 C5 C14 C15
theorem walk {l:PySem.W.OpenLaw} {q:Program} {loose:List Str} {XP:(Str->Option Value)->Heap->Prop} {YP:World->Heap->Prop} {d:DefRec} {K:Params->PySem.W.Frag} (hn:l.most=some 63) (hdf:d.params.defaults=[])
  (hY:∀ (w:World) (h:Heap),YP w h->(K w.params).In h)
  (F:∀ (w:World) (mg:Str->Option Value) (fa:Addr) (h:Heap),(K w.params).In h->h.Ns mainGlobals mg->mg d.name=some (.ref fa) ->
   ∃ fd:FuncData,(∀ (s:Shared) (u:Value),BindsTo s fd ⟨[u],[]⟩ [("_law_script",u)])/\∀ base:Heap,(K w.params).In base->base.Ns mainGlobals mg->FnOk l.prog w (K w.params) mg base CX0 5 fa fd ["_law_script"] (aD (K w.params) sp_law)) :
  PySem.W.WalkO q loose XP YP l.row.toRowW d [] (fun f vs=>PySem.call f vs) :=
 L2.walk_of (n:=63) (k:=5) (x := "_law_script") (CX:=fun _=>CX0) (sp:=fun w=>aD (K w.params) sp_law) hn (by decide) hdf ⟨rfl,by decide,by decide⟩ hY F (fun w H a ns hl hO hS=>wy hl hS) fun _ _ _ _ _ z=>z
end L2.Q.Law
open PySem PySem.W PyProof.Rows
def PySem.W.Fast.tw5923394073126643064:=0
set_option maxRecDepth 100000 in
set_option maxHeartbeats 0 in
theorem PySem.Challenge.cw_kinlook_k33_what_is_a_table_holds : PySem.Challenge.rw_kinlook_k33_what_is_a_table.Holds := by
 w_on; o_law; k_head; (case hw=>w_witness2)
 k_fill
 refine L2.Q.Law.walk (l:=PySem.Challenge.rw_kinlook_k33_what_is_a_table) rfl rfl (fun w h Y=>PySem.W.kIn_of Y) ?F
 case F =>
  intro w mg fa h KX G hmg
  refine' L2.Q.Law.all_mk KX G hmg ?a0 ?l0 ?c0 ?k0 ?a1 ?l1 ?c1 ?k1 ?a2 ?l2 ?c2 ?k2 ?a3 ?l3 ?c3 ?k3 ?a4 ?l4 ?c4 ?k4 ?a5 ?l5 ?c5 ?k5 ?a6 ?l6 ?c6 ?k6 ?a7 ?l7 ?c7 ?k7 ?a8 ?l8 ?c8 ?k8 ?a9 ?l9 ?c9 ?k9 ?a10 ?l10 ?c10 ?k10 ?a11 ?l11 ?c11 ?k11 ?a12 ?l12 ?c12 ?k12 ?a13 ?l13 ?c13 ?k13 ?a14 ?l14 ?c14 ?k14 ?a15 ?l15 ?c15 ?k15 ?a16 ?l16 ?c16 ?k16 ?n_any ?n_bool ?n_int ?n_isinstance ?n_len ?n_list ?n_min ?n_range ?n_reversed ?n_sorted ?xa_KinError ?xa_NoState ?xe_KinError ?xg_KinError ?xh_KinError ?xi_KinError ?xj_KinError ?xe_NoState ?xg_NoState ?xh_NoState ?xi_NoState ?xj_NoState ?xs_NoState_KinError ?xt_NoState_NoState
  (case a0=>k_is)
  (case l0=>k_is)
  (case c0=>k_is)
  (case k0=>k_is)
  (case a1=>k_is)
  (case l1=>k_is)
  (case c1=>k_is)
  (case k1=>k_is)
  (case a2=>k_is)
  (case l2=>k_is)
  (case c2=>k_is)
  (case k2=>k_is)
  (case a3=>k_is)
  (case l3=>k_is)
  (case c3=>k_is)
  (case k3=>k_is)
  (case a4=>k_is)
  (case l4=>k_is)
  (case c4=>k_is)
  (case k4=>k_is)
  (case a5=>k_is)
  (case l5=>k_is)
  (case c5=>k_is)
  (case k5=>k_is)
  (case a6=>k_is)
  (case l6=>k_is)
  (case c6=>k_is)
  (case k6=>k_is)
  (case a7=>k_is)
  (case l7=>k_is)
  (case c7=>k_is)
  (case k7=>k_is)
  (case a8=>k_is)
  (case l8=>k_is)
  (case c8=>k_is)
  (case k8=>k_is)
  (case a9=>k_is)
  (case l9=>k_is)
  (case c9=>k_is)
  (case k9=>k_is)
  (case a10=>k_is)
  (case l10=>k_is)
  (case c10=>k_is)
  (case k10=>k_is)
  (case a11=>k_is)
  (case l11=>k_is)
  (case c11=>k_is)
  (case k11=>k_is)
  (case a12=>k_is)
  (case l12=>k_is)
  (case c12=>k_is)
  (case k12=>k_is)
  (case a13=>k_is)
  (case l13=>k_is)
  (case c13=>k_is)
  (case k13=>k_is)
  (case a14=>k_is)
  (case l14=>k_is)
  (case c14=>k_is)
  (case k14=>k_is)
  (case a15=>k_is)
  (case l15=>k_is)
  (case c15=>k_is)
  (case k15=>k_is)
  (case a16=>k_is)
  (case l16=>k_is)
  (case c16=>k_is)
  (case k16=>k_is)
  (case n_any=>k_is)
  (case n_bool=>k_is)
  (case n_int=>k_is)
  (case n_isinstance=>k_is)
  (case n_len=>k_is)
  (case n_list=>k_is)
  (case n_min=>k_is)
  (case n_range=>k_is)
  (case n_reversed=>k_is)
  (case n_sorted=>k_is)
  (case xa_KinError=>k_is)
  (case xa_NoState=>k_is)
  (case xe_KinError=>k_exc)
  (case xg_KinError=>k_is)
  (case xh_KinError=>k_is)
  (case xi_KinError=>k_is)
  (case xj_KinError=>k_is)
  (case xe_NoState=>k_exc)
  (case xg_NoState=>k_is)
  (case xh_NoState=>k_is)
  (case xi_NoState=>k_is)
  (case xj_NoState=>k_is)
  (case xs_NoState_KinError=>k_is)
  (case xt_NoState_NoState=>kit_is)
