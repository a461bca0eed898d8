import PyProof.Rows.All
import Wide.All
import OpenK.AllK
import Wide.FinOn
import Lean
import PyProof.EqAt
import PyProof.EqKinds
import PyProof.TupleCall
import PyProof.CompUse
import PyProof.NeData
import PyProof.WalksEnum
import PyProof.EnumMake
import PyProof.ZipIter
import PyProof.Rows.EnumRows
import PyProof.Rows.FactsT2
import KE.KDictList
import PyProof.Rows.SortRuns
import PyProof.Rows.SortWalk
import KE.KSortTup
import PyProof.Rows.SortStr
import PyProof.ListRange
import PyProof.StrOps2
import PyProof.StrBlock2
import PyProof.AutoIntG3
import PyProof.ListMulRight
import PyProof.Rows.ListMulArg
import PyProof.Rows.CallKwBuiltin
import PyProof.Rows.StrMul
import KE.KMinBuiltin
import PyProof.TupleKey
import PyProof.SetKind
import PyProof.Rows.SetFrom
import PyProof.DictWalks
import KE.KRevIter
import PyProof.AutoSeq1
import PyProof.SliceList
import PySem.Challenge.RW_kinlook_k15_three_side_by_side
open PySem renaming wpAny_bind->xaa,wpAny_pure->xab,wpAny_mono->xaZ
open List renaming length_map->xac,mem_cons_of_mem->xaf,mem_append_right->xag,mem_cons_self->xah,mem_map->xai,mem_cons->xaj,mem_append->xak,size_toArray->xan,map_cons->xas,length_take->xat,sublist_append_right->xau,mem_append_left->xav,map_map->xaw,nodup_append->xax,getElem?_eq_some_iff->xay,length_append->xaD,append_nil->xaF,pairwise_map->xaG,getElem?_append_right->xaI,mem_range->xaN,nodup_cons->xaO,map_append->xaP,mem_of_getElem?->xaQ,getElem?_map->xaR,getElem?_eq_getElem->xaU,mem_singleton->xaV,nodup_nil->xaX,length_cons->xa0,getElem?_eq_none->xa1,length_drop->xa4,filterMap_cons->xa5,append_assoc->xa6,getElem?_append_left->xa9,drop_eq_getElem_cons->xba,sublist_append_left->xbd,mem_filter->xbf,take_of_length_le->xbg,getD_eq_getElem?_getD->xbi,take_append_drop->xbk,length_range->xbq,map_congr_left->xbu,not_mem_nil->xby,all_eq_true->xbz,append_eq_nil_iff->xbA,take_length->xbB,all_cons->xbE,any_cons->xbF,take_add_one->xbG,mem_of_mem_drop->xbI,mem_of_mem_take->xbJ,replicate_succ->xbL,nil_sublist->xbN,length_eq_zero_iff->xbO,find?_cons->xbQ,ext_getElem?->xbV,pairwise_append->xbZ,nodup_iff_pairwise_ne->xb3,extract_eq_drop_take->xb4,pairwise_iff_getElem->xb5,mem_filterMap->xb9,flatten_cons->xcc,eraseIdx_append_of_length_le->xcd,getElem_mem->xce,perm_append_comm->xcf,countP_cons->xci,cons_ne_nil->xcj,nodup_range->xck,mem_iff_getElem?->xcl,map_take->xcm,map_drop->xcn,length_filter_le->xcp,of_mem_zip->xcs,map_nil->xcu,flatMap_append->xcA,filterMap_map->xcC,zip_cons_cons->xcE,filter_cons->xcJ,lookup_cons->xcK,drop_length->xcL,any_eq_true->xcM
open PySem.Heap renaming get?_push_of_some->xad,lt_size->xal,get?_push_size->xao,get?_update_self->xbc,get?_update_other->xbx,get?_push_ne->xbH,size_update->xbM,size_push->xca
open Nat renaming le_refl->xae,zero_le->xaq,ne_of_lt->xar,lt_of_lt_of_le->xaA,le_trans->xaB,le_of_lt->xaL,lt_succ_of_lt->xaS,mul_le_mul->xaY,lt_irrefl->xa2,succ_pos->xbb,lt_succ_of_le->xbe,add_sub_of_le->xbr,pow_succ->xbt,le_of_not_lt->xbv,lt_of_not_le->xbw,not_lt_zero->xbD,le_add_right->xbK,add_assoc->xbP,min_eq_left->xbR,le_of_lt_succ->xbW,add_zero->xbY,pow_le_pow_right->xb0,mul_assoc->xb6,le_antisymm->xb7,lt_of_succ_lt->xcb,one_pos->xcg,add_comm->xct,zero_add->xcv,mul_comm->xcw,sub_lt->xcy,mod_lt->xcz,lt_of_le_of_lt->xcB,lt_trans->xcN,le_of_eq->xcO
open Bool renaming false_eq_true->xam,false_ne_true->xap,and_eq_true->xaC,eq_iff_iff->xbp,not_eq_true'->xcG,not_true->xcH
open Array renaming getElem?_toList->xaz,toList_push->xaE,getElem?_eq_getElem->xaJ,length_toList->xaK,getD_eq_getD_getElem?->xaT,getElem?_eq_some_iff->xa7,eq_empty_of_size_eq_zero->xa8,getElem?_eq_none->xbh,size_extract->xbl,append_assoc->xbC,getElem?_extract->xbS,perm_iff_toList_perm->xb1,toList_inj->xb2,toArray_toList->xcq,toList_extract->xcr,append_empty->xcD
open Int renaming emod_lt_of_pos->xaH,emod_nonneg->xaM,toNat_of_nonneg->xaW,le_trans->xa3,le_refl->xbj,mul_nonneg->xbm,mul_le_mul->xbn,mul_le_mul_of_nonneg_right->xbo,le_of_lt->xbs,mul_le_mul_of_nonneg_left->xbT,toNat_natCast->xbU,mul_ediv_add_emod->xbX,lt_of_lt_of_le->xb8,ediv_lt_of_lt_mul->xco,mul_comm->xcx,mul_assoc->xcI
open Option renaming isSome_map->xcF
local macro_rules | `(command| def $i:declId $s:optDeclSig $v:declVal)=>`(command| noncomputable def $i:declId $s:optDeclSig $v:declVal)
local macro_rules | `(command| abbrev $i:declId $s:optDeclSig $v:declVal)=>`(command| noncomputable abbrev $i:declId $s:optDeclSig $v:declVal)
set_option compiler.extract_closed false
local macro_rules | `(tactic| walk_at "l") => `(tactic| first | lia | omega)
local macro_rules | `(tactic| walk_at "s1") => `(tactic| solve_by_elim (maxDepth := 4) [Nat.lt_of_lt_of_le, Nat.lt_of_le_of_lt, Nat.le_trans, Nat.lt_trans, Nat.le_of_lt, Nat.le_of_not_lt])
local macro_rules | `(tactic| walk_at "s2") => `(tactic| solve_by_elim (maxDepth := 5) [Nat.lt_of_lt_of_le, Nat.lt_of_le_of_lt, Nat.le_trans, Nat.le_of_lt, Nat.le_of_not_lt, Nat.lt_of_not_le, Nat.lt_of_succ_lt, Nat.le_of_succ_le])
local macro_rules | `(tactic| walk_at "s3") => `(tactic| solve_by_elim (maxDepth := 5) [Int.lt_of_lt_of_le, Int.lt_of_le_of_lt, Int.le_trans, Int.le_of_lt, Int.not_lt.mp, Int.not_le.mp])
local macro_rules | `(tactic| walk_at "s4") => `(tactic| solve_by_elim (maxDepth := 5) [Nat.le_trans, Nat.lt_of_lt_of_le, Nat.le_of_lt, Nat.le_add_right, Nat.le_add_left, Nat.add_le_add_left, Nat.add_lt_add_left, Nat.succ_le_succ, Nat.sub_le])
theorem L2.ex2 {α β:Type _} {A B C:α->β->Prop} {G:Prop} (x:∃ a b,A a b/\B a b/\C a b) (k:∀ a b,A a b->B a b->C a b->G):G :=
 let ⟨a,b,p,q,r⟩:=x
 k a b p q r
set_option Elab.async false
set_option linter.all false
set_option maxRecDepth 100000
namespace L2
open PySem PySem.Spec PyProof.Rows
abbrev Key:=Sum Int Str
def keyIs:Key->Value->Bool
 | .inl k,v=>Value.isInt k v
 | .inr x,v=>Value.isStrOf x v
def keyH (w:World):Key->Int
 | .inl k=>hashInt k
 | .inr x=>hashStr w x
theorem keyIs_shape:∀ {k:Key} {v:Value},keyIs k v=true->(∃ i t,k=Sum.inl i/\v=Value.int i t)\/(∃ x t,k=Sum.inr x/\v=Value.str x t)
 | .inl i,v,h=>by
  obtain ⟨t,e⟩:=Value.isInt_shape (k:=i) (v:=v) h
  exact .inl ⟨i,t,rfl,e⟩
 | .inr x,v,h=>by
  obtain ⟨t,e⟩:=Value.isStrOf_shape (x:=x) (v:=v) h
  exact .inr ⟨x,t,rfl,e⟩
theorem keyIs_int (i:Int) (t:Tok):keyIs (.inl i) (.int i t)=true:=by simp [keyIs,Value.isInt]
theorem keyIs_str (x:Str) (t:Tok):keyIs (.inr x) (.str x t)=true:=by simp [keyIs,Value.isStrOf]
theorem key_ll (a b:Int):decide ((Sum.inl a:Key)=Sum.inl b)=(a == b):=by
 by_cases e:a=b
 ·subst e; simp
 ·have h:¬ (Sum.inl a:Key)=Sum.inl b:=fun q=>e (Sum.inl.inj q)
  rw [decide_eq_false h]
  exact (beq_eq_false_iff_ne.mpr e).symm
theorem key_rr (a b:Str):decide ((Sum.inr a:Key)=Sum.inr b)=decide (a=b):=by
 by_cases e:a=b
 ·subst e; simp
 ·have h:¬ (Sum.inr a:Key)=Sum.inr b:=fun q=>e (Sum.inr.inj q)
  rw [decide_eq_false h,decide_eq_false e]
theorem key_lr (a:Int) (b:Str):decide ((Sum.inl a:Key)=Sum.inr b)=false:=decide_eq_false (fun q=>nomatch q)
theorem key_rl (a:Str) (b:Int):decide ((Sum.inr a:Key)=Sum.inl b)=false:=decide_eq_false (fun q=>nomatch q)
def mixKind (prog:Program) (w:World):PySem.KeyKind prog w Key where
 is:=keyIs
 hash:=keyH w
 inj:=fun v a b ha hb=>by
  rcases keyIs_shape ha with ⟨i,t,rfl,rfl⟩ | ⟨x,t,rfl,rfl⟩
  ·rcases keyIs_shape hb with ⟨j,u,rfl,e⟩ | ⟨y,u,rfl,e⟩
   ·injection e with e1 _; rw [e1]
   ·exact nomatch e
  ·rcases keyIs_shape hb with ⟨j,u,rfl,e⟩ | ⟨y,u,rfl,e⟩
   ·exact nomatch e
   ·injection e with e1 _; rw [e1]
 byValue:=fun k v h=>by
  rcases keyIs_shape h with ⟨i,t,rfl,rfl⟩ | ⟨x,t,rfl,rfl⟩ <;> rfl
 pyHash:=fun hv h=>by
  rcases keyIs_shape hv with ⟨i,t,rfl,rfl⟩ | ⟨x,t,rfl,rfl⟩
  ·exact wpAny_pyHash_int h
  ·exact wpAny_pyHash_str h
 eqBool:=fun hu hv h=>by
  rcases keyIs_shape hu with ⟨i,t,rfl,rfl⟩ | ⟨x,t,rfl,rfl⟩
  ·rcases keyIs_shape hv with ⟨j,u,rfl,rfl⟩ | ⟨y,u,rfl,rfl⟩
   ·rw [key_ll] at h; exact wpAny_eqBool_int h
   ·rw [key_lr] at h; exact SeqAt.EqAt.int_str i t y u _ _ _ _ h
  ·rcases keyIs_shape hv with ⟨j,u,rfl,rfl⟩ | ⟨y,u,rfl,rfl⟩
   ·rw [key_rl] at h; exact SeqAt.EqAt.str_int x t j u _ _ _ _ h
   ·rw [key_rr] at h; exact wpAny_eqBool_str h
 «strs» := fun k x t v h=>by
  rcases keyIs_shape h with ⟨i,u,rfl,e⟩ | ⟨y,u,rfl,e⟩
  ·exact nomatch e
  ·injection e with e1 _
   subst e1
   cases v <;> rfl
theorem mixKind_is (prog:Program) (w:World) (k:Key) (v:Value):(mixKind prog w).is k v=keyIs k v:=rfl
theorem mixKind_int (prog:Program) (w:World) (i:Int) (t:Tok):(mixKind prog w).is (.inl i) (.int i t)=true:=keyIs_int i t
theorem mixKind_str (prog:Program) (w:World) (x:Str) (t:Tok):(mixKind prog w).is (.inr x) (.str x t)=true:=keyIs_str x t
inductive V where
 | non | bl (b:Bool) | int (i:Int) | str (x:Str) | byt (b:Array UInt8) | flt (b:UInt64) | ref (a:Addr) | ty (n:String)
 deriving DecidableEq
def RelV:V->Value->Prop
 | .non,u=>u=Value.none
 | .bl b,u=>u=Value.bool b
 | .int i,u=>∃ t,u=Value.int i t
 | .str x,u=>∃ t,u=Value.str x t
 | .byt b,u=>∃ t,u=Value.bytes b t
 | .flt b,u=>∃ t,u=Value.float b t
 | .ref a,u=>u=Value.ref a
 | .ty n,u=>u=Value.type n
abbrev Vals:List V->List Value->Prop:=Paired RelV
theorem Vals.length (r:Vals xs us):xs.length=us.length:=Paired.length r
theorem Vals.get:∀ {xs:List V} {us:List Value} {i:Nat} {x:V},Vals xs us->xs[i]? = some x->∃ u,us[i]? = some u/\RelV x u
 | _,_,_,_,.nil,e=>by simp at e
 | _,_,0,_,.cons r _,e=>by simp at e; subst e; exact ⟨_,rfl,r⟩
 | _,_,i+1,x,.cons _ t,e=>by
  obtain ⟨u,h1,h2⟩:=Vals.get (i:=i) (x:=x) t (by simpa using e)
  exact ⟨u,by simpa using h1,h2⟩
theorem Vals.set (r:RelV x u):∀ {xs:List V} {us:List Value} (i:Nat),Vals xs us->Vals (xs.set i x) (us.set i u)
 | _,_,_,.nil=>.nil
 | _,_,0,.cons _ t=>.cons r t
 | _,_,i+1,.cons q t=>.cons q (Vals.set r i t)
theorem Vals.append:∀ {xs ys:List V} {us ws:List Value},Vals xs us->Vals ys ws->Vals (xs++ys) (us++ws)
 | _,_,_,_,.nil,s=>s
 | _,_,_,_,.cons r t,s=>.cons r (Vals.append t s)
theorem Vals.take:∀ {xs:List V} {us:List Value} (n:Nat),Vals xs us->Vals (xs.take n) (us.take n)
 | _,_,0,_=>.nil
 | _,_,_+1,.nil=>.nil
 | _,_,n+1,.cons r t=>.cons r (Vals.take n t)
theorem Vals.drop:∀ {xs:List V} {us:List Value} (n:Nat),Vals xs us->Vals (xs.drop n) (us.drop n)
 | _,_,0,r=>r
 | _,_,_+1,.nil=>.nil
 | _,_,n+1,.cons _ t=>Vals.drop n t
def RelO:Option V->Option Value->Prop
 | some v,some u=>RelV v u
 | none,none=>True
 | _,_=>False
def KV {κ:Type}:List (κ × V)->List (κ × Value)->Prop:=Paired fun (p:κ × V) (q:κ × Value)=>p.1=q.1/\RelV p.2 q.2
def kV:Key->V
 | .inl i=>.int i
 | .inr x=>.str x
inductive HO where
 /-- a list -/
 | lst (xs:List V)
 /-- a tuple (never changes) -/
 | tup (xs:List V)
 /-- a dict whose keys are ints and texts; one whose keys are tuples of ints and texts (the empty one is both) -/
 | dK (kvs:List (Key × V)) | dT (kvs:List (List Key × V))
 /-- a set of ints: its members,its size -/
 | set (S:Int->Bool) (n:Nat)
 /-- an instance of the class at C,its dict at dx,its attributes -/
 | ins (C dx:Addr) (fs:List (Str × V))
 /-- the dict of the instance at x -/
 | own (x:Addr)
 /-- the dict of an exception -/
 | xd (fs:List (Str × V))
 /-- a bound method,f of x -/
 | met (f x:Addr)
 /-- a range object lo,lo+1,.. below hi -/
 | rng (lo hi:Int)
 /-- a thing that is known to the object (the script; a dict while a loop walks it): read,never written while it is so -/
 | frz (o:Obj) (u:HO)
 /-- a code object's table -/
 | tbl (ps:Array Value)
 /-- any other thing,by what is true of its one object (a def of one's own: SetO a S n:=HO.ext fun h=>..) -/
 | ext (φ:Heap->Prop)
abbrev Hp:=Addr->Option HO
def upd (H:Hp) (a:Addr) (o:HO):Hp:=fun b=>if b=a then some o else H b
theorem upd_same:upd H a o a=some o:=by unfold upd; rw [if_pos rfl]
theorem upd_ne (h:b≠a):upd H a o b=H b:=by unfold upd; rw [if_neg h]
theorem ne_of_none {H:Hp} {a b:Addr} {o:HO} (h:H a=some o) (h':H b=none):a≠b:=by
 intro e; subst e; rw [h] at h'; cases h'
section
variable (P:Program) (w:World)
def ObjOk (H:Hp) (h:Heap) (a:Addr):HO->Prop
 | .lst xs=>xs.length<=sizeLine/\∃ (its:List Value) (n:Nat),Vals xs its/\h.get? a=some { cls:=.type "list",data:=.seq its.toArray n }
 | .tup xs=>xs.length<=sizeLine/\∃ its:List Value,Vals xs its/\IsTup h a its.toArray
 | .dK kvs=>kvs.length<=sizeLine/\(a == sysModules)=false/\∃ vs,KV kvs vs/\h.DictOf (mixKind P w) a vs
 | .dT kvs=>kvs.length<=sizeLine/\(a == sysModules)=false/\∃ xs:List (List Key × Addr × Value),
   Paired (fun (p:List Key × V) (q:List Key × Addr × Value)=>p.1=q.1/\H q.2.1=some (.tup (p.1.map kV))/\RelV p.2 q.2.2) kvs xs /\
   ∃ o es ep,h.get? a=some o/\o.ExactDict/\o.data=.dict es ep/\es.toList=xs.map (entryOfKey (tupleKind (mixKind P w)))/\(xs.map (·.1)).Nodup
 | .set S n=>h.SetOf (intKind P w) a S n
 | .ins C dx fs=>H dx=some (.own a)/\fs.length<=1000/\dx≠a/\h.get? a=some (PySem.W.instObj C dx) /\
   ∃ mA,h.Ns1 dx mA/\(∀ f,RelO (fs.lookup f) (mA f))/\PySem.Within mA (fs.map (·.1))
 | .own _=>∃ o,h.get? a=some o
 | .xd fs=>∃ mA,h.Ns1 a mA/\∀ f,RelO (fs.lookup f) (mA f)
 | .rng lo hi=>∃ t u v,h.get? a=some { cls:=.type "range",data:=.fields #[.int lo t,.int hi u,.int 1 v] }
 | .frz o u=>h.get? a=some o/\ObjOk H h a u
 | .tbl ps=>h.get? a=some { cls:=.none,data:=.fields ps }
 | .met f x=>h.get? a=some (PySem.W.methodObj (.ref f) (.ref x))
 | .ext φ=>φ h/\(∃ o,h.get? a=some o)/\∀ h1 h2:Heap,φ h1->(∀ o,h1.get? a=some o->h2.get? a=some o)->φ h2
def HOk (H:Hp) (h:Heap):Prop:=∀ a o,H a=some o->ObjOk P w H h a o
end
section
variable {P:Program} {w:World} {H H':Hp} {h h':Heap} {a:Addr} {o:HO}
theorem ObjOk.lt (x:ObjOk P w H h a o):a<h.objs.size:=by
 cases o with
 | lst xs=>obtain ⟨_,_,_,_,e⟩:=x; exact xal e
 | tup xs=>obtain ⟨_,_,_,p⟩:=x; exact p.lt
 | dK kvs=>obtain ⟨_,_,_,_,o,_,_,e,_⟩:=x; exact xal e
 | dT kvs=>obtain ⟨_,_,_,_,o,_,_,e,_⟩:=x; exact xal e
 | set S n=>obtain ⟨o,_,_,_,e,_⟩:=x; exact xal e
 | ins C dx fs=>obtain ⟨_,_,_,e,_⟩:=x; exact xal e
 | own y=>obtain ⟨_,e⟩:=x; exact xal e
 | xd fs=>obtain ⟨_,⟨_,_,_,e,_⟩,_⟩:=x; exact xal e
 | rng lo hi=>obtain ⟨_,_,_,e⟩:=x; exact xal e
 | frz ob u=>obtain ⟨e,_⟩:=x; exact xal e
 | tbl ps=>exact xal (show h.get? a=some _ from x)
 | met f y=>exact xal (show h.get? a=some _ from x)
 | ext φ=>obtain ⟨_,⟨_,e⟩,_⟩:=x; exact xal e
theorem Paired.mapP {α β:Type} {F G:α->β->Prop}:∀ {l₁:List α} {l₂:List β},Paired F l₁ l₂->(∀ a b,F a b->G a b)->Paired G l₁ l₂
 | _,_,.nil,_=>.nil
 | _,_,.cons r t,f=>.cons (f _ _ r) (Paired.mapP t f)
theorem ObjOk.stay (x:ObjOk P w H h a o) (k:∀ b u,(b=a\/H b=some (.own a))->h.get? b=some u->h'.get? b=some u)
  (ho:∀ b,H b=some (.own a)->H' b=some (.own a)) (ht:∀ b xs,H b=some (.tup xs)->H' b=some (.tup xs)):ObjOk P w H' h' a o:=by
 induction o with
 | lst xs=>obtain ⟨z,its,n,r,e⟩:=x; exact ⟨z,its,n,r,k _ _ (.inl rfl) e⟩
 | tup xs=>obtain ⟨z,its,r,ob,e,c⟩:=x; exact ⟨z,its,r,ob,k _ _ (.inl rfl) e,c⟩
 | dK kvs=>obtain ⟨z,y,vs,r,ob,es,ep,e,c⟩:=x; exact ⟨z,y,vs,r,ob,es,ep,k _ _ (.inl rfl) e,c⟩
 | dT kvs =>
  obtain ⟨z,y,xs,r,ob,es,ep,e,c⟩:=x
  exact ⟨z,y,xs,Paired.mapP r fun p q z=>⟨z.1,ht _ _ z.2.1,z.2.2⟩,ob,es,ep,k _ _ (.inl rfl) e,c⟩
 | set S n=>obtain ⟨ob,es,ep,t,e,c⟩:=x; exact ⟨ob,es,ep,t,k _ _ (.inl rfl) e,c⟩
 | ins C dx fs =>
  obtain ⟨d,z,ne,e,mA,⟨od,es,ep,e2,c⟩,r⟩:=x
  exact ⟨ho _ d,z,ne,k _ _ (.inl rfl) e,mA,⟨od,es,ep,k _ _ (.inr d) e2,c⟩,r⟩
 | own y=>obtain ⟨ob,e⟩:=x; exact ⟨ob,k _ _ (.inl rfl) e⟩
 | xd fs=>obtain ⟨mA,⟨od,es,ep,e,c⟩,r⟩:=x; exact ⟨mA,⟨od,es,ep,k _ _ (.inl rfl) e,c⟩,r⟩
 | rng lo hi=>obtain ⟨t,u,v,e⟩:=x; exact ⟨t,u,v,k _ _ (.inl rfl) e⟩
 | frz ob u ih=>obtain ⟨e,q⟩:=x; exact ⟨k _ _ (.inl rfl) e,ih q⟩
 | tbl ps =>
  have e:h.get? a=some { cls:=.none,data:=.fields ps }:=x
  show h'.get? a=some { cls:=.none,data:=.fields ps }
  exact k a _ (.inl rfl) e
 | met f y =>
  have e:h.get? a=some (PySem.W.methodObj (.ref f) (.ref y)):=x
  show h'.get? a=some (PySem.W.methodObj (.ref f) (.ref y))
  exact k a _ (.inl rfl) e
 | ext φ=>obtain ⟨p,⟨o,e⟩,st⟩:=x; exact ⟨st _ _ p fun o q=>k _ _ (.inl rfl) q,⟨o,k _ _ (.inl rfl) e⟩,st⟩
theorem HOk.lt (x:HOk P w H h) (e:H a=some o):a<h.objs.size:=(x a o e).lt
theorem HOk.fresh (x:HOk P w H h) (e:h.objs.size<=a):H a=none:=by
 cases q:H a with
 | none=>rfl
 | some u=>exact absurd (xaA (x.lt q) e) (xa2 _)
theorem HOk.kept (x:HOk P w H h) (k:∀ b u,h.get? b=some u->h'.get? b=some u):HOk P w H h':=fun a o e =>
 (x a o e).stay (fun b u _ q=>k b u q) (fun _ q=>q) fun _ _ q=>q
theorem HOk.laid (x:HOk P w H h) (k:∀ b u,h.get? b=some u->h'.get? b=some u) (hp:h.objs.size<=a) (new:ObjOk P w (upd H a o) h' a o):HOk P w (upd H a o) h':=fun b u e=>by
 have hn:=x.fresh hp
 by_cases hb:b=a
 ·subst hb; rw [upd_same] at e; cases e; exact new
 ·rw [upd_ne hb] at e
  exact (x b u e).stay (fun c v _ q=>k c v q) (fun c q=>by rw [upd_ne (ne_of_none q hn)]; exact q) fun c xs q=>by rw [upd_ne (ne_of_none q hn)]; exact q
end
def Rd (H:Hp) (a:Addr) (u:HO):Prop:=H a=some u\/∃ o,H a=some (.frz o u)
theorem Rd.of (h:H a=some u):Rd H a u:=.inl h
theorem Rd.ok {P:Program} (r:Rd H a u) (x:HOk P w H h):ObjOk P w H h a u:=by
 rcases r with r | ⟨o,r⟩
 ·exact x a u r
 ·obtain ⟨_,q⟩:=x a _ r
  exact q
def Mut:Option HO->Prop
 | some (.lst _)=>True
 | some (.dK _)=>True
 | some (.dT _)=>True
 | some (.set _ _)=>True
 | some (.ins _ _ _)=>True
 | some (.ext _)=>True
 | _=>False
section
variable {P:Program} {w:World} {H:Hp} {h h':Heap} {x e:Addr} {o':HO}
theorem HOk.write (ok:HOk P w H h) (mu:Mut (H x)) (he:e=x\/H e=some (.own x)) (k:∀ b u,b≠e->h.get? b=some u->h'.get? b=some u) (heo:∃ u,h'.get? e=some u)
  (new:ObjOk P w (upd H x o') h' x o'):HOk P w (upd H x o') h':=fun b u q=>by
 have nown:∀ c y,H c=some (.own y)->c≠x:=fun c y r z=>by subst z; rw [r] at mu; exact mu
 have ntup:∀ c xs,H c=some (.tup xs)->c≠x:=fun c xs r z=>by subst z; rw [r] at mu; exact mu
 by_cases hb:b=x
 ·subst hb; rw [upd_same] at q; cases q; exact new
 ·rw [upd_ne hb] at q
  by_cases hbe:b=e
  ·have q':H b=some (.own x):=by
    rcases he with z | z
    ·exact absurd (hbe.trans z) hb
    ·rw [hbe]; exact z
   rw [q] at q'; cases q'
   obtain ⟨v,hv⟩:=heo
   exact ⟨v,by rw [hbe]; exact hv⟩
  ·refine (ok b u q).stay (fun c v hc r=>k c v ?_ r) (fun c r=>by rw [upd_ne (nown c b r)]; exact r) fun c xs r=>by rw [upd_ne (ntup c xs r)]; exact r
   rcases hc with rfl | hc
   ·exact hbe
   ·rintro rfl
    rcases he with z | z
    ·exact nown c b hc z
    ·rw [hc] at z; cases z; exact hb rfl
end
structure Un (fs ex:List Addr) (H H':Hp) (h h':Heap):Prop where
 keep:∀ b o,h.get? b=some o->H b=none->b∉fs->b∉ex->h'.get? b=some o
 slot:∀ b o,h.get? b=some o->H b=none->b∈fs->b∉ex->∃ sl,h'.get? b=some { o with slots:=sl }
 free:∀ b o,h.get? b=some o->H b=none->b∉ex->H' b=none
 there:∀ b o,h.get? b=some o->b∉ex->∃ o',h'.get? b=some o'
 tups:∀ b xs,H b=some (.tup xs)->H' b=some (.tup xs)
 frzs:∀ b o u,H b=some (.frz o u)->H' b=some (.frz o u)
 tbls:∀ b ps,H b=some (.tbl ps)->∃ more,H' b=some (.tbl (ps++more))
section
variable {fs fs' ex ex':List Addr} {H H1 H2:Hp} {h h1 h2 h':Heap} {a x e:Addr} {o:HO}
theorem Un.any (u:Un fs ex H H1 h h1) (q:h.get? b=some ob) (n:H b=none) (hx:b∉ex):∃ sl,h1.get? b=some { ob with slots:=sl }:=by
 by_cases hb:b∈fs
 ·exact u.slot b ob q n hb hx
 ·exact ⟨ob.slots,u.keep b ob q n hb hx⟩
theorem Un.trans (a:Un fs ex H H1 h h1) (b:Un fs ex H1 H2 h1 h2):Un fs ex H H2 h h2 where
 keep:=fun c ob q n hc hx=>b.keep c ob (a.keep c ob q n hc hx) (a.free c ob q n hx) hc hx
 slot:=fun c ob q n hc hx=>by
  obtain ⟨sl,e1⟩:=a.slot c ob q n hc hx
  obtain ⟨sl',e2⟩:=b.slot c _ e1 (a.free c ob q n hx) hc hx
  exact ⟨sl',e2⟩
 free:=fun c ob q n hx=>by
  obtain ⟨o',e1⟩:=a.there c ob q hx
  exact b.free c o' e1 (a.free c ob q n hx) hx
 there:=fun c ob q hx=>by
  obtain ⟨o',e1⟩:=a.there c ob q hx
  exact b.there c o' e1 hx
 tups:=fun c xs q=>b.tups c xs (a.tups c xs q)
 frzs:=fun c ob xs q=>b.frzs c ob xs (a.frzs c ob xs q)
 tbls:=fun c ps q=>by
  obtain ⟨m1,e1⟩:=a.tbls c ps q
  obtain ⟨m2,e2⟩:=b.tbls c _ e1
  exact ⟨m1++m2,by rw [e2,xbC]⟩
theorem Un.kept (k:∀ b u,h.get? b=some u->h'.get? b=some u):Un fs ex H H h h' :=
 ⟨fun b ob q _ _ _=>k b ob q,fun b ob q _ _ _=>⟨ob.slots,k b ob q⟩,fun _ _ _ n _=>n,fun b ob q _=>⟨ob,k b ob q⟩,fun _ _ q=>q,fun _ _ _ q=>q,fun _ ps q=>⟨#[],by rw [q]; simp⟩⟩
theorem Un.refl:Un fs ex H H h h:=Un.kept fun _ _ q=>q
theorem Un.laid (k:∀ b u,h.get? b=some u->h'.get? b=some u) (hp:h.objs.size<=a) (hn:H a=none):Un fs ex H (upd H a o) h h' where
 keep:=fun b u q _ _ _=>k b u q
 slot:=fun b u q _ _ _=>⟨u.slots,k b u q⟩
 free:=fun b u q n _=>by rw [upd_ne (xar (xaA (xal q) hp))]; exact n
 there:=fun b u q _=>⟨u,k b u q⟩
 tups:=fun b xs q=>by rw [upd_ne (ne_of_none q hn)]; exact q
 frzs:=fun b u xs q=>by rw [upd_ne (ne_of_none q hn)]; exact q
 tbls:=fun b ps q=>⟨#[],by rw [upd_ne (ne_of_none q hn),q]; simp⟩
theorem Un.write (mu:Mut (H x)) (he:e=x\/H e=some (.own x)) (k:∀ b u,b≠e->h.get? b=some u->h'.get? b=some u) (heo:∃ u,h'.get? e=some u):Un fs ex H (upd H x o) h h':=by
 have hx:∀ b,H b=none->b≠x:=fun b n z=>by subst z; rw [n] at mu; exact mu
 have hb:∀ b,H b=none->b≠e:=fun b n z=>by
  subst z
  rcases he with r | r
  ·exact hx b n r
  ·rw [n] at r; cases r
 have hm:∀ b u,H b=some u->¬ Mut (some u)->b≠x:=fun b u q nm z=>by subst z; rw [q] at mu; exact nm mu
 refine ⟨fun b u q n _ _=>k b u (hb b n) q,fun b u q n _ _=>⟨u.slots,k b u (hb b n) q⟩,fun b u q n _=>by rw [upd_ne (hx b n)]; exact n,fun b u q _=>?_,
  fun b xs q=>by rw [upd_ne (hm b _ q fun z=>z)]; exact q,fun b u xs q=>by rw [upd_ne (hm b _ q fun z=>z)]; exact q,fun b ps q=>⟨#[],by rw [upd_ne (hm b _ q fun z=>z),q]; simp⟩⟩
 by_cases hbe:b=e
 ·subst hbe; exact heo
 ·exact ⟨u,k b u hbe q⟩
theorem Un.mono (u:Un fs ex H H1 h h1) (hs:∀ b∈fs,b∈fs') (hx:∀ b∈ex,b∈ex'):Un fs' ex' H H1 h h1 :=
 ⟨fun b ob q n hb he=>u.keep b ob q n (fun z=>hb (hs b z)) fun z=>he (hx b z),fun _ _ q n _ he=>u.any q n fun z=>he (hx _ z),fun b ob q n he=>u.free b ob q n fun z=>he (hx b z),fun b ob q he=>u.there b ob q fun z=>he (hx b z),u.tups,u.frzs,u.tbls⟩
end
def trk (h:Heap) (H:Hp):List Addr:=(List.range h.objs.size).filter fun a=>(H a).isSome
def hidT (h:Heap) (H:Hp):Heap:=PySem.W.hideAll h (trk h H)
theorem hidT_size (h:Heap) (H:Hp):(hidT h H).objs.size=h.objs.size:=PySem.W.hideAll_size _ _
theorem hidT_get (e:h.get? b=some o) (n:H b=none):(hidT h H).get? b=some o :=
 PySem.W.hideAll_get _ e fun hm=>by
  have q:(H b).isSome=true:=(xbf.mp hm).2
  rw [n] at q; simp at q
theorem of_hidT (e:(hidT h H).get? b=some o):h.get? b=some o/\H b=none:=by
 have e':h.get? b=some o:=PySem.W.of_hideAll (trk h H) e
 refine ⟨e',?_⟩
 cases q:H b with
 | none=>rfl
 | some x =>
  have hm:b∈trk h H:=xbf.mpr ⟨xaN.mpr (xal e'),by simp [q]⟩
  have z:(hidT h H).get? b=none:=PySem.W.hideAll_none (trk h H) hm
  rw [z] at e; cases e
def allNews (g h:Heap) (L:Addr):List (Addr × Obj):=(List.range h.objs.size).filterMap fun a=>if a=L\/(g.get? a).isSome=true then none else (h.get? a).map fun o=>(a,o)
def rest (g h:Heap) (L d:Addr):List (Addr × Obj):=(allNews g h L).filter fun p=>decide (p.1≠d)
structure Mod (K:PySem.W.Frag) (mg:Str->Option Value) (base:Heap):Prop where
 kin:K.In base
 glob:base.Ns mainGlobals mg
 blt:∃ mb,base.Ns builtinsNs mb/\∀ x:Str,x ≠ "__name__"->mb x=bootBuiltins x
 nolimit:base.NoLimit
structure Cx where
 prog:Program
 w:World
 K:PySem.W.Frag
 mg:Str->Option Value
 base:Heap
 A:Around
 N:List Str
 s₀:Shared
 H₀:Hp
 env:Env
 outer:List Env
 stack:List Env
 ex:List Addr
 fn:Str->Bool
 calm:Bool
 pn:List (Addr × Obj)
 xe:Value->Shared->Prop
def frs (l:List Env):List Addr:=l.filterMap (·.frame)
abbrev Cx.fs (X:Cx):List Addr:=frs X.outer
def Vis (sc:Scope) (x:Str):Prop:=sc.names.lookup x=some .local\/sc.names.lookup x=some .cell\/sc.names.lookup x=some .free
def Loc (sc:Scope) (x:Str):Prop:=sc.names.lookup x=some .local\/sc.names.lookup x=some .cell
def Look (env:Env) (h:Heap) (m:Str->Option Value) (x:Str) (u:Value):Prop :=
 (env.kindOf x=some .local/\m x=some u)\/((env.kindOf x=some .cell\/env.kindOf x=some .free)/\∃ c,env.cells.lookup x=some c/\h.IsCell c (some u))
structure Cx.Ok (X:Cx):Prop where
 mod:Mod X.K X.mg X.base
 kind:X.env.scope.kind=.function
 glob:X.env.globals=mainGlobals
 blt:X.env.builtins=builtinsNs
 above:X.s₀.heap.objs.size<=X.env.locals
 inj:∀ x y c,X.env.cells.lookup x=some c->X.env.cells.lookup y=some c->x=y
 has:∀ x,(X.env.kindOf x=some .cell\/X.env.kindOf x=some .free)->∃ c,X.env.cells.lookup x=some c
 cab:∀ x c,X.fn x=true->X.env.cells.lookup x=some c->X.s₀.heap.objs.size<=c
 hd:X.calm=true->X.A.handled=none
 frames:X.A.frames=some X.stack
 stk:X.stack=X.outer\/(X.stack=X.env :: X.outer/\X.env.frame=some X.env.locals)
 exf:∀ b∈X.ex,b≠X.env.locals/\∀ x c,X.env.cells.lookup x=some c->c≠b
 bs:∀ b o,X.base.get? b=some o->X.s₀.heap.get? b=some o/\X.H₀ b=none
 bsz:X.base.objs.size<=X.s₀.heap.objs.size
 noex:∀ b o,X.base.get? b=some o->b∉X.ex
 exfs:∀ b∈X.ex,b∉X.fs
 funs:X.s₀.heap.FunFrames X.base X.outer
 frf:∀ b∈X.fs,X.H₀ b=none
structure Inv (X:Cx) (pins:List (Addr × Obj)) (σ:List (Option V)) (H:Hp) (s:Shared):Prop where
 ok:X.Ok
 os:s.os=X.s₀.os
 bare:AllBare s.gens
 base:Un X.fs X.ex X.H₀ H X.s₀.heap s.heap
 loc:∃ m,s.heap.Ns X.env.locals m/\∀ (i:Nat) (x:Str) (v:V),X.N[i]? = some x->σ[i]? = some (some v)->Vis X.env.scope x->∃ u,RelV v u/\Look X.env s.heap m x u
 cell:∀ x c,X.env.cells.lookup x=some c->∃ v,s.heap.IsCell c v
 free:H X.env.locals=none
 freeC:∀ x c,X.env.cells.lookup x=some c->H c=none
 pin:∀ p∈X.pn++pins,s.heap.get? p.1=some p.2/\H p.1=none/\p.1≠X.env.locals/\p.1∉X.fs/\∀ v,p.2.data≠.cell v
 hok:HOk X.prog X.w H s.heap
 len:σ.length=X.N.length
section
variable {X:Cx} {pins:List (Addr × Obj)} {σ:List (Option V)} {H H':Hp} {s:Shared} {h':Heap}
theorem Cx.Ok.nofr (ok:X.Ok) (e:X.base.get? b=some o):b∉X.fs:=fun hb=>by
 have:=(ok.funs.mem hb).1
 rw [e] at this; cases this
theorem Inv.bs (I:Inv X pins σ H s):∀ b o,X.base.get? b=some o->s.heap.get? b=some o/\H b=none:=fun b o e =>
 ⟨I.base.keep b o (I.ok.bs b o e).1 (I.ok.bs b o e).2 (I.ok.nofr e) (I.ok.noex b o e),I.base.free b o (I.ok.bs b o e).1 (I.ok.bs b o e).2 (I.ok.noex b o e)⟩
theorem Inv.bk (I:Inv X pins σ H s):∀ b o,X.base.get? b=some o->s.heap.get? b=some o:=fun b o e=>(I.bs b o e).1
theorem Inv.mod (I:Inv X pins σ H s):Mod X.K X.mg X.base:=I.ok.mod
theorem Inv.kIn (I:Inv X pins σ H s):X.K.In s.heap:=I.ok.mod.kin.keeps I.bk
theorem Inv.nolimit (I:Inv X pins σ H s):s.heap.NoLimit:=I.ok.mod.nolimit.keeps I.bk
theorem Inv.fr (I:Inv X pins σ H s):∃ m,Fr X.base X.env.locals s.heap m :=
 let ⟨m,hn,_⟩:=I.loc
 ⟨m,hn,I.bk,xaB I.ok.bsz I.ok.above⟩
theorem Inv.lt (I:Inv X pins σ H s):X.env.locals<s.heap.objs.size:=let ⟨_,hn,_⟩:=I.loc; hn.lt
theorem Inv.sz (I:Inv X pins σ H s):X.s₀.heap.objs.size<=s.heap.objs.size:=xaB I.ok.above (xaL I.lt)
theorem Inv.nofs (I:Inv X pins σ H s) (h:s.heap.objs.size<=a):a∉X.fs:=fun hb=>by
 obtain ⟨_,o,ho,_⟩:=I.ok.funs.mem hb
 exact absurd (xaA (xal ho) (xaB I.sz h)) (xa2 _)
theorem Inv.cne (I:Inv X pins σ H s):∀ x c,X.env.cells.lookup x=some c->c≠X.env.locals:=fun x c e z=>by
 obtain ⟨v,o,ho,hd⟩:=I.cell x c e
 obtain ⟨m,⟨o',es,ep,ho',hd',_⟩,_⟩:=I.loc
 rw [z,ho'] at ho; cases ho; rw [hd'] at hd; cases hd
theorem Inv.funs (I:Inv X pins σ H s):s.heap.FunFrames X.base X.outer:=by
 have all:∀ (l:List Env),(∀ b∈frs l,b∈X.fs)->X.s₀.heap.FunFrames X.base l->s.heap.FunFrames X.base l:=by
  intro l
  induction l with
  | nil=>intro _ _; trivial
  | cons env r ih =>
   intro hs hl
   obtain ⟨hk,⟨L,o,hf,hn,ho,hd⟩,hr⟩:=hl
   have hL:L∈X.fs:=hs L (by unfold frs; rw [xa5,hf]; exact xah)
   obtain ⟨sl,e⟩:=I.base.slot L o ho (I.ok.frf L hL) hL fun z=>I.ok.exfs L z hL
   exact ⟨hk,⟨L,_,hf,hn,e,hd⟩,ih (fun b hb=>hs b (by unfold frs; rw [xa5,hf]; exact xaf _ hb)) hr⟩
 exact all X.outer (fun _ hb=>hb) I.ok.funs
theorem Inv.stack (I:Inv X pins σ H s):s.heap.FunFrames X.base X.stack:=by
 rcases I.ok.stk with e | ⟨e,hf⟩
 ·rw [e]; exact I.funs
 ·rw [e]
  obtain ⟨m,hn,_⟩:=I.loc
  refine .cons (by rw [I.ok.kind]; decide) hf hn ?_ I.funs
  exact Heap.get?_none_of_le (xaB I.ok.bsz I.ok.above)
theorem Inv.stkSub (I:Inv X pins σ H s):∀ b∈frs X.stack,b∈X.env.locals :: X.fs:=fun b hb=>by
 rcases I.ok.stk with e | ⟨e,hf⟩
 ·rw [e] at hb; exact xaf _ hb
 ·rw [e] at hb
  unfold frs at hb
  rw [xa5,hf] at hb
  exact hb
theorem Inv.stkFree (I:Inv X pins σ H s):∀ b∈frs X.stack,H b=none:=fun b hb=>by
 rcases xaj.mp (I.stkSub b hb) with e | hb
 ·rw [e]; exact I.free
 ·obtain ⟨_,o,ho,_⟩:=I.ok.funs.mem hb
  exact I.base.free b o ho (I.ok.frf b hb) fun z=>I.ok.exfs b z hb
theorem Inv.step {g':Array GenState} {t':Nat} {d':Drawn} {ch:List Addr} (I:Inv X pins σ H s)
  (hch:∀ b∈ch,(b∈X.ex\/X.s₀.heap.objs.size<=b)/\b≠X.env.locals/\(∀ x c,X.env.cells.lookup x=some c->c≠b)/\∀ p∈X.pn++pins,p.1≠b)
  (keep:∀ b o,b≠X.env.locals->b∉X.fs->b∉ch->s.heap.get? b=some o->H b=none->h'.get? b=some o)
  (slot:∀ b o,b≠X.env.locals->b∈X.fs->b∉ch->s.heap.get? b=some o->H b=none->∃ sl,h'.get? b=some { o with slots:=sl }) (free:∀ b o,b∉ch->s.heap.get? b=some o->H b=none->H' b=none)
  (there:∀ b o,b∉ch->s.heap.get? b=some o->∃ o',h'.get? b=some o')
  (tups:∀ b xs,H b=some (.tup xs)->H' b=some (.tup xs)) (frzs:∀ b o u,H b=some (.frz o u)->H' b=some (.frz o u)) (tbls:∀ b ps,H b=some (.tbl ps)->∃ more,H' b=some (.tbl (ps++more)))
  (ns:∀ m,s.heap.Ns X.env.locals m->h'.Ns X.env.locals m) (hok:HOk X.prog X.w H' h') (hg:AllBare g') :
  Inv X pins σ H' { s with heap:=h',gens:=g',drawn:=d',toks:=t' }:=by
 have neL:∀ b o,X.s₀.heap.get? b=some o->b≠X.env.locals:=fun b o e=>xar (xaA (xal e) I.ok.above)
 have neC:∀ b o,X.s₀.heap.get? b=some o->b∉X.ex->b∉ch:=fun b o e hx hb=>by
  rcases (hch b hb).1 with z | z
  ·exact hx z
  ·exact absurd (xaA (xal e) z) (xa2 _)
 have cellK:∀ x c,X.env.cells.lookup x=some c->∀ v,s.heap.IsCell c v->h'.IsCell c v:=fun x c e v hx9=>by
  obtain ⟨o,ho,hd⟩:=hx9
  have nch:c∉ch:=fun z=>(hch c z).2.2.1 x c e rfl
  by_cases hc:c∈X.fs
  ·obtain ⟨sl,q⟩:=slot c o (I.cne x c e) hc nch ho (I.freeC x c e)
   exact ⟨_,q,hd⟩
  ·exact ⟨o,keep c o (I.cne x c e) hc nch ho (I.freeC x c e),hd⟩
 refine ⟨I.ok,I.os,hg,⟨fun b o e n hb hx=>?_,fun b o e n hb hx=>?_,fun b o e n hx=>?_,fun b o e hx=>?_,fun b xs e=>tups b xs (I.base.tups b xs e),fun b o xs e=>frzs b o xs (I.base.frzs b o xs e),fun b ps e=>?_⟩,?_,fun x c e=>?_,?_,fun x c e=>?_,fun p hp=>?_,hok,I.len⟩
 ·exact keep b o (neL b o e) hb (neC b o e hx) (I.base.keep b o e n hb hx) (I.base.free b o e n hx)
 ·obtain ⟨sl,e1⟩:=I.base.slot b o e n hb hx
  obtain ⟨sl',e2⟩:=slot b _ (neL b o e) hb (neC b o e hx) e1 (I.base.free b o e n hx)
  exact ⟨sl',e2⟩
 ·obtain ⟨o',e1⟩:=I.base.there b o e hx
  exact free b o' (neC b o e hx) e1 (I.base.free b o e n hx)
 ·obtain ⟨o',e1⟩:=I.base.there b o e hx
  exact there b o' (neC b o e hx) e1
 ·obtain ⟨m1,e1⟩:=I.base.tbls b ps e
  obtain ⟨m2,e2⟩:=tbls b _ e1
  exact ⟨m1++m2,by rw [e2,xbC]⟩
 ·obtain ⟨m,hn,hl⟩:=I.loc
  refine ⟨m,ns m hn,fun i x v e1 e2 e3=>?_⟩
  obtain ⟨u,r,l⟩:=hl i x v e1 e2 e3
  refine ⟨u,r,?_⟩
  rcases l with l | ⟨k,c,e,z⟩
  ·exact .inl l
  ·exact .inr ⟨k,c,e,cellK x c e _ z⟩
 ·obtain ⟨v,z⟩:=I.cell x c e
  exact ⟨v,cellK x c e v z⟩
 ·obtain ⟨m,⟨o,_,_,ho,_⟩,_⟩:=I.loc
  exact free _ o (fun z=>(hch _ z).2.1 rfl) ho I.free
 ·obtain ⟨v,o,ho,hd⟩:=I.cell x c e
  exact free c o (fun z=>(hch c z).2.2.1 x c e rfl) ho (I.freeC x c e)
 ·obtain ⟨e,n,ne,nf,d⟩:=I.pin p hp
  have nch:p.1∉ch:=fun z=>(hch p.1 z).2.2.2 p hp rfl
  exact ⟨keep p.1 p.2 ne nf nch e n,free p.1 p.2 nch e n,ne,nf,d⟩
theorem Inv.un {t':Nat} (I:Inv X pins σ H s) (u:Un X.fs [] H H' s.heap h') (hok:HOk X.prog X.w H' h'):Inv X pins σ H' { s with heap:=h',toks:=t' }:=by
 obtain ⟨m,⟨o,es,ep,ho,r⟩,_⟩:=id I.loc
 obtain ⟨sl,hL⟩:=u.any ho I.free (by simp)
 exact I.step (g':=s.gens) (d':=s.drawn) (ch:=[]) (fun _ z=>nomatch z) (fun b o _ hb _ e n=>u.keep b o e n hb (by simp)) (fun b o _ hb _ e n=>u.slot b o e n hb (by simp)) (fun b o _ e n=>u.free b o e n (by simp)) (fun b o _ e=>u.there b o e (by simp)) u.tups u.frzs u.tbls (fun m' hm=>by
  obtain ⟨o',es',ep',ho',r'⟩:=hm
  rw [ho] at ho'; cases ho'
  exact ⟨_,es',ep',hL,r'⟩) hok I.bare
theorem Inv.call {g':Array GenState} {t':Nat} {d':Drawn} {ch:List Addr} (I:Inv X pins σ H s) (u:Un (frs X.stack) ch H H' s.heap h') (hok:HOk X.prog X.w H' h') (hg:AllBare g')
  (hch:∀ b∈ch,(b∈X.ex\/X.s₀.heap.objs.size<=b)/\b≠X.env.locals/\(∀ x c,X.env.cells.lookup x=some c->c≠b)/\∀ p∈X.pn++pins,p.1≠b) :
  Inv X pins σ H' { s with heap:=h',gens:=g',drawn:=d',toks:=t' }:=by
 obtain ⟨m,⟨o,es,ep,ho,r⟩,_⟩:=id I.loc
 obtain ⟨sl,hL⟩:=u.any ho I.free fun z=>(hch _ z).2.1 rfl
 exact I.step (ch:=ch) hch (fun b o hL hb hc e n=>u.keep b o e n (fun z=>(xaj.mp (I.stkSub b z)).elim hL hb) hc) (fun b o _ _ hc e n=>u.any e n hc) (fun b o hc e n=>u.free b o e n hc) (fun b o hc e=>u.there b o e hc) u.tups u.frzs u.tbls (fun m' hm=>by
  obtain ⟨o',es',ep',ho',r'⟩:=hm
  rw [ho] at ho'; cases ho'
  exact ⟨_,es',ep',hL,r'⟩) hok hg
theorem Inv.turned {t':Nat} {it:Addr} (I:Inv X pins σ H s) (k:∀ b o,b≠it->s.heap.get? b=some o->h'.get? b=some o) (hn:H it=none) (hL:it≠X.env.locals)
  (h1:it∈X.ex\/X.s₀.heap.objs.size<=it) (h2:∀ x c,X.env.cells.lookup x=some c->c≠it) (h3:∀ p∈X.pn++pins,p.1≠it):Inv X pins σ H { s with heap:=h',toks:=t' }:=by
 have nit:∀ b u,H b=some u->b≠it:=fun b u e z=>by rw [z,hn] at e; cases e
 refine I.step (g':=s.gens) (d':=s.drawn) (ch:=[it]) (fun b hb=>?_) (fun b o _ _ hc e _=>k b o (fun z=>hc (by simp [z])) e) (fun b o _ _ hc e _=>⟨o.slots,k b o (fun z=>hc (by simp [z])) e⟩) (fun _ _ _ _ n=>n)
  (fun b o hc e=>⟨o,k b o (fun z=>hc (by simp [z])) e⟩) (fun _ _ e=>e) (fun _ _ _ e=>e) (fun b ps e=>⟨#[],by rw [e]; simp⟩) (fun m hm=>?_) (fun b u e=>?_) I.bare
 ·have e:b=it:=by simpa using hb
  subst e
  exact ⟨h1,hL,h2,h3⟩
 ·obtain ⟨o,es,ep,ho,r⟩:=hm
  exact ⟨o,es,ep,k _ o (Ne.symm hL) ho,r⟩
 ·refine (I.hok b u e).stay (fun c v hc q=>k c v ?_ q) (fun _ q=>q) fun _ _ q=>q
  rcases hc with z | z
  ·rw [z]; exact nit b u e
  ·exact nit c _ z
theorem Inv.tok (I:Inv X pins σ H s) (t:Nat):Inv X pins σ H { s with toks:=t }:=I.un (h':=s.heap) (t':=t) Un.refl I.hok
theorem Inv.kept (I:Inv X pins σ H s) (k:∀ b u,s.heap.get? b=some u->h'.get? b=some u):Inv X pins σ H { s with heap:=h',toks:=t' }:=I.un (Un.kept k) (I.hok.kept k)
theorem Inv.laid (I:Inv X pins σ H s) (k:∀ b u,s.heap.get? b=some u->h'.get? b=some u) (hp:s.heap.objs.size<=a) (new:ObjOk X.prog X.w (upd H a o) h' a o) :
  Inv X pins σ (upd H a o) { s with heap:=h',toks:=t' }:=I.un (Un.laid k hp (I.hok.fresh hp)) (I.hok.laid k hp new)
theorem Inv.write (I:Inv X pins σ H s) (mu:Mut (H x)) (he:e=x\/H e=some (.own x)) (k:∀ b u,b≠e->s.heap.get? b=some u->h'.get? b=some u) (heo:∃ u,h'.get? e=some u)
  (new:ObjOk X.prog X.w (upd H x o) h' x o):Inv X pins σ (upd H x o) { s with heap:=h',toks:=t' }:=I.un (Un.write mu he k heo) (I.hok.write mu he k heo new)
theorem Inv.pins_of (I:Inv X pins σ H s) (h:∀ p∈pins',s.heap.get? p.1=some p.2/\H p.1=none/\p.1≠X.env.locals/\p.1∉X.fs/\∀ v,p.2.data≠.cell v):Inv X pins' σ H s :=
 ⟨I.ok,I.os,I.bare,I.base,I.loc,I.cell,I.free,I.freeC,fun p hp=>(xak.mp hp).elim (fun z=>I.pin p (xav _ z)) (h p),I.hok,I.len⟩
theorem nodup_ix {N:List Str} (hN:N.Nodup) {i j:Nat} {x:Str} (a:N[i]? = some x) (b:N[j]? = some x):i=j:=by
 obtain ⟨h1,e1⟩:=xay.mp a
 obtain ⟨h2,e2⟩:=xay.mp b
 exact (List.getElem_inj hN).mp (e1.trans e2.symm)
theorem store_ok2 {M:Model} {A:Around} {E:Value->Shared->Prop} {i:Nat} {x:Str} {v:V} {u:Value} {Q:Unit->Shared->Prop} (I:Inv X pins σ H s) (hN:X.N.Nodup) (hi:X.N[i]? = some x) (hx:Loc X.env.scope x) (r:RelV v u)
  (h:∀ s',Inv X pins (σ.set i (some v)) H s'->(∃ a,Heap.SameBut a s.heap s'.heap/\(a=X.env.locals\/X.env.cells.lookup x=some a))->Q () s') (hf:X.fn x=true\/X.env.scope.names.lookup x=some .local:=by first | exact .inl rfl | exact .inr rfl | assumption):wpAny M A (storeName X.env x u) Q E s:=by
 obtain ⟨m,hn,hl⟩:=id I.loc
 have hcls:(X.env.scope.kind == .class || (X.env.scope.kind == .module && X.env.locals != X.env.globals))=false:=by rw [I.ok.kind]; rfl
 have hiσ:i<σ.length:=by rw [I.len]; exact (xay.mp hi).1
 have cne:=I.cne
 have tracked:∀ {a:Addr} {h':Heap},(∃ o,s.heap.get? a=some o/\H a=none)->Heap.SameBut a s.heap h'->HOk X.prog X.w H h':=fun {a h'} ha hs b ob e=>by
  obtain ⟨_,_,hfree⟩:=ha
  refine (I.hok b ob e).stay (fun c w' hc q=>(hs.2 c ?_).trans q) (fun _ q=>q) fun _ _ q=>q
  rintro rfl
  rcases hc with rfl | hc
  ·rw [hfree] at e; cases e
  ·rw [hfree] at hc; cases hc
 rcases hx with hk | hk
 ·refine wpAny_storeName_local hk hn (fun h' hn' hs=>?_) hcls
  obtain ⟨oL,_,_,hoL,_⟩:=id hn
  refine h _ ⟨I.ok,I.os,I.bare,⟨fun b o e n hb hx=>?_,fun b o e n hb hx=>?_,I.base.free,fun b o e hx=>?_,I.base.tups,I.base.frzs,I.base.tbls⟩,⟨_,hn',fun j y v' e1 e2 e3=>?_⟩,fun y c e=>?_,I.free,I.freeC,fun p hp=>?_,tracked ⟨oL,hoL,I.free⟩ hs,by simpa using I.len⟩ ⟨_,hs,.inl rfl⟩
  ·exact (hs.2 b (xar (xaA (xal e) I.ok.above))).trans (I.base.keep b o e n hb hx)
  ·obtain ⟨sl,e1⟩:=I.base.slot b o e n hb hx
   exact ⟨sl,(hs.2 b (xar (xaA (xal e) I.ok.above))).trans e1⟩
  ·obtain ⟨o',e1⟩:=I.base.there b o e hx
   exact ⟨o',(hs.2 b (xar (xaA (xal e) I.ok.above))).trans e1⟩
  ·by_cases hj:j=i
   ·subst hj
    rw [hi] at e1; cases e1
    rw [List.getElem?_set_self hiσ] at e2
    cases e2
    exact ⟨u,r,.inl ⟨hk,by simp⟩⟩
   ·rw [List.getElem?_set_ne (Ne.symm hj)] at e2
    obtain ⟨u',r',q⟩:=hl j y v' e1 e2 e3
    refine ⟨u',r',?_⟩
    rcases q with ⟨k,e⟩ | ⟨k,c,e,z⟩
    ·refine .inl ⟨k,?_⟩
     have:y≠x:=fun e=>hj (nodup_ix hN e1 (e ▸ hi))
     simp [this,e]
    ·exact .inr ⟨k,c,e,z.sameBut hs (cne y c e)⟩
  ·obtain ⟨w',z⟩:=I.cell y c e
   exact ⟨w',z.sameBut hs (cne y c e)⟩
  ·obtain ⟨e,n,ne,nf,d⟩:=I.pin p hp
   exact ⟨(hs.2 p.1 ne).trans e,n,ne,nf,d⟩
 ·have hfn:X.fn x=true:=by
   rcases hf with z | z
   ·exact z
   ·rw [z] at hk; cases hk
  obtain ⟨c,hc⟩:=I.ok.has x (.inl hk)
  obtain ⟨w',z⟩:=I.cell x c hc
  refine wpAny_storeName_cell I.ok.kind hk hc z (fun h' hc' hs=>?_)
  obtain ⟨oc,hoc,hocd⟩:=id z
  refine h { s with heap:=h' } ⟨I.ok,I.os,I.bare,⟨fun b o e n hb hx=>?_,fun b o e n hb hx=>?_,I.base.free,fun b o e hx=>?_,I.base.tups,I.base.frzs,I.base.tbls⟩,⟨m,hn.sameBut hs (Ne.symm (cne x c hc)),fun j y v' e1 e2 e3=>?_⟩,fun y c' e=>?_,I.free,I.freeC,fun p hp=>?_,tracked ⟨oc,hoc,I.freeC x c hc⟩ hs,by simpa using I.len⟩ ⟨c,hs,.inr hc⟩
  ·exact (hs.2 b (xar (xaA (xal e) (I.ok.cab x c hfn hc)))).trans (I.base.keep b o e n hb hx)
  ·obtain ⟨sl,e1⟩:=I.base.slot b o e n hb hx
   exact ⟨sl,(hs.2 b (xar (xaA (xal e) (I.ok.cab x c hfn hc)))).trans e1⟩
  ·obtain ⟨o',e1⟩:=I.base.there b o e hx
   exact ⟨o',(hs.2 b (xar (xaA (xal e) (I.ok.cab x c hfn hc)))).trans e1⟩
  ·by_cases hj:j=i
   ·subst hj
    rw [hi] at e1; cases e1
    rw [List.getElem?_set_self hiσ] at e2
    cases e2
    exact ⟨u,r,.inr ⟨.inl hk,c,hc,hc'⟩⟩
   ·rw [List.getElem?_set_ne (Ne.symm hj)] at e2
    obtain ⟨u',r',q⟩:=hl j y v' e1 e2 e3
    refine ⟨u',r',?_⟩
    rcases q with q | ⟨k,c',e,z'⟩
    ·exact .inl q
    ·refine .inr ⟨k,c',e,z'.sameBut hs ?_⟩
     rintro rfl
     exact hj (nodup_ix hN e1 (I.ok.inj _ _ _ e hc ▸ hi))
  ·by_cases hcc:c'=c
   ·subst hcc; exact ⟨_,hc'⟩
   ·obtain ⟨w2,z2⟩:=I.cell y c' e
    exact ⟨w2,z2.sameBut hs hcc⟩
  ·obtain ⟨e,n,ne,nf,d⟩:=I.pin p hp
   refine ⟨(hs.2 p.1 ?_).trans e,n,ne,nf,d⟩
   intro q
   rw [q,hoc] at e
   have q':oc=p.2:=Option.some.inj e
   exact d w' (by rw [<- q']; exact hocd)
theorem store_ok (I:Inv X pins σ H s) (hN:X.N.Nodup) (hi:X.N[i]? = some x) (hx:Loc X.env.scope x) (r:RelV v u)
  (h:∀ s',Inv X pins (σ.set i (some v)) H s'->Q () s') (hf:X.fn x=true\/X.env.scope.names.lookup x=some .local:=by first | exact .inl rfl | exact .inr rfl | assumption):wpAny M A (storeName X.env x u) Q E s :=
 store_ok2 I hN hi hx r (fun s' I' _=>h s' I') hf
theorem Inv.call' (I:Inv X pins σ H s) (ho:s'.os=s.os) (u:Un (frs X.stack) ch H H' s.heap s'.heap) (hok:HOk X.prog X.w H' s'.heap) (hg:AllBare s'.gens)
  (hch:∀ b∈ch,(b∈X.ex\/X.s₀.heap.objs.size<=b)/\b≠X.env.locals/\(∀ x c,X.env.cells.lookup x=some c->c≠b)/\∀ p∈X.pn++pins,p.1≠b):Inv X pins σ H' s':=by
 obtain ⟨h',g',d',t',o'⟩:=s'
 have e:o'=s.os:=ho
 subst e
 exact I.call (g':=g') (t':=t') (d':=d') u hok hg hch
end
abbrev XK:=Value->Option Addr->Hp->Prop
abbrev St:=List (Option V)
abbrev VK:=V->Hp->Prop
abbrev TE:=St->Hp->VK->Prop
abbrev TT:=St->Hp->(Bool->Hp->Prop)->Prop
abbrev TA:=St->Hp->(List V->Hp->Prop)->Prop
structure Ends where
 nx:St->Hp->Prop
 rt:VK
 bk:St->Hp->Prop:=fun _ _=>False
 ct:St->Hp->Prop:=fun _ _=>False
abbrev TS:=Ends->St->Hp->Prop
def EP (X:Cx) (pins:List (Addr × Obj)) (σ:St) (Q:VK) (u:Value) (s':Shared):Prop:=∃ v H',Inv X pins σ H' s'/\RelV v u/\Q v H'
def TP (X:Cx) (pins:List (Addr × Obj)) (σ:St) (Q:Bool->Hp->Prop) (b:Bool) (s':Shared):Prop:=∃ H',Inv X pins σ H' s'/\Q b H'
def AP (X:Cx) (pins:List (Addr × Obj)) (σ:St) (Q:List V->Hp->Prop) (us:List Value) (s':Shared):Prop:=∃ vs H',Inv X pins σ H' s'/\Vals vs us/\Q vs H'
def SP (X:Cx) (pins:List (Addr × Obj)) (D:Ends) (f:Flow) (s':Shared):Prop :=
 match f with
 | .next=>∃ σ' H',Inv X pins σ' H' s'/\D.nx σ' H'
 | .brk=>∃ σ' H',Inv X pins σ' H' s'/\D.bk σ' H'
 | .cont=>∃ σ' H',Inv X pins σ' H' s'/\D.ct σ' H'
 | .ret u=>∃ v σ' H',Inv X pins σ' H' s'/\RelV v u/\D.rt v H'
def PE (X:Cx) (e:Expr) (t:TE):Prop :=
 ∀ (pins:List (Addr × Obj)) (s:Shared) (σ:St) (H:Hp) (Q:VK),Inv X pins σ H s->t σ H Q->wpAny (model X.prog X.w) X.A (eval e X.env) (EP X pins σ Q) X.xe s
def PT (X:Cx) (e:Expr) (t:TT):Prop :=
 ∀ (pins:List (Addr × Obj)) (s:Shared) (σ:St) (H:Hp) (Q:Bool->Hp->Prop),Inv X pins σ H s->t σ H Q->wpAny (model X.prog X.w) X.A (isTrue e X.env (eval e X.env)) (TP X pins σ Q) X.xe s
def PW (X:Cx) (e:Expr) (t:TT):Prop :=
 ∀ (whole:Sem Value) (pins:List (Addr × Obj)) (s:Shared) (σ:St) (H:Hp) (Q:Bool->Hp->Prop),Inv X pins σ H s->t σ H Q->wpAny (model X.prog X.w) X.A (isTrue e X.env whole) (TP X pins σ Q) X.xe s
def PA (X:Cx) (es:List Expr) (t:TA):Prop :=
 ∀ (pos:Pos) (pins:List (Addr × Obj)) (s:Shared) (σ:St) (H:Hp) (Q:List V->Hp->Prop),Inv X pins σ H s->t σ H Q->wpAny (model X.prog X.w) X.A (spliced (backTo pos (starEach es X.env))) (AP X pins σ Q) X.xe s
def PS (X:Cx) (st:Stmt) (t:TS):Prop :=
 ∀ (pins:List (Addr × Obj)) (s:Shared) (σ:St) (H:Hp) (D:Ends),Inv X pins σ H s->t D σ H->wpAny (model X.prog X.w) X.A (exec st X.env) (SP X pins D) X.xe s
def PSs (X:Cx) (st:List Stmt) (t:TS):Prop :=
 ∀ (pins:List (Addr × Obj)) (s:Shared) (σ:St) (H:Hp) (D:Ends),Inv X pins σ H s->t D σ H->wpAny (model X.prog X.w) X.A (execs st X.env) (SP X pins D) X.xe s
theorem thn {α:Type} {t:Sem α} {Q Q':α->Shared->Prop} {M:Model} {A:Around} {E:Value->Shared->Prop} {s:Shared} (h:wpAny M A t Q E s) (hQ:∀ a s,Q a s->Q' a s):wpAny M A t Q' E s:=xaZ h hQ fun _ _ x=>x
section
variable {X:Cx}
def tVar (i:Nat):TE:=fun σ H Q=>∃ v,σ[i]? = some (some v)/\Q v H
def tC (v:V):TE:=fun _ H Q=>Q v H
theorem pe_var (hN:X.N[i]? = some x) (hv:Vis X.env.scope x) (hd:(x == ("__debug__" : Str))=false:=by decide) (hcd:(x == ("__classdict__" : Str))=false:=by decide):PE X (.Name x pos) (tVar i):=by
 intro pins s σ H Q I h
 obtain ⟨v,e,h⟩:=h
 obtain ⟨m,hn,hl⟩:=I.loc
 obtain ⟨u,r,l⟩:=hl i x v hN e hv
 have fin:EP X pins σ Q u s:=⟨v,H,I,r,h⟩
 rcases l with ⟨hk,hm⟩ | ⟨hk,c,hc,hcell⟩
 ·exact wpAny_Name (wpAny_loadName_local I.ok.kind hk hn hm fin) hd
 ·rcases hk with hk | hk
  ·exact wpAny_Name (wpAny_loadName_cell I.ok.kind hk hc hcell fin) hd
  ·exact wpAny_Name (wpAny_loadName_free I.ok.kind hk hc hcell fin hcd) hd
theorem pe_int {i j pos}:PE X (.Constant (.int i) j pos) (tC (.int i)):=fun _ _ _ H _ I h=>wpAny_Constant_int ⟨.int i,H,I.tok _,⟨_,rfl⟩,h⟩
theorem pe_bl {b j pos}:PE X (.Constant (.bool b) j pos) (tC (.bl b)):=fun _ _ _ H _ I h=>Constant_bool ⟨.bl b,H,I,rfl,h⟩
theorem pe_non {j pos}:PE X (.Constant .none j pos) (tC .non):=fun _ _ _ H _ I h=>Constant_none ⟨.non,H,I,rfl,h⟩
theorem pe_str {x j pos}:PE X (.Constant (.str x) j pos) (tC (.str x)):=fun _ _ _ H _ I h=>Calls.Constant_str ⟨.str x,H,I.tok _,⟨_,rfl⟩,h⟩
def Gl (X:Cx) (x:Str):Prop:=X.env.kindOf x=some .globalImplicit
theorem ld_glob (I:Inv X pins σ H s) (hg:Gl X x) (hm:X.mg x=some u) (h:Q u s)
  (hd:(x == ("__debug__" : Str))=false:=by decide):wpAny (model X.prog X.w) X.A (eval (.Name x pos) X.env) Q E s :=
 Calls.Name_function_global I.ok.kind hg (Calls.loadGlobal_global (by rw [I.ok.glob]; exact I.mod.glob.keeps I.bk) hm h) hd
theorem ld_blt (I:Inv X pins σ H s) (hg:Gl X x) (hm:X.mg x=none) (hv:bootBuiltins x=some u) (h:Q u s)
  (hn:x ≠ "__name__" := by decide) (hd:(x == ("__debug__" : Str))=false:=by decide):wpAny (model X.prog X.w) X.A (eval (.Name x pos) X.env) Q E s:=by
 obtain ⟨mb,h1,h2⟩:=I.mod.blt
 exact Calls.Name_function_global I.ok.kind hg (Calls.loadGlobal_builtin (by rw [I.ok.glob]; exact I.mod.glob.keeps I.bk) hm (by rw [I.ok.blt]; exact h1.keeps I.bk) ((h2 x hn).trans hv) h) hd
theorem pe_glob (hg:Gl X x) (hm:X.mg x=some u) (r:RelV v u) (hd:(x == ("__debug__" : Str))=false:=by decide):PE X (.Name x pos) (tC v) :=
 fun _ _ _ H _ I h=>ld_glob I hg hm ⟨v,H,I,r,h⟩ hd
theorem pe_bltn (hg:Gl X x) (hm:X.mg x=none) (hv:bootBuiltins x=some u) (r:RelV v u) (hn:x ≠ "__name__" := by decide) (hd:(x == ("__debug__" : Str))=false:=by decide):PE X (.Name x pos) (tC v) :=
 fun _ _ _ H _ I h=>ld_blt I hg hm hv ⟨v,H,I,r,h⟩ hn hd
variable {a b:Expr} {ta tb:TE} {pos:Pos}
def tB (t:TE):TT:=fun σ H Q=>t σ H fun x H1=>∃ c,x=.bl c/\Q c H1
theorem pt_val (h:PE X e t) (he:∀ whole,isTrue e X.env whole=(do let v <- whole; standAt e.pos; holding [v] (truthy v)):=by intro _; rfl):PT X e (tB t):=by
 intro pins s σ H Q I hw
 refine isTrue_plain (thn (h pins s σ H _ I hw) fun v s1 hx5=>L2.ex2 hx5 fun x H1 I1 r1 q1=>?_) (he _)
 obtain ⟨d,rfl,q⟩:=q1
 cases r1
 exact wpAny_truthy_bool ⟨H1,I1,q⟩
variable {tA tB':TT} {rest:List Expr}
def tOr (t u:TT):TT:=fun σ H Q=>t σ H fun c H1=>if c=true then Q true H1 else u σ H1 Q
def tNot (t:TT):TT:=fun σ H Q=>t σ H fun c H1=>Q (!c) H1
theorem pw_or1 (ha:PT X a tA):PW X (.BoolOp .Or [a] pos) tA:=by
 intro wh pins s σ H Q I h
 refine isTrue_or (thn (ha pins s σ H Q I h) fun c s1 e=>?_)
 cases c with
 | false=>exact isTrue_or_nil e
 | true=>exact e
theorem pw_or (ha:PT X a tA) (hb:PW X (.BoolOp .Or (b :: rest) pos) tB'):PW X (.BoolOp .Or (a :: b :: rest) pos) (tOr tA tB'):=by
 intro wh pins s σ H Q I h
 refine isTrue_or (thn (ha pins s σ H _ I h) fun c s1 hx9=>?_)
 obtain ⟨H1,I1,q1⟩:=hx9
 cases c with
 | true=>exact ⟨H1,I1,q1⟩
 | false=>exact hb wh pins s1 σ H1 Q I1 q1
theorem pt_not (ha:PT X a tA):PT X (.UnaryOp .Not a pos) (tNot tA):=by
 intro pins s σ H Q I h
 exact isTrue_not (ha pins s σ H (fun c H1=>Q (!c) H1) I h)
def tAndV (ta tb:TE):TE:=fun σ H Q=>ta σ H fun x H1=>∃ c,x=.bl c/\if c=true then tb σ H1 Q else Q (.bl false) H1
def tNotV (ta:TE):TE:=fun σ H Q=>ta σ H fun x H1=>∃ c,x=.bl c/\Q (.bl (!c)) H1
theorem pe_one {op} (h:PE X a t):PE X (.BoolOp op [a] pos) t:=fun pins s σ H Q I hw=>BoolOp_one (h pins s σ H Q I hw)
theorem pe_and (ha:PE X a ta) (hb:PE X (.BoolOp .And (b :: rest) pos) tb):PE X (.BoolOp .And (a :: b :: rest) pos) (tAndV ta tb):=by
 intro pins s σ H Q I h
 refine BoolOp_and (thn (ha pins s σ H _ I h) fun v s1 hx5=>L2.ex2 hx5 fun x H1 I1 r1 q1=>?_)
 obtain ⟨c,rfl,q1⟩:=q1
 cases r1
 refine wpAny_truthy_bool ?_
 cases c with
 | true=>exact hb pins s1 σ H1 Q I1 q1
 | false=>exact ⟨.bl false,H1,I1,rfl,q1⟩
theorem pe_not (ha:PE X a ta):PE X (.UnaryOp .Not a pos) (tNotV ta):=by
 intro pins s σ H Q I h
 refine UnaryOp_ (thn (ha pins s σ H _ I h) fun v s1 hx5=>L2.ex2 hx5 fun x H1 I1 r1 q1=>?_)
 obtain ⟨c,rfl,q1⟩:=q1
 cases r1
 exact not_of (wpAny_truthy_bool ⟨.bl (!c),H1,I1,rfl,q1⟩)
end
def SqL (K:PySem.W.Frag) (H:Hp) (a:Addr) (xs:List V):Prop :=
 Rd H a (.lst xs) \/
  ∃ (o:Obj) (its:Array Value) (n:Nat),K.lookup a=some o/\o.cls=.type "list"/\o.dict=none/\o.data=.seq its n/\its.size<=sizeLine/\Vals xs its.toList
def SqT (K:PySem.W.Frag) (H:Hp) (a:Addr) (xs:List V):Prop :=
 Rd H a (.tup xs) \/
  ∃ (o:Obj) (its:Array Value) (n:Nat),K.lookup a=some o/\o.cls=.type "tuple"/\o.data=.seq its n/\its.size<=sizeLine/\Vals xs its.toList
def absV:Value->Option V
 | .none=>some .non
 | .bool b=>some (.bl b)
 | .int i _=>some (.int i)
 | .str x _=>some (.str x)
 | .bytes b _=>some (.byt b)
 | .float b _=>some (.flt b)
 | .ref a=>some (.ref a)
 | .type n=>some (.ty n)
 | _=>none
theorem RelV.abs (r:RelV x u):absV u=some x:=by
 cases x with
 | non=>cases r; rfl
 | bl _=>cases r; rfl
 | int _=>obtain ⟨t,rfl⟩:=r; rfl
 | str _=>obtain ⟨t,rfl⟩:=r; rfl
 | byt _=>obtain ⟨t,rfl⟩:=r; rfl
 | flt _=>obtain ⟨t,rfl⟩:=r; rfl
 | ref _=>cases r; rfl
 | ty _=>cases r; rfl
theorem RelV.inj (r:RelV x u) (q:RelV y u):x=y:=Option.some.inj (r.abs.symm.trans q.abs)
theorem Vals.inj:∀ {xs ys:List V} {us:List Value},Vals xs us->Vals ys us->xs=ys
 | _,_,_,.nil,.nil=>rfl
 | _,_,_,.cons r t,.cons r' t'=>by rw [r.inj r',Vals.inj t t']
section
variable {X:Cx} {pins:List (Addr × Obj)} {σ:St} {H:Hp} {s:Shared} {a:Addr} {xs ys:List V}
theorem SqL.of {K:PySem.W.Frag} (h:H a=some (.lst xs)):SqL K H a xs:=.inl (.inl h)
theorem SqT.of {K:PySem.W.Frag} (h:H a=some (.tup xs)):SqT K H a xs:=.inl (.inl h)
theorem Inv.list (I:Inv X pins σ H s) (h:SqL X.K H a xs):∃ its:List Value,Vals xs its/\PlainL s.heap a its.toArray/\xs.length<=sizeLine:=by
 rcases h with h | ⟨o,its,n,hk,hc,hd,hs,hz,r⟩
 ·obtain ⟨z,its,n,r,e⟩:=h.ok I.hok
  exact ⟨its,r,⟨_,n,e,rfl,rfl,rfl⟩,z⟩
 ·refine ⟨its.toList,r,⟨o,n,I.kIn a o hk,hc,hd,by simpa using hs⟩,?_⟩
  have e:=r.length
  simp only [xaK] at e
  lia
theorem Inv.tuple (I:Inv X pins σ H s) (h:SqT X.K H a xs):∃ its:List Value,Vals xs its/\IsTup s.heap a its.toArray/\xs.length<=sizeLine:=by
 rcases h with h | ⟨o,its,n,hk,hc,hs,hz,r⟩
 ·obtain ⟨z,its,r,p⟩:=h.ok I.hok
  exact ⟨its,r,p,z⟩
 ·refine ⟨its.toList,r,⟨o,I.kIn a o hk,hc,n,by simpa using hs⟩,?_⟩
  have e:=r.length
  simp only [xaK] at e
  lia
theorem Inv.list_inj (I:Inv X pins σ H s) (h:SqL X.K H a xs) (h':SqL X.K H a ys):xs=ys:=by
 obtain ⟨its,r,⟨o,n,e,_,_,d⟩,_⟩:=I.list h
 obtain ⟨its',r',⟨o',n',e',_,_,d'⟩,_⟩:=I.list h'
 rw [e] at e'; cases e'
 rw [d] at d'
 injection d' with d1 _
 have:its=its':=by simpa using congrArg Array.toList d1
 subst this
 exact r.inj r'
theorem Inv.tuple_inj (I:Inv X pins σ H s) (h:SqT X.K H a xs) (h':SqT X.K H a ys):xs=ys:=by
 obtain ⟨its,r,⟨o,e,_,n,d⟩,_⟩:=I.tuple h
 obtain ⟨its',r',⟨o',e',_,n',d'⟩,_⟩:=I.tuple h'
 rw [e] at e'; cases e'
 rw [d] at d'
 injection d' with d1 _
 have:its=its':=by simpa using congrArg Array.toList d1
 subst this
 exact r.inj r'
end
abbrev Cx.wish (X:Cx) (E:Value->Shared->Prop):Cx:={ X with xe:=E }
abbrev Cx.nox (X:Cx):Cx:=X.wish fun _ _=>False
theorem Cx.Ok.wish {X:Cx} (ok:X.Ok) (E:Value->Shared->Prop):(X.wish E).Ok :=
 ⟨ok.mod,ok.kind,ok.glob,ok.blt,ok.above,ok.inj,ok.has,ok.cab,ok.hd,ok.frames,ok.stk,ok.exf,ok.bs,ok.bsz,ok.noex,ok.exfs,ok.funs,ok.frf⟩
theorem Cx.Ok.unwish {X:Cx} (ok:(X.wish E).Ok):X.Ok :=
 ⟨ok.mod,ok.kind,ok.glob,ok.blt,ok.above,ok.inj,ok.has,ok.cab,ok.hd,ok.frames,ok.stk,ok.exf,ok.bs,ok.bsz,ok.noex,ok.exfs,ok.funs,ok.frf⟩
section
variable {X:Cx} {pins:List (Addr × Obj)} {σ:St} {H:Hp} {s:Shared} {E:Value->Shared->Prop}
theorem Inv.wish (I:Inv X pins σ H s) (E:Value->Shared->Prop):Inv (X.wish E) pins σ H s:=⟨I.ok.wish E,I.os,I.bare,I.base,I.loc,I.cell,I.free,I.freeC,I.pin,I.hok,I.len⟩
theorem Inv.unwish (I:Inv (X.wish E) pins σ H s):Inv X pins σ H s:=⟨I.ok.unwish,I.os,I.bare,I.base,I.loc,I.cell,I.free,I.freeC,I.pin,I.hok,I.len⟩
theorem SP.unwish {D:Ends} (h:SP (X.wish E) pins D f s'):SP X pins D f s':=by
 cases f with
 | next=>obtain ⟨σ',H',I,q⟩:=h; exact ⟨σ',H',I.unwish,q⟩
 | brk=>obtain ⟨σ',H',I,q⟩:=h; exact ⟨σ',H',I.unwish,q⟩
 | cont=>obtain ⟨σ',H',I,q⟩:=h; exact ⟨σ',H',I.unwish,q⟩
 | ret u=>obtain ⟨v,σ',H',I,r,q⟩:=h; exact ⟨v,σ',H',I.unwish,r,q⟩
theorem PE.nox (h:PE X.nox e t):PE X e t:=fun pins s σ H Q I hw =>
 xaZ (h pins s σ H Q (I.wish _) hw) (fun _ _ hx5=>L2.ex2 hx5 fun v H' I' r q=>⟨v,H',I'.unwish,r,q⟩) fun _ _ z=>False.elim z
theorem PT.nox (h:PT X.nox e t):PT X e t:=fun pins s σ H Q I hw =>
 xaZ (h pins s σ H Q (I.wish _) hw) (fun _ _ ⟨H',I',q⟩=>⟨H',I'.unwish,q⟩) fun _ _ z=>False.elim z
theorem PSs.nox {st:List Stmt} (h:PSs X.nox st t):PSs X st t:=fun pins s σ H D I hw =>
 xaZ (h pins s σ H D (I.wish _) hw) (fun _ _ q=>q.unwish) fun _ _ z=>False.elim z
end
section
variable {X:Cx} {st:Stmt} {rest:List Stmt} {t u:TS} {e:Expr} {te:TE} {pos:Pos}
def tNext:TS:=fun D σ H=>D.nx σ H
def tSeq (t u:TS):TS:=fun D σ H=>t { D with nx:=u D } σ H
theorem pss_nil:PSs X [] tNext:=fun _ _ σ H _ I h=>wpAny_execs_nil ⟨σ,H,I,h⟩
theorem pss_cons (h1:PS X st t) (h2:PSs X rest u):PSs X (st :: rest) (tSeq t u):=by
 intro pins s σ H D I h
 refine wpAny_execs_cons (thn (h1 pins s σ H { D with nx:=u D } I h) fun f s1 q=>?_)
 cases f with
 | next =>
  obtain ⟨σ',H',I',q⟩:=q
  exact h2 pins s1 σ' H' D I' q
 | ret v=>exact q
 | brk=>exact q
 | cont=>exact q
theorem pss_one (h1:PS X st t):PSs X [st] t:=by
 intro pins s σ H D I h
 refine wpAny_execs_cons (thn (h1 pins s σ H D I h) fun f s1 q=>?_)
 cases f with
 | next=>exact wpAny_execs_nil q
 | ret v=>exact q
 | brk=>exact q
 | cont=>exact q
theorem Inv.quiet (I:Inv X pins σ H s):interactive X.env=false:=by simp [interactive,I.ok.kind]
def tDrop (te:TE):TS:=fun D σ H=>te σ H fun _ H1=>D.nx σ H1
theorem ps_expr (he:PE X e te) (hs:swapsWith e none pos.line X.env=pure false:=by rfl):PS X (.Expr e pos) (tDrop te):=by
 intro pins s σ H D I h
 exact wpAny_Expr_any (thn (he pins s σ H _ I h) fun v s1 hx5=>L2.ex2 hx5 fun x H1 I1 r1 q1=>⟨σ,H1,I1,q1⟩) I.quiet hs
def tRet (te:TE):TS:=fun D σ H=>te σ H D.rt
theorem ps_ret (he:PE X e te):PS X (.Return (some e) pos) (tRet te):=by
 intro pins s σ H D I h
 exact wpAny_Return_some (thn (he pins s σ H _ I h) fun v s1 hx5=>L2.ex2 hx5 fun x H1 I1 r1 q1=>⟨x,σ,H1,I1,r1,q1⟩)
def tIfS (c:TT) (t u:TS):TS:=fun D σ H=>c σ H fun b H1=>if b=true then t D σ H1 else u D σ H1
theorem ps_if (hc:PT X c tc) (ha:PSs X a t) (hb:PSs X b u):PS X (.If c a b pos) (tIfS tc t u):=by
 intro pins s σ H D I h
 refine wpAny_If (thn (hc pins s σ H _ I h) fun d s1 hx9=>?_)
 obtain ⟨H1,I1,q1⟩:=hx9
 cases d with
 | true=>exact ha pins s1 σ H1 D I1 q1
 | false=>exact hb pins s1 σ H1 D I1 q1
end
abbrev TG:=V->St->Hp->(St->Hp->Prop)->Prop
abbrev TGs:=List V->St->Hp->(St->Hp->Prop)->Prop
def PG (X:Cx) (target:Expr) (t:TG):Prop :=
 ∀ (pins:List (Addr × Obj)) (s:Shared) (σ:St) (H:Hp) (v:V) (u:Value) (Q:St->Hp->Prop),Inv X pins σ H s->RelV v u->t v σ H Q ->
  wpAny (model X.prog X.w) X.A (assign target X.env u) (fun _ s'=>∃ σ' H',Inv X pins σ' H' s'/\Q σ' H') X.xe s
def PGs (X:Cx) (ts:List Expr) (t:TGs):Prop :=
 ∀ (pins:List (Addr × Obj)) (s:Shared) (σ:St) (H:Hp) (vs:List V) (us:List Value) (Q:St->Hp->Prop),Inv X pins σ H s->Vals vs us->t vs σ H Q ->
  wpAny (model X.prog X.w) X.A (assignInOrder ((assignEach ts X.env).map (·.2)) us) (fun _ s'=>∃ σ' H',Inv X pins σ' H' s'/\Q σ' H') X.xe s
section
variable {X:Cx} {pos:Pos}
def gName (i:Nat):TG:=fun v σ H Q=>Q (σ.set i (some v)) H
theorem pg_name (hN:X.N.Nodup) (hi:X.N[i]? = some x) (hx:Loc X.env.scope x) (hf:X.fn x=true\/X.env.scope.names.lookup x=some .local:=by first | exact .inl rfl | exact .inr rfl | assumption):PG X (.Name x pos) (gName i):=by
 intro pins s σ H v u Q I r h
 exact wpAny_assign_Name (store_ok I hN hi hx r (fun s' I'=>⟨_,H,I',h⟩) hf)
def gNil:TGs:=fun vs σ H Q=>vs=[]/\Q σ H
def gCons (t:TG) (u:TGs):TGs:=fun vs σ H Q=>∃ v r,vs=v :: r/\t v σ H fun σ' H'=>u r σ' H' Q
theorem pgs_nil:PGs X [] gNil:=by
 intro pins s σ H vs us Q I r h
 obtain ⟨e,h⟩:=h
 subst e
 cases r
 exact assignInOrder_nil ⟨σ,H,I,h⟩
theorem pgs_cons (h1:PG X e t) (h2:PGs X es u)
  (hs:(assignEach (e :: es) X.env).map (·.2)=assign e X.env :: (assignEach es X.env).map (·.2):=by rfl):PGs X (e :: es) (gCons t u):=by
 intro pins s σ H vs us Q I r h
 obtain ⟨v,vr,e1,h⟩:=h
 subst e1
 cases r with
 | cons r rr =>
  rw [hs]
  refine assignInOrder_cons (thn (h1 pins s σ H _ _ _ I r h) fun _ s1 hx9=>?_)
  obtain ⟨σ1,H1,I1,q1⟩:=hx9
  exact h2 pins s1 σ1 H1 _ _ Q I1 rr q1
def gTup (K:PySem.W.Frag) (n:Nat) (t:TGs):TG:=fun v σ H Q=>∃ a xs,v=.ref a/\SqT K H a xs/\xs.length=n/\t xs σ H Q
theorem pg_tup (hc:X.calm=true) (h:PGs X es t)
  (hn:(assignEach es X.env).length=n:=by rfl) (hst:(assignEach es X.env).findIdx? (·.1)=none:=by rfl):PG X (.Tuple es k pos) (gTup X.K n t):=by
 intro pins s σ H v u Q I r hw
 obtain ⟨a,xs,e1,hq,hl,hw⟩:=hw
 subst e1
 cases r
 obtain ⟨its,rv,ht,hz⟩:=I.tuple hq
 refine assign_Tuple_tuple (I.ok.hd hc) ht (by simp [hn,<- hl,rv.length]) hst fun h' hx=>?_
 have I1:Inv X pins σ H { s with heap:=h' }:=I.kept (t':=s.toks) fun b o e=>hx b o (xar (xal e)) e
 exact h pins _ σ H xs _ Q I1 (by simpa using rv) hw
def tAsg (te:TE) (g:TG):TS:=fun D σ H=>te σ H fun x H1=>g x σ H1 D.nx
theorem ps_asg (he:PE X e te) (hg:PG X tg g) (hs:swapsWithSole [tg] e pos.line X.env=pure false:=by rfl) (hw:swappedStores [tg] e X.env=pure none:=by rfl)
  (h1:(assignEach [tg] X.env).map (·.2)=[assign tg X.env]:=by rfl):PS X (.Assign [tg] e pos) (tAsg te g):=by
 intro pins s σ H D I h
 refine wpAny_Assign_stores (thn (he pins s σ H _ I h) fun v s1 hx5=>L2.ex2 hx5 fun x H1 I1 r1 q1=>?_) hs hw
 rw [h1]
 exact thn (hg pins s1 σ H1 x v _ I1 r1 q1) fun _ s2 q=>q
theorem ps_set (hN:X.N.Nodup) (hi:X.N[i]? = some x) (hx:Loc X.env.scope x) (he:PE X e te) (hs:swapsWith e (some (.Name x pos')) pos.line X.env=pure false:=by rfl) (hf:X.fn x=true\/X.env.scope.names.lookup x=some .local:=by first | exact .inl rfl | exact .inr rfl | assumption) :
  PS X (.Assign [.Name x pos'] e pos) (tAsg te (gName i)):=by
 intro pins s σ H D I h
 refine wpAny_Assign_Name (thn (he pins s σ H _ I h) fun v s1 hx5=>L2.ex2 hx5 fun y H1 I1 r1 q1=>?_) hs
 exact store_ok I1 hN hi hx r1 (fun s2 I2=>⟨_,H1,I2,q1⟩) hf
end
structure It where
 go:Nat->Hp->Prop
 yld:Nat->Hp->V->Hp->Prop
 stop:Nat->Hp->Prop
def FpOk (X:Cx) (pins:List (Addr × Obj)) (H:Hp) (b:Addr):Prop :=
 H b=none/\b≠X.env.locals/\b∉X.fs/\(b∈X.ex\/X.s₀.heap.objs.size<=b)/\(∀ x c,X.env.cells.lookup x=some c->c≠b)/\∀ p∈X.pn++pins,p.1≠b
theorem Inv.fpOk {X:Cx} (I:Inv X pins σ H s) (hb:s.heap.objs.size<=b) (hn:H' b=none):FpOk X pins H' b:=by
 refine ⟨hn,Nat.ne_of_gt (xaA I.lt hb),I.nofs hb,.inr (xaB I.sz hb),fun x c e z=>?_,fun p hp z=>?_⟩
 ·obtain ⟨v,q⟩:=I.cell x c e
  exact absurd (xaA q.lt (by rw [z]; exact hb)) (xa2 _)
 ·exact absurd (xaA (xal (I.pin p hp).1) (by rw [z]; exact hb)) (xa2 _)
structure Turn (P:Program) (w:World) (K:PySem.W.Frag) (tg:Expr) (J:It) (fp:List Addr) (it:Addr) (tn:Nat->Heap->Prop):Prop where
 mem:it∈fp
 obj:∀ i h,tn i h->∀ b∈fp,∃ o,h.get? b=some o/\∀ v,o.data≠.cell v
 keep:∀ i h h',tn i h->(∀ b∈fp,∀ o,h.get? b=some o->h'.get? b=some o)->tn i h'
 item:∀ (X:Cx),X.prog=P->X.w=w->X.K=K->X.calm=true->∀ (i:Nat) (pins:List (Addr × Obj)) (s:Shared) (σ:St) (H:Hp) (E:Value->Shared->Prop),Inv X pins σ H s->(∀ b∈fp,FpOk X pins H b)->tn i s.heap->J.go i H ->
  wpAny (model P w) X.A (pyNext (.ref it)) (fun r s1=>∃ u,r=some u /\
   wpAny (model P w) X.A (letOwnedTupleGo tg (.ref it) u) (fun _ s2=>∃ x H',Inv X pins σ H' s2/\RelV x u/\J.yld i H x H'/\tn (i+1) s2.heap/\∀ b∈fp,H' b=none) E s1) E s
 done:∀ (X:Cx),X.prog=P->X.w=w->X.K=K->X.calm=true->∀ (i:Nat) (pins:List (Addr × Obj)) (s:Shared) (σ:St) (H:Hp) (E:Value->Shared->Prop),Inv X pins σ H s->(∀ b∈fp,FpOk X pins H b)->tn i s.heap->J.stop i H ->
  wpAny (model P w) X.A (pyNext (.ref it)) (fun r s1=>r=none/\Inv X pins σ H s1) E s
 self:∀ (A:Around) (i:Nat) (s:Shared) (Q:Value->Shared->Prop) (E:Value->Shared->Prop),tn i s.heap->Q (.ref it) s->wpAny (model P w) A (pyIter (.ref it)) Q E s
abbrev TI:=St->Hp->(It->Hp->Prop)->Prop
def PIE (X:Cx) (pins:List (Addr × Obj)) (σ:St) (tg:Expr) (R:It->Hp->Prop) (itv:Value) (s2:Shared):Prop :=
 ∃ (it:Addr) (fp:List Addr) (tn:Nat->Heap->Prop) (J:It) (H':Hp),itv=.ref it/\Inv X pins σ H' s2/\Turn X.prog X.w X.K tg J fp it tn/\tn 0 s2.heap/\(∀ b∈fp,FpOk X pins H' b)/\R J H'
def PI (X:Cx) (tg iter:Expr) (wi:TI):Prop :=
 ∀ (pins:List (Addr × Obj)) (s:Shared) (σ:St) (H:Hp) (R:It->Hp->Prop),Inv X pins σ H s->wi σ H R ->
  wpAny (model X.prog X.w) X.A (eval iter X.env) (fun v s1=>wpAny (model X.prog X.w) X.A (pyIter v) (PIE X pins σ tg R) X.xe s1) X.xe s
theorem go_of (ho:s.heap.get? it=some o) (hc:o.cls=.type n) (hd:o.data=.fields vs)
  (hn:["enumerate", "zip", "dict_itemiterator", "dict_reverseitemiterator", "odict_iterator", "itertools.zip_longest", "itertools.pairwise"].contains n=false) (hQ:Q () s):wpAny M A (letOwnedTupleGo tg (.ref it) u) Q E s:=by
 unfold letOwnedTupleGo
 cases tg <;> first
  | exact xab hQ
  | (cases u <;> first
     | exact xab hQ
     | (refine xaa (wpAny_load ho ?_)
        rw [hc,hd]
        show wpAny M A (if (["enumerate", "zip", "dict_itemiterator", "dict_reverseitemiterator", "odict_iterator", "itertools.zip_longest", "itertools.pairwise"].contains n && vs[0]? == some (rawInt _))=true then _ else _) Q E s
        rw [if_neg (by intro h; rw [hn,Bool.false_and] at h; cases h)]
        exact xab hQ))
def Itl (K:PySem.W.Frag) (a:Addr):It :=
 ⟨fun i H=>∃ xs x,SqL K H a xs/\xs[i]? = some x,fun i H x H'=>H'=H/\∀ xs,SqL K H a xs->xs[i]? = some x,fun i H=>∃ xs,SqL K H a xs/\xs.length<=i⟩
def Itt (K:PySem.W.Frag) (a:Addr):It :=
 ⟨fun i H=>∃ xs x,SqT K H a xs/\xs[i]? = some x,fun i H x H'=>H'=H/\∀ xs,SqT K H a xs->xs[i]? = some x,fun i H=>∃ xs,SqT K H a xs/\xs.length<=i⟩
def Itr (lo:Int) (n:Nat):It:=⟨fun i _=>i<n,fun i H x H'=>H'=H/\x=.int (lo+i),fun i _=>n<=i⟩
theorem turn_list {P:Program} {K:PySem.W.Frag} (a it:Addr):Turn P w K tg (Itl K a) [it] it (fun i h=>h.IsListIter it a i) where
 mem:=by simp
 obj:=fun i h st b hb=>by
  have e:b=it:=by simpa using hb
  subst e
  obtain ⟨o,e,c,d⟩:=st
  exact ⟨o,e,fun v z=>by rw [d] at z; cases z⟩
 keep:=fun i h h' st k=>st.at fun o e=>k it (by simp) o e
 item:=by
  intro X hP hw hK hc i pins s σ H E I hf st hg
  subst hP hw hK
  obtain ⟨xs,x,hq,hx⟩:=hg
  obtain ⟨its,rv,p,hz⟩:=I.list hq
  obtain ⟨u,hu,ru⟩:=rv.get hx
  obtain ⟨f0,f1,f2,f3,f4,f5⟩:=hf it (by simp)
  refine wpAny_pyNext_list_item st p.isList (x:=u) (by simpa using hu) fun h' st' sb=>?_
  have I1:Inv X pins σ H { s with heap:=h' }:=I.turned (t':=s.toks) (fun b o hb e=>(sb.2 b hb).trans e) f0 f1 f3 f4 f5
  obtain ⟨o,e,c,d⟩:=id st'
  exact ⟨u,rfl,go_of (s:={ s with heap:=h' }) e c d (by decide) ⟨x,H,I1,ru,⟨rfl,fun ys hy=>by rw [I.list_inj hy hq]; exact hx⟩,st',fun b hb=>(hf b hb).1⟩⟩
 done:=by
  intro X hP hw hK hc i pins s σ H E I hf st hg
  subst hP hw hK
  obtain ⟨xs,hq,hx⟩:=hg
  obtain ⟨its,rv,p,hz⟩:=I.list hq
  obtain ⟨f0,f1,f2,f3,f4,f5⟩:=hf it (by simp)
  have hl:=rv.length
  exact wpAny_pyNext_list_end (I.ok.hd hc) st p.isList (by simp; lia) fun h' eb=>⟨rfl,I.turned (t':=s.toks) (fun b o hb e=>eb b o hb e) f0 f1 f3 f4 f5⟩
 self:=fun _ _ _ _ _ st h=>wpAny_pyIter_listiter st h
theorem turn_tuple {P:Program} {K:PySem.W.Frag} (a it:Addr):Turn P w K tg (Itt K a) [it] it (fun i h=>h.IsTupleIter it a i) where
 mem:=by simp
 obj:=fun i h st b hb=>by
  have e:b=it:=by simpa using hb
  subst e
  obtain ⟨o,e,c,d⟩:=st
  exact ⟨o,e,fun v z=>by rw [d] at z; cases z⟩
 keep:=fun i h h' st k=>st.at fun o e=>k it (by simp) o e
 item:=by
  intro X hP hw hK hc i pins s σ H E I hf st hg
  subst hP hw hK
  obtain ⟨xs,x,hq,hx⟩:=hg
  obtain ⟨its,rv,p,hz⟩:=I.tuple hq
  obtain ⟨u,hu,ru⟩:=rv.get hx
  obtain ⟨f0,f1,f2,f3,f4,f5⟩:=hf it (by simp)
  refine wpAny_pyNext_tuple_item st (show s.heap.IsTuple a its.toArray from p) (x:=u) (by simpa using hu) fun h' st' sb=>?_
  have I1:Inv X pins σ H { s with heap:=h' }:=I.turned (t':=s.toks) (fun b o hb e=>(sb.2 b hb).trans e) f0 f1 f3 f4 f5
  obtain ⟨o,e,c,d⟩:=id st'
  exact ⟨u,rfl,go_of (s:={ s with heap:=h' }) e c d (by decide) ⟨x,H,I1,ru,⟨rfl,fun ys hy=>by rw [I.tuple_inj hy hq]; exact hx⟩,st',fun b hb=>(hf b hb).1⟩⟩
 done:=by
  intro X hP hw hK hc i pins s σ H E I hf st hg
  subst hP hw hK
  obtain ⟨xs,hq,hx⟩:=hg
  obtain ⟨its,rv,p,hz⟩:=I.tuple hq
  obtain ⟨f0,f1,f2,f3,f4,f5⟩:=hf it (by simp)
  have hl:=rv.length
  exact wpAny_pyNext_tuple_end (I.ok.hd hc) st (show s.heap.IsTuple a its.toArray from p) (by simp; lia) fun h' eb=>⟨rfl,I.turned (t':=s.toks) (fun b o hb e=>eb b o hb e) f0 f1 f3 f4 f5⟩
 self:=fun _ _ _ _ _ st h=>wpAny_pyIter_tupleiter st h
theorem turn_range {P:Program} {K:PySem.W.Frag} (it:Addr) (lo:Int) (n:Nat):Turn P w K tg (Itr lo n) [it] it (fun i h=>IsRangeIter h it (lo+(i:Nat) * 1) ((n:Int) - (i:Nat)) 1) where
 mem:=by simp
 obj:=fun i h st b hb=>by
  have e:b=it:=by simpa using hb
  subst e
  exact ⟨_,st,fun v z=>by
   have z':Data.fields _=Data.cell v:=z
   cases z'⟩
 keep:=fun i h h' st k=>k it (by simp) _ st
 item:=by
  intro X hP hw hK hc i pins s σ H E I hf st hg
  subst hP hw hK
  obtain ⟨f0,f1,f2,f3,f4,f5⟩:=hf it (by simp)
  have W:=Walks.range (prog:=X.prog) (w:=X.w) (I.ok.hd hc) it lo 1 n
  refine W.item i s _ _ hg st fun v h' tk hv st' kk=>?_
  obtain ⟨t,rfl⟩:=hv
  have I1:Inv X pins σ H { s with heap:=h',toks:=tk }:=I.turned (fun b o hb e=>kk b o (by simpa using hb) e) f0 f1 f3 f4 f5
  refine ⟨_,rfl,go_of (s:={ s with heap:=h',toks:=tk }) (n := "range_iterator") st' rfl rfl (by decide) ⟨.int (lo+i),H,I1,⟨t,?_⟩,⟨rfl,rfl⟩,st',fun b hb=>(hf b hb).1⟩⟩
  rw [Int.mul_one]
 done:=by
  intro X hP hw hK hc i pins s σ H E I hf st hg
  subst hP hw hK
  obtain ⟨f0,f1,f2,f3,f4,f5⟩:=hf it (by simp)
  exact wpAny_pyNext_range_end (I.ok.hd hc) st (by have:n<=i:=hg; lia) fun h' eb=>⟨rfl,I.turned (t':=s.toks) (fun b o hb e=>eb b o hb e) f0 f1 f3 f4 f5⟩
 self:=fun _ _ _ _ _ st h=>wpAny_pyIter_rangeiter st h
section
variable {X:Cx} {tg:Expr}
def iList (K:PySem.W.Frag) (tl:TE):TI:=fun σ H R=>tl σ H fun x H1=>∃ a,x=.ref a/\(∃ xs,SqL K H1 a xs)/\R (Itl K a) H1
def iTup (K:PySem.W.Frag) (tl:TE):TI:=fun σ H R=>tl σ H fun x H1=>∃ a,x=.ref a/\(∃ xs,SqT K H1 a xs)/\R (Itt K a) H1
theorem pi_list (hl:PE X l tl):PI X tg l (iList X.K tl):=by
 intro pins s σ H R I h
 refine thn (hl pins s σ H _ I h) fun v s1 hx5=>L2.ex2 hx5 fun x H1 I1 r1 q1=>?_
 obtain ⟨a,e,⟨xs,hq⟩,q⟩:=q1
 subst e
 cases r1
 obtain ⟨its,rv,p,hz⟩:=I1.list hq
 refine wpAny_pyIter_list p.isList ?_
 refine ⟨s1.heap.objs.size,[s1.heap.objs.size],_,_,H1,rfl,I1.kept (t':=s1.toks) fun b o e=>xad _ e,turn_list a _,⟨_,xao _ rfl,rfl,rfl⟩,fun b hb=>?_,q⟩
 have e:b=s1.heap.objs.size:=by simpa using hb
 subst e
 exact I1.fpOk (xae _) (I1.hok.fresh (xae _))
theorem pi_tup (hl:PE X l tl):PI X tg l (iTup X.K tl):=by
 intro pins s σ H R I h
 refine thn (hl pins s σ H _ I h) fun v s1 hx5=>L2.ex2 hx5 fun x H1 I1 r1 q1=>?_
 obtain ⟨a,e,⟨xs,hq⟩,q⟩:=q1
 subst e
 cases r1
 obtain ⟨its,rv,p,hz⟩:=I1.tuple hq
 refine wpAny_pyIter_tuple (show s1.heap.IsTuple a its.toArray from p) ?_
 refine ⟨s1.heap.objs.size,[s1.heap.objs.size],_,_,H1,rfl,I1.kept (t':=s1.toks) fun b o e=>xad _ e,turn_tuple a _,⟨_,xao _ rfl,rfl,rfl⟩,fun b hb=>?_,q⟩
 have e:b=s1.heap.objs.size:=by simpa using hb
 subst e
 exact I1.fpOk (xae _) (I1.hok.fresh (xae _))
theorem range_it {R:It->Hp->Prop} {lo hi:Int} (I:Inv X pins σ H s) (h1:-(2 ^ 62)<=lo) (h2:lo<2 ^ 62) (h3:-(2 ^ 62)<=hi) (h4:hi<2 ^ 62)
  (q:R (Itr lo (hi - lo).toNat) H):wpAny (model X.prog X.w) X.A (pyIter (.ref s.heap.objs.size)) (PIE X pins σ tg R) E { s with heap:=s.heap.push { cls:=.type "range",data:=.fields #[.int lo t,.int hi u,.int 1 v] },toks:=tk }:=by
 refine wpAny_pyIter_range (IsRange.new ..) (small_one h1 h2 h3 h4) ?_
 have I1:Inv X pins σ H { s with heap:=s.heap.push { cls:=.type "range",data:=.fields #[.int lo t,.int hi u,.int 1 v] },toks:=tk }:=I.kept fun b o e=>xad _ e
 refine ⟨(s.heap.push { cls:=.type "range",data:=.fields #[.int lo t,.int hi u,.int 1 v] }).objs.size,[(s.heap.push { cls:=.type "range",data:=.fields #[.int lo t,.int hi u,.int 1 v] }).objs.size],_,_,H,rfl,
  I1.kept (t':=tk) fun b o e=>xad _ e,turn_range _ lo (hi - lo).toNat,?_,fun b hb=>?_,q⟩
 ·have e1:lo+((0:Nat):Int) * 1=lo:=by simp
  have e2:(((hi - lo).toNat:Nat):Int) - ((0:Nat):Int)=Builtin.Range.rangeSize lo hi 1:=by rw [rangeSize_one]; split <;> lia
  show IsRangeIter _ _ (lo+((0:Nat):Int) * 1) ((((hi - lo).toNat:Nat):Int) - ((0:Nat):Int)) 1
  rw [e1,e2]
  exact xao _ rfl
 ·have e:b=(s.heap.push { cls:=.type "range",data:=.fields #[.int lo t,.int hi u,.int 1 v] }).objs.size:=by simpa using hb
  subst e
  exact I1.fpOk (xae _) (I1.hok.fresh (xae _))
def iRng1 (ta:TA):TI:=fun σ H R=>ta σ H fun vs H1=>∃ j:Int,vs=[.int j]/\-(2 ^ 62)<=j/\j<2 ^ 62/\R (Itr 0 j.toNat) H1
def iRng2 (ta:TA):TI:=fun σ H R=>ta σ H fun vs H1=>∃ i j:Int,vs=[.int i,.int j]/\(-(2 ^ 62)<=i/\i<2 ^ 62/\-(2 ^ 62)<=j/\j<2 ^ 62)/\R (Itr i (j - i).toNat) H1
theorem pi_range1 (hg:Gl X "range") (hm:X.mg "range" = none) (ha:PA X [a] ta) (hs:starEach [a] X.env=[(false,eval a X.env)]:=by rfl):PI X tg (.Call (.Name "range" p) [a] [] pos) (iRng1 ta):=by
 intro pins s σ H R I h
 refine Call_ (ld_blt I hg hm boot_range (PyProof.Rows.callWith_type1 (thn (ha pos pins s σ H _ I h) fun us s1 hx5=>L2.ex2 hx5 fun vs H1 I1 r1 q1=>?_) hs rfl))
 obtain ⟨j,e,q1,q2,q⟩:=q1
 subst e
 cases r1 with
 | cons r rr =>
  cases rr
  obtain ⟨t,rfl⟩:=r
  exact call_range_1 (range_it I1 (by lia) (by lia) q1 q2 (by simpa using q))
theorem pi_range2 (hg:Gl X "range") (hm:X.mg "range" = none) (ha:PA X [a,b] ta) (hs:starEach [a,b] X.env=[(false,eval a X.env),(false,eval b X.env)]:=by rfl) (hs2:starEach [b] X.env=[(false,eval b X.env)]:=by rfl) :
  PI X tg (.Call (.Name "range" p) [a,b] [] pos) (iRng2 ta):=by
 intro pins s σ H R I h
 refine Call_ (ld_blt I hg hm boot_range (PyProof.Rows.callWith_type1 (thn (ha pos pins s σ H _ I h) fun us s1 hx5=>L2.ex2 hx5 fun vs H1 I1 r1 q1=>?_) (by rw [hs,hs2]) (by rw [hs2]; rfl)))
 obtain ⟨i,j,e,⟨q1,q2,q3,q4⟩,q⟩:=q1
 subst e
 cases r1 with
 | cons r rr =>
  cases rr with
  | cons r' rr =>
   cases rr
   obtain ⟨t,rfl⟩:=r
   obtain ⟨t',rfl⟩:=r'
   exact call_range_2 (range_it I1 q1 q2 q3 q4 q)
def tFor (wi:TI) (g:TG) (tb:TS):TS:=fun D σ H=>wi σ H fun J H1=>∃ W:Nat->Nat->St->Hp->Prop,(∃ m,W 0 m σ H1)/\∀ i m σ H,W i m σ H ->
 (J.stop i H/\D.nx σ H)\/(J.go i H/\∃ N:St->Hp->Prop,(∀ σ' H',N σ' H'->∃ m',m'<m/\W (i+1) m' σ' H')/\∀ x H',J.yld i H x H'->g x σ H' fun σ2 H2=>tb { D with nx:=N,ct:=N,bk:=D.nx } σ2 H2)
def pinsAt (fp:List Addr) (h:Heap):List (Addr × Obj):=fp.filterMap fun b=>(h.get? b).map fun o=>(b,o)
theorem mem_pinsAt (hb:b∈fp) (e:h.get? b=some o):(b,o)∈pinsAt fp h:=xb9.mpr ⟨b,hb,by rw [e]; rfl⟩
theorem of_pinsAt (hp:p∈pinsAt fp h):p.1∈fp/\h.get? p.1=some p.2:=by
 obtain ⟨b,hb,e⟩:=xb9.mp hp
 cases q:h.get? b with
 | none=>rw [q] at e; cases e
 | some o =>
  rw [q] at e
  have e':(b,o)=p:=Option.some.inj e
  subst e'
  exact ⟨hb,q⟩
theorem Inv.pinned (I:Inv X pins σ H s) (hf:∀ b∈fp,FpOk X pins H b) (ho:∀ b∈fp,∃ o,s.heap.get? b=some o/\∀ v,o.data≠.cell v):Inv X (pins++pinsAt fp s.heap) σ H s :=
 I.pins_of fun p hp=>(xak.mp hp).elim (fun z=>I.pin p (xag _ z)) fun z=>by
  obtain ⟨hb,e⟩:=of_pinsAt z
  obtain ⟨f0,f1,f2,_⟩:=hf p.1 hb
  obtain ⟨o,e',d⟩:=ho p.1 hb
  rw [e] at e'; cases e'
  exact ⟨e,f0,f1,f2,d⟩
theorem Inv.unpinned (I:Inv X (pins++pl) σ H s):Inv X pins σ H s:=I.pins_of fun p hp=>I.pin p (xag _ (xav _ hp))
theorem ps_for (hp:PassesOwn (model X.prog X.w) X.A X.env X.xe) (hc:X.calm=true) (hi:PI X tg iter wi) (hg:PG X tg g) (hb:PSs X body tb)
  (hs:∀ x,foldedSetIterable iter X.env x=pure x:=by intro _; rfl):PS X (.For tg iter body [] pos) (tFor wi g tb):=by
 intro pins s σ H D I h
 refine wpAny_For (thn (hi pins s σ H _ I h) fun v s1 h1=>thn h1 fun itv s2 h2=>?_) hs
 obtain ⟨it,fp,tn,J,H2,e,I2,T,st2,f2,W,⟨m0,w0⟩,turn⟩:=h2
 subst e
 -- what stays true of the iterator's objects through the loop
 have stat:∀ {H':Hp},(∀ b∈fp,H' b=none)->∀ b∈fp,FpOk X pins H' b:=fun hn b hb=>⟨hn b hb,(f2 b hb).2⟩
 refine codeAny_forLoop_any (fun n s'=>∃ i σ' H',Inv X pins σ' H' s'/\tn i s'.heap/\(∀ b∈fp,H' b=none)/\W i n σ' H') ?_ m0 ⟨0,σ,H2,I2,st2,fun b hb=>(f2 b hb).1,w0⟩
 rintro n s3 ⟨i,σ3,H3,I3,st3,fr3,w3⟩
 rcases turn i n σ3 H3 w3 with ⟨stop,qn⟩ | ⟨go,N,hN,step⟩
 ·refine wpAny_passesOwn hp (thn (T.done X rfl rfl rfl hc i pins s3 σ3 H3 X.xe I3 (stat fr3) st3 stop) fun r s4 hx9=>?_)
  obtain ⟨hr,I4⟩:=hx9
  subst hr
  exact wpAny_execs_nil ⟨σ3,H3,I4,qn⟩
 ·refine wpAny_passesOwn hp (thn (T.item X rfl rfl rfl hc i pins s3 σ3 H3 X.xe I3 (stat fr3) st3 go) fun r s4 hx9=>?_)
  obtain ⟨u,hr,h4⟩:=hx9
  subst hr
  refine wpAny_passesOwn hp (thn h4 fun _ s5 hx9=>?_)
  obtain ⟨x,H5,I5,r5,y5,st5,fr5⟩:=hx9
  have I5':=I5.pinned (stat fr5) (T.obj _ _ st5)
  refine wpAny_passesOwn hp (thn (hg _ s5 σ3 H5 x u _ I5' r5 (step x H5 y5)) fun _ s6 hx9=>?_)
  obtain ⟨σ6,H6,I6,q6⟩:=hx9
  refine wpAny_passesOwn hp (thn (hb _ s6 σ6 H6 _ I6 q6) fun f s7 q7=>?_)
  have again:∀ {σ7:St} {H7:Hp},Inv X (pins++pinsAt fp s5.heap) σ7 H7 s7->N σ7 H7->∃ m,m<n/\∃ i σ' H',Inv X pins σ' H' s7/\tn i s7.heap/\(∀ b∈fp,H' b=none)/\W i m σ' H':=fun {σ7 H7} I7 n7=>by
   obtain ⟨m',hm,w7⟩:=hN σ7 H7 n7
   refine ⟨m',hm,i+1,σ7,H7,I7.unpinned,T.keep _ _ _ st5 fun b hb o e=>(I7.pin (b,o) (xag _ (xag _ (mem_pinsAt hb e)))).1,fun b hb=>?_,w7⟩
   obtain ⟨o,e,d⟩:=T.obj _ _ st5 b hb
   exact (I7.pin (b,o) (xag _ (xag _ (mem_pinsAt hb e)))).2.1
  cases f with
  | next=>obtain ⟨σ7,H7,I7,n7⟩:=q7; exact again I7 n7
  | cont=>obtain ⟨σ7,H7,I7,n7⟩:=q7; exact again I7 n7
  | brk=>obtain ⟨σ7,H7,I7,q7⟩:=q7; exact ⟨σ7,H7,I7.unpinned,q7⟩
  | ret v=>obtain ⟨x7,σ7,H7,I7,r7,q7⟩:=q7; exact ⟨x7,σ7,H7,I7.unpinned,r7,q7⟩
end
abbrev R2:=V->V->Hp->VK->Prop
def OpR (X:Cx) (f:Value->Value->Sem Value) (r:R2):Prop :=
 ∀ (pins:List (Addr × Obj)) (s:Shared) (σ:St) (H:Hp) (x y:V) (v u:Value) (Q:VK),Inv X pins σ H s->RelV x v->RelV y u->r x y H Q ->
  wpAny (model X.prog X.w) X.A (f v u) (EP X pins σ Q) X.xe s
def CallR (X:Cx) (f:Value) (r:List V->Hp->VK->Prop):Prop :=
 ∀ (pins:List (Addr × Obj)) (s:Shared) (σ:St) (H:Hp) (xs:List V) (us:List Value) (Q:VK),Inv X pins σ H s->Vals xs us->r xs H Q ->
  wpAny (model X.prog X.w) X.A (call f us) (EP X pins σ Q) X.xe s
def tOp (r:R2) (ta tb:TE):TE:=fun σ H Q=>ta σ H fun x H1=>tb σ H1 fun y H2=>r x y H2 Q
def tUn (r:V->Hp->VK->Prop) (ta:TE):TE:=fun σ H Q=>ta σ H fun x H1=>r x H1 Q
def rI (C:Int->Int->Prop) (g:Int->Int->V):R2:=fun x y H Q=>∃ i j,x=.int i/\y=.int j/\C i j/\Q (g i j) H
def rI0 (g:Int->Int->V):R2:=fun x y H Q=>∃ i j,x=.int i/\y=.int j/\Q (g i j) H
section
variable {X:Cx} {a b:Expr} {ta tb:TE} {pos:Pos}
theorem binT (ha:PE X a ta) (hb:PE X b tb) {pins:List (Addr × Obj)} {s:Shared} {σ:St} {H:Hp} {R:V->V->Hp->Prop} (I:Inv X pins σ H s)
  (h:ta σ H fun x H1=>tb σ H1 fun y H2=>R x y H2) {Q:Value->Shared->Prop} {f:Value->Value->Sem Value}
  (hf:∀ v u s2 x y H2,Inv X pins σ H2 s2->RelV x v->RelV y u->R x y H2->wpAny (model X.prog X.w) X.A (f v u) Q X.xe s2) :
  wpAny (model X.prog X.w) X.A (eval a X.env) (fun v s₁=>wpAny (model X.prog X.w) X.A (eval b X.env) (fun u s₂=>wpAny (model X.prog X.w) X.A (f v u) Q X.xe s₂) X.xe s₁) X.xe s:=by
 refine thn (ha pins s σ H _ I h) fun v s1 hx5=>L2.ex2 hx5 fun x H1 I1 r1 q1=>?_
 refine thn (hb pins s1 σ H1 _ I1 q1) fun u s2 hx5=>L2.ex2 hx5 fun y H2 I2 r2 q2=>?_
 exact hf v u s2 x y H2 I2 r1 r2 q2
theorem pe_op {op:Operator} {r:R2} (ho:OpR X (binaryOp op) r) (ha:PE X a ta) (hb:PE X b tb):PE X (.BinOp a op b pos) (tOp r ta tb):=by
 intro pins s σ H Q I h
 exact wpAny_BinOp (binT ha hb I h fun v u s2 x y H2 I2 rx ry q=>ho pins s2 σ H2 x y v u Q I2 rx ry q)
theorem opI {f:Value->Value->Sem Value} {C:Int->Int->Prop} {g:Int->Int->Int}
  (rule:∀ (i j:Int) (t u:Tok) (s:Shared) (Q:Value->Shared->Prop) (E:Value->Shared->Prop),C i j->Q (.int (g i j) s.toks) { s with toks:=s.toks+1 }->wpAny (model X.prog X.w) X.A (f (.int i t) (.int j u)) Q E s) :
  OpR X f (rI C fun i j=>.int (g i j)):=by
 intro pins s σ H x y v u Q I rx ry h
 obtain ⟨i,j,rfl,rfl,hc,q⟩:=h
 obtain ⟨t,rfl⟩:=rx
 obtain ⟨t',rfl⟩:=ry
 exact rule i j t t' s _ _ hc ⟨.int (g i j),H,I.tok _,⟨_,rfl⟩,q⟩
theorem opI0 {f:Value->Value->Sem Value} {g:Int->Int->Int}
  (rule:∀ (i j:Int) (t u:Tok) (s:Shared) (Q:Value->Shared->Prop) (E:Value->Shared->Prop),Q (.int (g i j) s.toks) { s with toks:=s.toks+1 }->wpAny (model X.prog X.w) X.A (f (.int i t) (.int j u)) Q E s) :
  OpR X f (rI0 fun i j=>.int (g i j)):=by
 intro pins s σ H x y v u Q I rx ry h
 obtain ⟨i,j,rfl,rfl,q⟩:=h
 obtain ⟨t,rfl⟩:=rx
 obtain ⟨t',rfl⟩:=ry
 exact rule i j t t' s _ _ ⟨.int (g i j),H,I.tok _,⟨_,rfl⟩,q⟩
theorem opB0 {f:Value->Value->Sem Value} {g:Int->Int->Bool}
  (rule:∀ (i j:Int) (t u:Tok) (s:Shared) (Q:Value->Shared->Prop) (E:Value->Shared->Prop),Q (.bool (g i j)) s->wpAny (model X.prog X.w) X.A (f (.int i t) (.int j u)) Q E s) :
  OpR X f (rI0 fun i j=>.bl (g i j)):=by
 intro pins s σ H x y v u Q I rx ry h
 obtain ⟨i,j,rfl,rfl,q⟩:=h
 obtain ⟨t,rfl⟩:=rx
 obtain ⟨t',rfl⟩:=ry
 exact rule i j t t' s _ _ ⟨.bl (g i j),H,I,rfl,q⟩
def CDiv (i j:Int):Prop:=0<j/\j<1073741824
def CMul (i j:Int):Prop:=(-(2 ^ 64)<i/\i<2 ^ 64)\/(-(2 ^ 64)<j/\j<2 ^ 64)
theorem CMul.ok (h:CMul i j):IntMulOk i j:=by
 rcases h with ⟨h1,h2⟩ | ⟨h1,h2⟩
 ·exact .of_left (intBits_le_64 h1 h2)
 ·exact .of_right (intBits_le_64 h1 h2)
theorem op_add:OpR X (binaryOp .Add) (rI0 fun i j=>.int (i+j)):=opI0 fun _ _ _ _ _ _ _ q=>add_int q
theorem op_mul:OpR X (binaryOp .Mult) (rI CMul fun i j=>.int (i * j)):=opI fun _ _ _ _ _ _ _ hc q=>mul_int q hc.ok
theorem op_fdiv:OpR X (binaryOp .FloorDiv) (rI CDiv fun i j=>.int (i / j)):=opI fun i j _ _ _ _ _ hc q=>by
 have h1:(0:Int)<j:=hc.1
 have h2:j<1073741824:=hc.2
 exact floordiv_int (by lia) (by rw [Int.fdiv_eq_ediv_of_nonneg i (by exact xbs ‹_›)]; exact q) (.inl (PyProof.noPylong_small (by lia)))
theorem op_mod:OpR X (binaryOp .Mod) (rI (fun _ j=>0<j) fun i j=>.int (i % j)):=opI fun i j _ _ _ _ _ hc q=>by
 have h1:(0:Int)<j:=hc
 exact mod_int' (by lia) (by rw [Int.fmod_eq_emod_of_nonneg i (by exact xbs ‹_›)]; exact q)
end
def scal:V->V->Bool
 | .non,.non=>true | .non,.int _=>true | .int _,.non=>true | .non,.bl _=>true | .bl _,.non=>true | .non,.str _=>true | .str _,.non=>true
 | .int _,.int _=>true | .bl _,.bl _=>true | .str _,.str _=>true | .byt _,.byt _=>true
 | .int _,.str _=>true | .str _,.int _=>true | .bl _,.str _=>true | .str _,.bl _=>true
 | _,_=>false
def rEq:R2:=fun x y H Q=>scal x y=true/\Q (.bl (decide (x=y))) H
def rNe:R2:=fun x y H Q=>scal x y=true/\Q (.bl (!decide (x=y))) H
theorem dec_int:decide (V.int i=V.int j)=(i == j):=by
 rw [xbp]
 simp
theorem dec_bl:decide (V.bl i=V.bl j)=(i == j):=by
 rw [xbp]
 simp
theorem dec_str:decide (V.str i=V.str j)=(i == j):=by
 rw [xbp]
 simp
theorem dec_byt:decide (V.byt i=V.byt j)=(i.toList == j.toList):=by
 rw [xbp]
 cases i
 cases j
 simp
section
variable {X:Cx} {a b c:Expr} {ta tb tc:TE} {pos:Pos}
theorem fin_bl (I:Inv X pins σ H s) (q:Q (.bl k) H) (e:k=k'):EP X pins σ Q (.bool k') s:=by
 subst e
 exact ⟨.bl k,H,I,rfl,q⟩
theorem op_eq:OpR X (compareOp .Eq) rEq:=by
 intro pins s σ H x y v u Q I rx ry h
 obtain ⟨hs,q⟩:=h
 cases x with
 | non =>
  cases rx
  cases y with
  | non=>cases ry; exact PySem.EqNone.eq_none_none (fin_bl I q (by simp))
  | bl j=>cases ry; exact PySem.EqNone.eq_none_bool (fin_bl I q (by simp))
  | int j=>obtain ⟨t',rfl⟩:=ry; exact PySem.EqNone.eq_none_int (fin_bl I q (by simp))
  | str j=>obtain ⟨t',rfl⟩:=ry; exact PySem.EqNone.eq_none_str (fin_bl I q (by simp))
  | _=>exact absurd (show false=true from hs) xap
 | bl i =>
  cases rx
  cases y with
  | non=>cases ry; exact PySem.EqNone.eq_bool_none (fin_bl I q (by simp))
  | bl j=>cases ry; exact eq_bool (fin_bl I q dec_bl)
  | str j=>obtain ⟨t',rfl⟩:=ry; exact PySem.EqMixed.eq_bool_str (fin_bl I q (by simp))
  | _=>exact absurd (show false=true from hs) xap
 | int i =>
  obtain ⟨t,rfl⟩:=rx
  cases y with
  | non=>cases ry; exact PySem.EqNone.eq_int_none (fin_bl I q (by simp))
  | int j=>obtain ⟨t',rfl⟩:=ry; exact eq_int (fin_bl I q dec_int)
  | str j=>obtain ⟨t',rfl⟩:=ry; exact PySem.EqMixed.eq_int_str (fin_bl I q (by simp))
  | _=>exact absurd (show false=true from hs) xap
 | str i =>
  obtain ⟨t,rfl⟩:=rx
  cases y with
  | non=>cases ry; exact PySem.EqNone.eq_str_none (fin_bl I q (by simp))
  | bl j=>cases ry; exact PySem.EqMixed.eq_str_bool (fin_bl I q (by simp))
  | int j=>obtain ⟨t',rfl⟩:=ry; exact PySem.EqMixed.eq_str_int (fin_bl I q (by simp))
  | str j=>obtain ⟨t',rfl⟩:=ry; exact eq_str (fin_bl I q dec_str)
  | _=>exact absurd (show false=true from hs) xap
 | byt i =>
  obtain ⟨t,rfl⟩:=rx
  cases y with
  | byt j=>obtain ⟨t',rfl⟩:=ry; exact PySem.W.eq_bytes (fin_bl I q dec_byt)
  | _=>exact absurd (show false=true from hs) xap
 | _=>cases y <;> exact absurd (show false=true from hs) xap
theorem op_ne:OpR X (compareOp .NotEq) rNe:=by
 intro pins s σ H x y v u Q I rx ry h
 obtain ⟨hs,q⟩:=h
 cases x with
 | non =>
  cases rx
  cases y with
  | non=>cases ry; exact PySem.EqNone.ne_none_none (fin_bl I q (by simp))
  | bl j=>cases ry; exact PySem.EqNone.ne_none_bool (fin_bl I q (by simp))
  | int j=>obtain ⟨t',rfl⟩:=ry; exact PySem.EqNone.ne_none_int (fin_bl I q (by simp))
  | str j=>obtain ⟨t',rfl⟩:=ry; exact PySem.EqNone.ne_none_str (fin_bl I q (by simp))
  | _=>exact absurd (show false=true from hs) xap
 | bl i =>
  cases rx
  cases y with
  | non=>cases ry; exact PySem.EqNone.ne_bool_none (fin_bl I q (by simp))
  | bl j=>cases ry; exact ne_bool (fin_bl I q (congrArg not dec_bl))
  | str j=>obtain ⟨t',rfl⟩:=ry; exact PySem.EqMixed.ne_bool_str (fin_bl I q (by simp))
  | _=>exact absurd (show false=true from hs) xap
 | int i =>
  obtain ⟨t,rfl⟩:=rx
  cases y with
  | non=>cases ry; exact PySem.EqNone.ne_int_none (fin_bl I q (by simp))
  | int j=>obtain ⟨t',rfl⟩:=ry; exact ne_int (fin_bl I q (congrArg not dec_int))
  | str j=>obtain ⟨t',rfl⟩:=ry; exact PySem.EqMixed.ne_int_str (fin_bl I q (by simp))
  | _=>exact absurd (show false=true from hs) xap
 | str i =>
  obtain ⟨t,rfl⟩:=rx
  cases y with
  | non=>cases ry; exact PySem.EqNone.ne_str_none (fin_bl I q (by simp))
  | bl j=>cases ry; exact PySem.EqMixed.ne_str_bool (fin_bl I q (by simp))
  | int j=>obtain ⟨t',rfl⟩:=ry; exact PySem.EqMixed.ne_str_int (fin_bl I q (by simp))
  | str j=>obtain ⟨t',rfl⟩:=ry; exact ne_str (fin_bl I q (congrArg not dec_str))
  | _=>exact absurd (show false=true from hs) xap
 | byt i =>
  obtain ⟨t,rfl⟩:=rx
  cases y with
  | byt j=>obtain ⟨t',rfl⟩:=ry; exact PySem.W.ne_bytes (fin_bl I q (congrArg not dec_byt))
  | _=>exact absurd (show false=true from hs) xap
 | _=>cases y <;> exact absurd (show false=true from hs) xap
theorem op_lt:OpR X (compareOp .Lt) (rI0 fun i j=>.bl (decide (i<j))):=opB0 fun _ _ _ _ _ _ _ q=>lt_int q
theorem op_le:OpR X (compareOp .LtE) (rI0 fun i j=>.bl (decide (i<=j))):=opB0 fun _ _ _ _ _ _ _ q=>le_int q
theorem op_gt:OpR X (compareOp .Gt) (rI0 fun i j=>.bl (decide (j<i))):=opB0 fun _ _ _ _ _ _ _ q=>gt_int q
theorem op_lt_str:OpR X (compareOp .Lt) (fun x y H Q=>∃ i j,x=.str i/\y=.str j/\Q (.bl (decide (i.cps.toList<j.cps.toList))) H):=by
 intro pins s σ H x y v u Q I rx ry h
 obtain ⟨i,j,rfl,rfl,q⟩:=h
 obtain ⟨t,rfl⟩:=rx
 obtain ⟨t',rfl⟩:=ry
 exact lt_str (fin_bl I q rfl)
theorem op_in_str:OpR X (compareOp .In) (fun x y H Q=>∃ i j,x=.str i/\y=.str j/\Q (.bl (!(Builtin.Str.occurrences j i 0 j.length 1).isEmpty)) H):=by
 intro pins s σ H x y v u Q I rx ry h
 obtain ⟨i,j,rfl,rfl,q⟩:=h
 obtain ⟨t,rfl⟩:=rx
 obtain ⟨t',rfl⟩:=ry
 exact in_str (fin_bl I q rfl)
theorem op_notin_str:OpR X (compareOp .NotIn) (fun x y H Q=>∃ i j,x=.str i/\y=.str j/\Q (.bl (!(!(Builtin.Str.occurrences j i 0 j.length 1).isEmpty))) H):=by
 intro pins s σ H x y v u Q I rx ry h
 obtain ⟨i,j,rfl,rfl,q⟩:=h
 obtain ⟨t,rfl⟩:=rx
 obtain ⟨t',rfl⟩:=ry
 exact notIn_str (fin_bl I q rfl)
theorem OpR.or (h:OpR X f r) (h':OpR X f r'):OpR X f (fun x y H Q=>r x y H Q\/r' x y H Q):=by
 intro pins s σ H x y v u Q I rx ry q
 rcases q with q | q
 ·exact h pins s σ H x y v u Q I rx ry q
 ·exact h' pins s σ H x y v u Q I rx ry q
theorem nomark (b:Expr) (h:op≠.In:=by decide) (h2:op≠.NotIn:=by decide):behindInMarks op b=false:=by
 have e1:(op == CmpOp.In)=false:=by cases op <;> first | rfl | exact absurd rfl h
 have e2:(op == CmpOp.NotIn)=false:=by cases op <;> first | rfl | exact absurd rfl h2
 cases b <;> simp [behindInMarks,e1,e2]
theorem pe_cmpR {op:CmpOp} {r:R2} (ho:OpR X (compareOp op) r) (ha:PE X a ta) (hb:PE X b tb) (hm:behindInMarks op b=false):PE X (.Compare a [op] [b] pos) (tOp r ta tb):=by
 intro pins s σ H Q I h
 exact wpAny_Compare1 (binT ha hb I h fun v u s2 x y H2 I2 rx ry q=>ho pins s2 σ H2 x y v u Q I2 rx ry q) hm
def tTest (t:TE):TT:=fun σ H Q=>t σ H fun x H'=>∃ k,x=.bl k/\Q k H'
theorem pt_cmpR (ho:OpR X (compareOp op) r) (ha:PE X a ta) (hb:PE X b tb) (hm:behindInMarks op b=false):PT X (.Compare a [op] [b] pos) (tTest (tOp r ta tb)):=by
 intro pins s σ H Q I h
 refine wpAny_isTrue_Compare1 (thn (ha pins s σ H _ I h) fun v s1 hx5=>L2.ex2 hx5 fun x H1 I1 r1 q1=>thn (hb pins s1 σ H1 _ I1 q1) fun u s2 hx5=>L2.ex2 hx5 fun y H2 I2 r2 q2 =>
  thn (ho pins s2 σ H2 x y v u _ I2 r1 r2 q2) fun c s3 ⟨z,H3,I3,r3,k,e,q3⟩=>?_) hm
 subst e
 cases r3
 exact wpAny_truthy_bool ⟨H3,I3,q3⟩
def tChain (r r':R2) (ta tb tc:TE):TE:=fun σ H Q=>ta σ H fun x H1=>tb σ H1 fun y H2=>r x y H2 fun z H3=>∃ k,z=.bl k /\
 (if k=true then tc σ H3 fun w' H4=>r' y w' H4 Q else Q (.bl false) H3)
theorem pt_chain (ho:OpR X (compareOp op) r) (ho':OpR X (compareOp op') r') (ha:PE X a ta) (hb:PE X b tb) (hc:PE X c tc)
  (hm:lastMarks [op,op'] [b,c]=false:=by with_unfolding_all rfl):PT X (.Compare a [op,op'] [b,c] pos) (tTest (tChain r r' ta tb tc)):=by
 intro pins s σ H Q I h
 refine isTrue_chain (thn (ha pins s σ H _ I h) fun v s1 hx5=>L2.ex2 hx5 fun x H1 I1 r1 q1=>test_link (thn (hb pins s1 σ H1 _ I1 q1) fun u s2 hx5=>L2.ex2 hx5 fun y H2 I2 r2 q2 =>
  thn (ho pins s2 σ H2 x y v u _ I2 r1 r2 q2) fun d s3 ⟨z,H3,I3,r3,k,e,q3⟩=>?_)) hm
 subst e
 cases r3
 refine wpAny_truthy_bool ?_
 cases k with
 | false =>
  obtain ⟨k',e',q'⟩:=q3
  cases e'
  exact ite_ff ⟨H3,I3,q'⟩
 | true =>
  refine ite_tt (test_last (thn (hc pins s3 σ H3 _ I3 q3) fun w' s4 ⟨z',H4,I4,r4,q4⟩=>thn (ho' pins s4 σ H4 y z' u w' _ I4 r2 r4 q4) fun d' s5 hx9=>?_))
  obtain ⟨z2,H5,I5,r5,k2,e2,q5⟩:=hx9
  subst e2
  cases r5
  exact wpAny_truthy_bool ⟨H5,I5,q5⟩
theorem line63:(sizeLine:Nat)<2 ^ 63:=by rw [sizeLine_eq]; decide
theorem op_add_str:OpR X (binaryOp .Add) (fun x y H Q=>∃ i j,x=.str i/\y=.str j/\i.length+j.length<=sizeLine/\Q (.str (i++j)) H):=by
 intro pins s σ H x y v u Q I rx ry h
 obtain ⟨i,j,rfl,rfl,hz,q⟩:=h
 obtain ⟨t,rfl⟩:=rx
 obtain ⟨t',rfl⟩:=ry
 exact add_str (fun t' tk=>⟨.str (i++j),H,I.tok _,⟨_,rfl⟩,q⟩) hz
theorem vals1 (r:Vals [x] us):∃ u,us=[u]/\RelV x u:=by
 cases r with
 | cons r1 r2=>cases r2; exact ⟨_,rfl,r1⟩
def LenV (K:PySem.W.Frag) (x:V) (H:Hp) (n:Nat):Prop :=
 match x with
 | .str y=>y.length<=sizeLine/\n=y.length
 | .byt y=>y.size<=sizeLine/\n=y.size
 | .ref p=>(∃ xs,SqL K H p xs/\n=xs.length)\/∃ xs,SqT K H p xs/\n=xs.length
 | _=>False
theorem call_len:CallR X (.builtin "len") (fun xs H Q=>∃ x n,xs=[x]/\LenV X.K x H n/\Q (.int n) H):=by
 intro pins s σ H xs us Q I r h
 obtain ⟨x,n,rfl,e,q⟩:=h
 obtain ⟨u,rfl,rx⟩:=vals1 r
 have hl:=line63
 have hs:sizeLine=16777216:=sizeLine_eq
 cases x with
 | str y =>
  obtain ⟨t,rfl⟩:=rx
  obtain ⟨hy,e'⟩:y.length<=sizeLine/\n=y.length:=e
  subst e'
  exact len_str (by lia) ⟨.int _,H,I.tok _,⟨_,rfl⟩,q⟩
 | byt y =>
  obtain ⟨t,rfl⟩:=rx
  obtain ⟨hy,e'⟩:y.size<=sizeLine/\n=y.size:=e
  subst e'
  exact PySem.W.len_bytes (by walk_at "s4") ⟨.int _,H,I.tok _,⟨_,rfl⟩,q⟩
 | ref p =>
  cases rx
  have e':(∃ xs,SqL X.K H p xs/\n=xs.length)\/∃ xs,SqT X.K H p xs/\n=xs.length:=e
  rcases e' with ⟨xs,hx,e'⟩ | ⟨xs,hx,e'⟩
  ·subst e'
   obtain ⟨its,r',pl,hz⟩:=I.list hx
   have hlen:=r'.length
   exact Calls.call_len_list pl.isList (by simp only [xan]; lia) ⟨.int xs.length,H,I.tok _,⟨_,by simp only [xan]; rw [hlen]⟩,q⟩
  ·subst e'
   obtain ⟨its,r',pl,hz⟩:=I.tuple hx
   have hlen:=r'.length
   exact len_tuple pl (by simp only [xan]; lia) ⟨.int xs.length,H,I.tok _,⟨_,by simp only [xan]; rw [hlen]⟩,q⟩
 | _=>exact (show False from e).elim
end
structure ObjM (h:Heap) (x dx C:Addr) (mA:Str->Option Value):Prop where
 obj:h.get? x=some (PySem.W.instObj C dx)
 ns:h.Ns1 dx mA
 ne:dx≠x
theorem lookIn_ns {h:Heap} {dx:Addr} {mA:Str->Option Value} (n:h.Ns1 dx mA):∃ od,h.get? dx=some od/\∀ name,PySem.W.lookIn name od=some (mA name):=by
 obtain ⟨o,es,ep,ho,hd,hk,_,hm⟩:=n
 refine ⟨o,ho,fun name=>?_⟩
 have e:=hm name
 unfold nsFind findBy at e
 rw [<- Array.find?_toList] at e
 unfold PySem.W.lookIn
 rw [hd]
 dsimp only
 split
 ·rename_i y q
  rw [q] at e
  exact congrArg some e
 ·rename_i q
  rw [q] at e
  have a:es.toList.any (·.refKey)=false:=by
   rw [List.any_eq_false]
   intro y hy
   obtain ⟨z,t,hkey⟩:=hk y (Array.mem_toList_iff.mp hy)
   simp [DictEntry.refKey,hkey]
  have a':¬ es.toList.any (·.refKey)=true:=by rw [a]; exact xap
  rw [if_neg a']
  exact congrArg some e
theorem ObjM.look (I:ObjM h x dx C mA):∃ od,PySem.W.InstAt h x (PySem.W.instObj C dx) C (some od)/\∀ name,PySem.W.lookIn name od=some (mA name) :=
 let ⟨od,ho,hl⟩:=lookIn_ns I.ns
 ⟨od,⟨I.obj,rfl,rfl,ho⟩,hl⟩
theorem RelO.some_of (r:RelO (some v) o):∃ u,o=some u/\RelV v u:=by
 cases o with
 | none=>exact (show False from r).elim
 | some u=>exact ⟨u,rfl,r⟩
section
variable {P:Program} {w:World} {H:Hp} {h:Heap} {a C dx:Addr} {fs:List (Str × V)}
theorem ins_get (hok:HOk P w H h) (e:H a=some (.ins C dx fs)):∃ mA,ObjM h a dx C mA/\(∀ f,RelO (fs.lookup f) (mA f))/\PySem.Within mA (fs.map (·.1))/\fs.length<=1000/\H dx=some (.own a):=by
 obtain ⟨d,z,ne,ob,mA,n,r,q⟩:=(show ObjOk P w H h a (.ins C dx fs) from hok a _ e)
 exact ⟨mA,⟨ob,n,ne⟩,r,q,z,d⟩
end
structure Cls (K:PySem.W.Frag) (C:Addr):Prop where
 pg:PySem.W.plainGet K C Str.empty=true
 hd:PySem.W.hasDictIn K C=true
 po:PySem.W.plainOver K C=true
 sa:PySem.W.findIn K (.ref C) "__setattr__" = some (some (.builtin "object.__setattr__"))
theorem Cls.get {K:PySem.W.Frag} (c:Cls K C) (f:Str):PySem.W.plainGet K C f=true:=c.pg
structure Con (K:PySem.W.Frag) (C:Addr) (f:Str) (v:V) (u:Value):Prop where
 at_:PySem.W.findIn K (.ref C) f=some (some u)
 rel:RelV v u
 get:PySem.W.specialIn K u "__get__" = some none
 cp:PySem.W.copiedNames.contains f=false
structure Meth (K:PySem.W.Frag) (C:Addr) (m:Str) (f:Addr):Prop where
 at_:PySem.W.findIn K (.ref C) m=some (some (.ref f))
 fn:PySem.W.isFn K (.ref f)=true
 kp:PySem.W.keepIn K (.ref f)=true
section
variable {X:Cx} {pins:List (Addr × Obj)} {σ:St} {H:Hp} {s:Shared} {a C:Addr}
theorem Inv.made (I:Inv X pins σ H s):Inv X pins σ (upd (upd H s.heap.objs.size (.own (s.heap.objs.size+1))) (s.heap.objs.size+1) (.ins C s.heap.objs.size []))
  { s with heap:=(s.heap.push PySem.W.emptyDict).push (PySem.W.instObj C s.heap.objs.size) }:=by
 have e1:(s.heap.push PySem.W.emptyDict).get? s.heap.objs.size=some PySem.W.emptyDict:=xao s.heap rfl
 have e2:((s.heap.push PySem.W.emptyDict).push (PySem.W.instObj C s.heap.objs.size)).get? (s.heap.objs.size+1)=some (PySem.W.instObj C s.heap.objs.size):=by
  have:=xao (s.heap.push PySem.W.emptyDict) (o:=PySem.W.instObj C s.heap.objs.size) rfl
  rwa [xca] at this
 have e3:(s.heap.push PySem.W.emptyDict).Ns s.heap.objs.size (fun _=>none):=⟨PySem.W.emptyDict,#[],_,e1,rfl,(fun e he=>absurd he (by simp)),fun _=>rfl⟩
 have I1:=I.laid (a:=s.heap.objs.size) (o:=.own (s.heap.objs.size+1)) (h':=s.heap.push PySem.W.emptyDict) (t':=s.toks) (fun b u q=>xad _ q) (xae _) ⟨_,e1⟩
 refine I1.laid (a:=s.heap.objs.size+1) (o:=.ins C s.heap.objs.size []) (t':=s.toks) (fun b u q=>xad _ q) (xcO (xca _ _)) ?_
 have ne:s.heap.objs.size≠s.heap.objs.size+1:=xar (Nat.lt_succ_self _)
 refine ⟨by rw [upd_ne ne,upd_same],xaq _,ne,e2,fun _=>none,(Heap.Ns1.of_empty e3).at fun o q=>xad _ q,fun _=>True.intro,fun y hy=>absurd rfl hy⟩
end
section
variable {X:Cx} {pins:List (Addr × Obj)} {σ:St} {H:Hp} {s:Shared} {A:Around} {E:Value->Shared->Prop} {Q:Value->Shared->Prop} {c:Value} {b:Bool}
inductive TyOf (K:PySem.W.Frag) (H:Hp):V->Value->Prop where
 | non:TyOf K H .non (.type "NoneType")
 | bl (x:Bool):TyOf K H (.bl x) (.type "bool")
 | int (i:Int):TyOf K H (.int i) (.type "int")
 | str (x:Str):TyOf K H (.str x) (.type "str")
 | flt (x:UInt64):TyOf K H (.flt x) (.type "float")
 | lst {a:Addr} {xs:List V} (e:H a=some (.lst xs)):TyOf K H (.ref a) (.type "list")
 | frz {a:Addr} {o:Obj} {xs:List V} (e:H a=some (.frz o (.lst xs))):TyOf K H (.ref a) (.type "list")
 | tup {a:Addr} {xs:List V} (e:H a=some (.tup xs)):TyOf K H (.ref a) (.type "tuple")
 | dK {a:Addr} {kvs:List (Key × V)} (e:H a=some (.dK kvs)):TyOf K H (.ref a) (.type "dict")
 | dT {a:Addr} {kvs:List (List Key × V)} (e:H a=some (.dT kvs)):TyOf K H (.ref a) (.type "dict")
 | ins {a C dx:Addr} {fs:List (Str × V)} (e:H a=some (.ins C dx fs)) (cl:Cls K C) (ha:PySem.W.findIn K (.ref C) "__class__" = some (some (.builtin "object.__class__")))
   (hn:PySem.W.specialIn K (.builtin "object.__class__") "__get__" = some (some (.builtin "getset_descriptor.__get__"))) (htk:PySem.W.takesIn K (.builtin "object.__class__")=some true)
   (hm:PySem.W.mroIn K C (.type "object")=some true):TyOf K H (.ref a) (.ref C)
theorem isinst_ok (I:Inv X pins σ H s) (rx:RelV x u) (ty:TyOf X.K H x t) (e:PySem.W.kitOne X.K t c=some b) (h:∀ tk,Q (.bool b) { s with toks:=tk }) :
  wpAny (model X.prog X.w) A (call (.builtin "isinstance") [u,c]) Q E s:=by
 cases ty with
 | non=>cases (show u=Value.none from rx); exact PySem.W.kia_one PySem.W.kitx_none I.kIn True.intro e (fun z=>nomatch z) h
 | bl y=>cases (show u=Value.bool y from rx); exact PySem.W.kia_one PySem.W.kitx_bool I.kIn True.intro e (fun z=>nomatch z) h
 | int i=>obtain ⟨t,q⟩:=(show ∃ t,u=Value.int i t from rx); cases q; exact PySem.W.kia_one PySem.W.kitx_int I.kIn True.intro e (fun z=>nomatch z) h
 | str y=>obtain ⟨t,q⟩:=(show ∃ t,u=Value.str y t from rx); cases q; exact PySem.W.kia_one PySem.W.kitx_str I.kIn True.intro e (fun z=>nomatch z) h
 | flt y=>obtain ⟨t,q⟩:=(show ∃ t,u=Value.float y t from rx); cases q; exact PySem.W.kia_one PySem.W.kitx_float I.kIn True.intro e (fun z=>nomatch z) h
 | @lst a xs ea =>
  cases (show u=Value.ref a from rx)
  obtain ⟨_,_,n,_,h1⟩:=(show ObjOk X.prog X.w H s.heap a (.lst xs) from I.hok a _ ea)
  exact PySem.W.kia_one PySem.W.kitx_list I.kIn ⟨_,h1,rfl⟩ e (fun z=>nomatch z) h
 | @frz a ob xs ea =>
  cases (show u=Value.ref a from rx)
  obtain ⟨_,_,_,n,_,h1⟩:=(show ObjOk X.prog X.w H s.heap a (.frz ob (.lst xs)) from I.hok a _ ea)
  exact PySem.W.kia_one PySem.W.kitx_list I.kIn ⟨_,h1,rfl⟩ e (fun z=>nomatch z) h
 | @tup a xs ea =>
  cases (show u=Value.ref a from rx)
  obtain ⟨_,_,_,p⟩:=(show ObjOk X.prog X.w H s.heap a (.tup xs) from I.hok a _ ea)
  obtain ⟨o,h1,h2,_⟩:=p
  exact PySem.W.kia_one PySem.W.kitx_tuple I.kIn ⟨o,h1,h2⟩ e (fun z=>nomatch z) h
 | @dK a kvs ea =>
  cases (show u=Value.ref a from rx)
  obtain ⟨_,_,vs,_,p⟩:=(show ObjOk X.prog X.w H s.heap a (.dK kvs) from I.hok a _ ea)
  obtain ⟨o,es,ep,h1,h2,_⟩:=p
  exact PySem.W.kia_one PySem.W.kitx_dict I.kIn ⟨o,h1,h2.1⟩ e (fun z=>nomatch z) h
 | @dT a kvs ea =>
  cases (show u=Value.ref a from rx)
  obtain ⟨_,_,xs,_,o,es,ep,h1,h2,_⟩:=(show ObjOk X.prog X.w H s.heap a (.dT kvs) from I.hok a _ ea)
  exact PySem.W.kia_one PySem.W.kitx_dict I.kIn ⟨o,h1,h2.1⟩ e (fun z=>nomatch z) h
 | @ins a C dx fs ea cl ha hn htk hm =>
  cases (show u=Value.ref a from rx)
  obtain ⟨mA,O,_⟩:=ins_get I.hok ea
  obtain ⟨od,J,_⟩:=O.look
  exact PySem.W.kia_one (PySem.W.kitx_own (cl.get _) cl.hd ha hn htk hm) I.kIn J e (fun z=>nomatch z) h
end
structure Room (k:Nat) (A:Around):Prop where
 hd:A.handled=none
 dp:A.depth+3 * k+5<recursionLimit
 un:A.units+16 * k+200<cLine
theorem Room.mono (r:Room k A) (h:j<=k):Room j A:=⟨r.hd,by have:=r.dp; lia,by have:=r.un; lia⟩
theorem Room.deeper (r:Room (k+1) A) (env:Env):Room k (A.deeper env) :=
 ⟨r.hd,by have:=r.dp; show A.depth+1+3 * k+5<_; lia,by have:=r.un; show A.units+3+16 * k+200<_; lia⟩
theorem Room.in1 (r:Room (k+1) A):Room k A.in1 :=
 ⟨r.hd,by have:=r.dp; show A.depth+3 * k+5<_; lia,by have:=r.un; show A.units+1+16 * k+200<_; lia⟩
theorem Room.depth (r:Room k A):A.depth<recursionLimit:=by have:=r.dp; lia
theorem Room.units (r:Room k A):A.units+64<cLine:=by have:=r.un; lia
def tNil:TA:=fun _ H Q=>Q [] H
def tCons (ta:TE) (tr:TA):TA:=fun σ H Q=>ta σ H fun x H1=>tr σ H1 fun xs H2=>Q (x :: xs) H2
section
variable {X:Cx} {e:Expr} {es:List Expr} {te:TE} {t:TA} {pos:Pos}
theorem pa_nil:PA X [] tNil:=fun _ _ _ _ H Q I h=>Calls.spliced_nil ⟨[],H,I,.nil,h⟩
theorem pa_cons (ha:PE X e te) (hr:PA X es t) (hs:starEach (e :: es) X.env=(false,eval e X.env) :: starEach es X.env:=by rfl):PA X (e :: es) (tCons te t):=by
 intro pos pins s σ H Q I h
 rw [hs]
 show wpAny _ _ (spliced ((false,eval e X.env) :: backTo pos (starEach es X.env))) _ _ s
 refine Calls.spliced_cons (thn (ha pins s σ H _ I h) fun u s1 hx5=>L2.ex2 hx5 fun x H1 I1 r1 q1=>?_)
 exact thn (hr pos pins s1 σ H1 _ I1 q1) fun us s2 hx5=>L2.ex2 hx5 fun xs H2 I2 r2 q2=>⟨x :: xs,H2,I2,.cons r1 r2,q2⟩
def tTup (t:TA):TE:=fun σ H Q=>t σ H fun xs H1=>xs.length<=sizeLine/\∀ p,H1 p=none->Q (.ref p) (upd H1 p (.tup xs))
def tLst (t:TA):TE:=fun σ H Q=>t σ H fun xs H1=>xs.length<=sizeLine/\∀ p,H1 p=none->Q (.ref p) (upd H1 p (.lst xs))
theorem pe_tup {x1} (h:PA X es t):PE X (.Tuple es x1 pos) (tTup t):=by
 intro pins s σ H Q I hq
 refine wpAny_Tuple_spliced (thn (h pos pins s σ H _ I hq) fun us s1 ⟨xs,H1,I1,r,z,q⟩=>⟨by rw [<- r.length]; exact z,?_⟩)
 have hf:H1 s1.heap.objs.size=none:=I1.hok.fresh (xae _)
 refine ⟨.ref s1.heap.objs.size,upd H1 s1.heap.objs.size (.tup xs),I1.laid (t':=s1.toks) (fun b u e=>xad _ e) (xae _) ?_,rfl,q _ hf⟩
 exact ⟨z,us,r,⟨_,xao _ rfl,rfl,_,rfl⟩⟩
theorem pe_lst (h:PA X es t):PE X (.List es pos) (tLst t):=by
 intro pins s σ H Q I hq
 refine wpAny_List_spliced (thn (h pos pins s σ H _ I hq) fun us s1 ⟨xs,H1,I1,r,z,q⟩=>⟨by rw [<- r.length]; exact z,?_⟩)
 have hf:H1 s1.heap.objs.size=none:=I1.hok.fresh (xae _)
 refine ⟨.ref s1.heap.objs.size,upd H1 s1.heap.objs.size (.lst xs),I1.laid (t':=s1.toks) (fun b u e=>xad _ e) (xae _) ?_,rfl,q _ hf⟩
 exact ⟨z,us,0,r,xao _ rfl⟩
end
abbrev Sp:=List V->Hp->VK->XK->Prop
abbrev CXT:=List Env->Hp->Shared->XK->Value->Shared->Prop
structure Env0 (P:Program) (w:World) (K:PySem.W.Frag) (mg:Str->Option Value) (base:Heap) (A:Around) (outer:List Env) (s:Shared) (H:Hp):Prop where
 frames:A.frames=some outer
 mod:Mod K mg base
 bs:∀ b o,base.get? b=some o->s.heap.get? b=some o/\H b=none
 bsz:base.objs.size<=s.heap.objs.size
 funs:s.heap.FunFrames base outer
 frf:∀ b∈frs outer,H b=none
 hok:HOk P w H s.heap
 bare:AllBare s.gens
def CE (outer:List Env) (P:Program) (w:World) (H:Hp) (s:Shared) (Q:VK) (u:Value) (s':Shared):Prop :=
 ∃ v H',s'.os=s.os/\AllBare s'.gens/\Un (frs outer) [] H H' s.heap s'.heap/\HOk P w H' s'.heap/\RelV v u/\Q v H'
def CR (CX:CXT) (outer:List Env) (P:Program) (w:World) (H:Hp) (s:Shared) (Q:VK) (E:XK) (r:Result) (s':Shared):Prop :=
 match r with
 | .ok (.ret u)=>CE outer P w H s Q u s'
 | .ok _=>False
 | .error e=>CX outer H s E e s'
structure FnOk (P:Program) (w:World) (K:PySem.W.Frag) (mg:Str->Option Value) (base:Heap) (CX:CXT) (k:Nat) (f:Addr) (fd:FuncData) (ps:List Str) (sp:Sp):Prop where
 len:∀ vs H Q E,sp vs H Q E->vs.length=ps.length
 run:∀ (A:Around) (outer:List Env) (s:Shared) (H:Hp) (args:Args) (us:List Value) (vs:List V) (Q:VK) (E:XK),Room k A->Env0 P w K mg base A outer s H->BindsTo s fd args (ps.zip us)->Vals vs us->sp vs H Q E ->
  codeAny (model P w) A (.call (.ref f) args) (CR CX outer P w H s Q E) s
theorem FnOk.mono {P:Program} {K:PySem.W.Frag} {ps:List Str} (F:FnOk P w K mg base CX j f fd ps sp) (h:j<=k) :
  FnOk P w K mg base CX k f fd ps sp:=⟨F.len,fun A outer s H args us vs Q E hr=>F.run A outer s H args us vs Q E (hr.mono h)⟩
theorem FnOk.imp {P:Program} {K:PySem.W.Frag} {ps:List Str} (F:FnOk P w K mg base CX k f fd ps sp)
  (h:∀ vs H Q E,sp' vs H Q E->sp vs H Q E):FnOk P w K mg base CX k f fd ps sp' :=
 ⟨fun vs H Q E q=>F.len vs H Q E (h _ _ _ _ q),fun A outer s H args us vs Q E hr he hb hv hs=>F.run A outer s H args us vs Q E hr he hb hv (h _ _ _ _ hs)⟩
theorem Env0.in1 {P:Program} {K:PySem.W.Frag} (e:Env0 P w K mg base A outer s H) :
  Env0 P w K mg base A.in1 outer s H:=⟨e.frames,e.mod,e.bs,e.bsz,e.funs,e.frf,e.hok,e.bare⟩
section
variable {X:Cx} {pins:List (Addr × Obj)} {σ:St} {H:Hp} {s s':Shared}
theorem Inv.env0 (I:Inv X pins σ H s):Env0 X.prog X.w X.K X.mg X.base X.A X.stack s H :=
 ⟨I.ok.frames,I.ok.mod,I.bs,xaB I.ok.bsz I.sz,I.stack,I.stkFree,I.hok,I.bare⟩
theorem Inv.after (I:Inv X pins σ H s) (h:CE X.stack X.prog X.w H s Q u s'):EP X pins σ Q u s':=by
 obtain ⟨v,H',os,bare,un,hok,r,q⟩:=h
 obtain ⟨hh,g,d,t,os'⟩:=s'
 obtain rfl:os'=s.os:=os
 exact ⟨v,H',I.call (h':=hh) (g':=g) (d':=d) (t':=t) (ch:=[]) un hok bare (fun b z=>absurd z (by simp)),r,q⟩
end
def tCall (sp:Sp) (dvs:List V) (E:XK) (t:TA):TE:=fun σ H Q=>t σ H fun vs H1=>sp (vs++dvs) H1 Q E
def Binds (K:PySem.W.Frag) (fd:FuncData) (ps:List Str) (ds:List Value):Prop :=
 ∀ (s:Shared) (us:List Value),K.In s.heap->(us++ds).length=ps.length->BindsTo s fd ⟨us,[]⟩ (ps.zip (us++ds))
theorem Binds.all {K:PySem.W.Frag} {ps:List Str} (h:∀ us:List Value,us.length=ps.length->bindArgs fd ⟨us,[]⟩=pure (ps.zip us)):Binds K fd ps []:=fun s us _ hl=>by
 rw [xaF] at hl ⊢
 exact .of_eq (h us hl)
def Passes (CX:CXT) (X:Cx) (E:XK):Prop:=∀ (pins:List (Addr × Obj)) (σ:St) (H:Hp) (s:Shared) (e:Value) (s':Shared),Inv X pins σ H s->CX X.stack H s E e s'->X.xe e s'
section
variable {X:Cx} {CX:CXT} {k:Nat} {f C:Addr} {fd:FuncData} {ps:List Str} {sp:Sp} {dvs:List V} {ds:List Value} {E:XK} {x:Str} {p pos:Pos} {e:Expr} {es:List Expr} {t:TA}
theorem run_fn (F:FnOk X.prog X.w X.K X.mg X.base CX k f fd ps sp) (hr:Room k X.A) (hb:Binds X.K fd ps ds) (hd:Vals dvs ds) (hx:Passes CX X E)
  (I:Inv X pins σ H s) (r:Vals vs us) (h:sp (vs++dvs) H Q E):wpAny (model X.prog X.w) X.A (call (.ref f) us) (EP X pins σ Q) X.xe s:=by
 have r2:Vals (vs++dvs) (us++ds):=r.append hd
 have hl:(us++ds).length=ps.length:=by rw [<- r2.length]; exact F.len _ _ _ _ h
 refine wpAny_call (codeAny_mono (F.run X.A X.stack s H ⟨us,[]⟩ (us++ds) (vs++dvs) Q E hr I.env0 (hb s us I.kIn hl) r2 h) fun r s' hq=>?_)
 cases r with
 | error e=>exact hx pins σ H s e s' I hq
 | ok fl =>
  cases fl with
  | ret u=>exact I.after hq
  | next=>exact False.elim hq
  | brk=>exact False.elim hq
  | cont=>exact False.elim hq
theorem pe_call (F:FnOk X.prog X.w X.K X.mg X.base CX k f fd ps sp) (hr:Room k X.A) (hg:Gl X x) (hm:X.mg x=some (.ref f)) (hk:PySem.W.keepIn X.K (.ref f)=true) (hb:Binds X.K fd ps ds) (hd:Vals dvs ds) (hx:Passes CX X E)
  (ha:PA X (e :: es) t) (hdb:(x == ("__debug__" : Str))=false:=by decide) (he:starEach (e :: es) X.env=(false,eval e X.env) :: starEach es X.env:=by rfl) (hpl:(backTo pos (starEach es X.env)).any (·.1)=false:=by rfl) :
  PE X (.Call (.Name x p) (e :: es) [] pos) (tCall sp dvs E t):=by
 intro pins s σ H Q I h
 refine wpAny_Call_Name_kw (ld_glob I hg hm ?_ hdb)
 refine PySem.W.callWith_K (h₀:=X.base) I.ok.mod.kin hk (thn (ha pos pins s σ H _ I h) fun us s1 hx5=>L2.ex2 hx5 fun vs H1 I1 r q=>⟨I1.kIn,?_⟩) he hpl
 exact run_fn F hr hb hd hx I1 r q
structure Mk (K:PySem.W.Frag) (C f:Addr):Prop where
 makes:PySem.W.makesIn K C=true
 init:PySem.W.findIn K (.ref C) "__init__" = some (some (.ref f))
 fn:PySem.W.isFn K (.ref f)=true
 kp:PySem.W.keepIn K (.ref C)=true
end
section
variable {fd:FuncData} {ps ks:List Str}
structure KBinds (K:PySem.W.Frag) (fd:FuncData) (ps ks:List Str) (g:List Value->List Value->List Value) (gV:List V->List V->List V):Prop where
 to:∀ (s:Shared) (us ws:List Value),K.In s.heap->(g us ws).length=ps.length->BindsTo s fd ⟨us,ks.zip ws⟩ (ps.zip (g us ws))
 rel:∀ {vs:List V} {us:List Value} {zs:List V} {ws:List Value},Vals vs us->Vals zs ws->Vals (gV vs zs) (g us ws)
end
structure FnScope (N P:List Str) (sc:Scope):Prop where
 kind:sc.kind=.function
 co:sc.isCoroutine=false
 gen:sc.isGenerator=false
 nd:N.Nodup
 pre:N.take P.length=P
 par:∀ x∈P,sc.names.lookup x=some .local\/sc.names.lookup x=some .cell
 nofree:∀ y∈sc.names,y.2≠.free
theorem bindL_out {kindOf:Str->Option NameKind}:∀ {binds:List (Str × Value)} {m:Str->Option Value},(∀ v,(x,v)∉binds)->bindL kindOf binds m x=m x
 | [],_,_=>rfl
 | (n,v) :: r,m,h=>by
  unfold bindL
  rw [bindL_out fun w hw=>h w (xaf _ hw)]
  split
  ·have:x≠n:=by rintro rfl; exact h v xah
   simp [this]
  ·rfl
theorem bindC_out {kindOf:Str->Option NameKind}:∀ {binds:List (Str × Value)} {m:Str->Option Value},(∀ v,(x,v)∉binds)->bindC kindOf binds m x=m x
 | [],_,_=>rfl
 | (n,v) :: r,m,h=>by
  unfold bindC
  rw [bindC_out fun w hw=>h w (xaf _ hw)]
  split
  ·rfl
  ·have:x≠n:=by rintro rfl; exact h v xah
   simp [this]
theorem bindL_get {kindOf:Str->Option NameKind}:∀ {P:List Str} {vs:List Value} {i:Nat} {m:Str->Option Value},P.Nodup->P[i]? = some x->vs[i]? = some v->kindOf x=some .local ->
  bindL kindOf (P.zip vs) m x=some v
 | [],_,_,_,_,h,_,_=>by simp at h
 | _ :: _,[],_,_,_,_,h,_=>by simp at h
 | p :: P,w :: vs,0,m,nd,h1,h2,hk=>by
  simp at h1 h2; subst h1; subst h2
  show bindL kindOf ((p,w) :: P.zip vs) m p=_
  unfold bindL
  rw [bindL_out fun v hv=>(xaO.mp nd).1 (xcs hv).1,if_pos hk]
  simp
 | p :: P,w :: vs,i+1,m,nd,h1,h2,hk=>by
  show bindL kindOf ((p,w) :: P.zip vs) m x=_
  unfold bindL
  exact bindL_get (i:=i) (xaO.mp nd).2 (by simpa using h1) (by simpa using h2) hk
theorem bindC_get {kindOf:Str->Option NameKind}:∀ {P:List Str} {vs:List Value} {i:Nat} {m:Str->Option Value},P.Nodup->P[i]? = some x->vs[i]? = some v->kindOf x≠some .local ->
  bindC kindOf (P.zip vs) m x=some v
 | [],_,_,_,_,h,_,_=>by simp at h
 | _ :: _,[],_,_,_,_,h,_=>by simp at h
 | p :: P,w :: vs,0,m,nd,h1,h2,hk=>by
  simp at h1 h2; subst h1; subst h2
  show bindC kindOf ((p,w) :: P.zip vs) m p=_
  unfold bindC
  rw [bindC_out fun v hv=>(xaO.mp nd).1 (xcs hv).1,if_neg hk]
  simp
 | p :: P,w :: vs,i+1,m,nd,h1,h2,hk=>by
  show bindC kindOf ((p,w) :: P.zip vs) m x=_
  unfold bindC
  exact bindC_get (i:=i) (xaO.mp nd).2 (by simpa using h1) (by simpa using h2) hk
def start (N:List Str) (vs:List V):St:=vs.map some++List.replicate (N.length - vs.length) none
def cxOf (CX:CXT) (P:Program) (w:World) (K:PySem.W.Frag) (mg:Str->Option Value) (base:Heap) (N:List Str) (qual:Str) (scope:Scope) (f:Addr) (cd:Value) (A:Around) (outer:List Env) (s:Shared) (H:Hp) (E:XK):Cx where
 prog:=P
 w:=w
 K:=K
 mg:=mg
 base:=base
 A:=A.deeper (envOfC qual scope s.heap.objs.size f cd)
 N:=N
 s₀:=s
 H₀:=H
 env:=envOfC qual scope s.heap.objs.size f cd
 outer:=outer
 stack:=envOfC qual scope s.heap.objs.size f cd :: outer
 ex:=[]
 calm:=true
 fn:=fun _=>true
 pn:=[]
 xe:=fun e s'=>wpAny (model P w) (A.deeper (envOfC qual scope s.heap.objs.size f cd)) (leaving (envOfC qual scope s.heap.objs.size f cd) e) (fun _ s''=>CX outer H s E e s'') (fun e' s''=>CX outer H s E e' s'') s'
theorem cell_has {sc:Scope} {n:Nat} {x:Str} (h:sc.names.lookup x=some .cell):∃ c,(cellsFrom n sc.names []).lookup x=some c:=by
 have q:=PySem.W.cellsFrom_some sc.names n [] (.inl h)
 exact Option.isSome_iff_exists.mp q
theorem inv_start {CX:CXT} {P:Program} {w:World} {K:PySem.W.Frag} {mg:Str->Option Value} {base:Heap} {N ps:List Str} {qual:Str} {scope:Scope} {f:Addr} {cd:Value} {A:Around} {outer:List Env} {s s1:Shared} {H:Hp} {E:XK} {us:List Value} {vs:List V}
  (S:FnScope N ps scope) (hd:A.handled=none) (e0:Env0 P w K mg base A outer s H) (hl:vs.length=ps.length) (r:Vals vs us)
  (x:InCallC s s.heap.objs.size (bindL (envOfC qual scope s.heap.objs.size f cd).kindOf (ps.zip us) fun _=>none) (cellsFrom (s.heap.objs.size+1) scope.names []) (bindC (envOfC qual scope s.heap.objs.size f cd).kindOf (ps.zip us) fun _=>none) s1) :
  Inv (cxOf CX P w K mg base N qual scope f cd A outer s H E) [] (start N vs) H s1:=by
 have hpl:ps.length<=N.length:=by have:=congrArg List.length S.pre; rw [xat] at this; lia
 obtain ⟨h1,tk,rfl,hk⟩:=x.done
 have noA:∀ b:Addr,b∉(cxOf CX P w K mg base N qual scope f cd A outer s H E).ex:=fun b z=>absurd (show b∈([]:List Addr) from z) (by simp)
 refine ⟨⟨e0.mod,S.kind,rfl,rfl,xae _,fun y z c h1 h2=>?_,fun y hy=>?_,fun y c _ h=>?_,fun _=>hd,Around.frames_deeper e0.frames,.inr ⟨rfl,rfl⟩,fun b z=>absurd z (noA b),e0.bs,e0.bsz,fun b _ _=>noA b,fun b z=>absurd z (noA b),e0.funs,e0.frf⟩,
  rfl,e0.bare,Un.kept hk,⟨_,x.toInCall.ns,fun i y v h1 h2 h3=>?_⟩,fun y c h=>⟨_,x.cell y c h⟩,e0.hok.fresh (xae _),fun y c h=>?_,fun p hp=>absurd (show p∈([]:List (Addr × Obj)) from hp) (by simp),e0.hok.kept hk,?_⟩
 ·exact name_of_addr x.apart (PySem.mem_of_lookup h1) (PySem.mem_of_lookup h2)
 ·have hy:scope.names.lookup y=some .cell\/scope.names.lookup y=some .free:=hy
  rcases hy with hy | hy
  ·exact cell_has hy
  ·exact absurd rfl (S.nofree _ (PySem.mem_of_lookup hy))
 ·exact xaL (x.above y c (PySem.mem_of_lookup h))
 ·have hi:i<vs.length:=by
   unfold start at h2
   by_cases hi:i<vs.length
   ·exact hi
   ·rw [xaI (by simpa using hi)] at h2
    rw [List.getElem?_replicate] at h2
    split at h2 <;> cases h2
  have ha:vs[i]? = some v:=by
   unfold start at h2
   rw [xa9 (by simpa using hi),xaR] at h2
   cases e:vs[i]? with
   | none=>rw [e] at h2; cases h2
   | some a=>rw [e] at h2; cases h2; rfl
  obtain ⟨u,hu,rv⟩:=r.get ha
  have hp:ps[i]? = some y:=by
   rw [<- S.pre,List.getElem?_take_of_lt (by lia)]; exact h1
  have ndP:ps.Nodup:=by rw [<- S.pre]; exact S.nd.sublist (List.take_sublist _ _)
  refine ⟨u,rv,?_⟩
  rcases S.par y (xaQ hp) with k | k
  ·exact .inl ⟨k,bindL_get ndP hp hu k⟩
  ·obtain ⟨c,e⟩:=cell_has (n:=s.heap.objs.size+1) k
   refine .inr ⟨.inl k,c,e,?_⟩
   have q:=x.cell y c e
   rw [bindC_get ndP hp hu (by show scope.names.lookup y≠_; rw [k]; decide)] at q
   exact q
 ·exact e0.hok.fresh (xaL (x.above y c (PySem.mem_of_lookup h)))
 ·unfold start
  show _=N.length
  rw [xaD,xac,List.length_replicate]
  lia
theorem fn_of {P:Program} {K:PySem.W.Frag} {dV kV doc pm cdv ct oc:Value}
  {N ps:List Str} (lk:K.lookup f=some ⟨oc,od,.func (PySem.W.fnOf name qual params body scope dV kV doc pm an cdv ct),osl⟩) (hcd:PySem.W.codeIn K cdv qual=true) (S:FnScope N ps scope)
  (len:∀ vs H Q E,sp vs H Q E->vs.length=ps.length)
  (hbody:∀ (A:Around) (outer:List Env) (s:Shared) (H:Hp) (vs:List V) (Q:VK) (E:XK),Room k (A.deeper (envOfC qual scope s.heap.objs.size f cdv))->sp vs H Q E ->
   ∃ t,PSs (cxOf CX P w K mg base N qual scope f cdv A outer s H E) body t/\t { nx:=fun _ H'=>Q .non H',rt:=Q } (start N vs) H) :
  FnOk P w K mg base CX (k+1) f (PySem.W.fnOf name qual params body scope dV kV doc pm an cdv ct) ps sp:=by
 refine ⟨len,fun A outer s H args us vs Q E hr e0 hb r hsp=>?_⟩
 have hl:=len _ _ _ _ hsp
 have KX:K.In s.heap:=e0.mod.kin.keeps fun b o e=>(e0.bs b o e).1
 have lim:s.heap.NoLimit:=e0.mod.nolimit.keeps fun b o e=>(e0.bs b o e).1
 have hkind:∀ y∈ps.zip us,scope.names.lookup y.1=some .local\/(scope.names.lookup y.1=some .cell/\((cellsFrom (s.heap.objs.size+1) scope.names []).lookup y.1).isSome=true):=fun ⟨n,v⟩ hy=>by
  rcases S.par n (xcs hy).1 with q | q
  ·exact .inl q
  ·exact .inr ⟨q,PySem.W.cellsFrom_some _ _ _ (.inl q)⟩
 refine codeAny_call_function hr.depth (KX _ _ lk) rfl S.co S.gen rfl (PySem.W.codeRec_of KX hcd) (hb _ _ _ _ ?_)
 refine wpAny_newFunctionEnv_cells S.kind hkind fun env he s1 x=>?_
 subst he
 refine ⟨lim.keeps x.toInCall.keep,codeAny_func ?_⟩
 obtain ⟨t,ht,hq⟩:=hbody A outer s H vs Q E (hr.deeper _) hsp
 have I:Inv (cxOf CX P w K mg base N qual scope f cdv A outer s H E) [] (start N vs) H s1:=inv_start S hr.hd e0 hl r x
 refine xaZ (ht [] s1 (start N vs) H _ I hq) (fun fl s' hs=>?_) fun e s' hs=>hs
 have fin:∀ {σ':St} {H':Hp} {v:V} {u:Value},Inv (cxOf CX P w K mg base N qual scope f cdv A outer s H E) [] σ' H' s'->RelV v u->Q v H'->CE outer P w H s Q u s' :=
  fun {σ' H' v u} J rv q=>⟨v,H',J.os,J.bare,J.base,J.hok,rv,q⟩
 cases fl with
 | ret u =>
  obtain ⟨v,σ',H',J,rv,q⟩:=hs
  exact fin J rv q
 | next =>
  obtain ⟨σ',H',J,q⟩:=hs
  exact fin (v:=V.non) (u:=Value.none) J rfl q
 | brk =>
  obtain ⟨_,_,_,q⟩:=hs
  exact False.elim q
 | cont =>
  obtain ⟨_,_,_,q⟩:=hs
  exact False.elim q
section
variable {X:Cx} {x:Str} {p pos:Pos} {e:Expr} {es:List Expr} {t:TA} {id T:String} {r:List V->Hp->VK->Prop}
def tCB (r:List V->Hp->VK->Prop) (t:TA):TE:=fun σ H Q=>t σ H fun vs H1=>r vs H1 Q
theorem pe_callB (hc:CallR X (.builtin id) r) (hg:Gl X x) (hm:X.mg x=none) (hv:bootBuiltins x=some (.builtin id)) (ha:PA X (e :: es) t) (hn:x ≠ "__name__" := by decide) (hdb:(x == ("__debug__" : Str))=false:=by decide)
  (he:starEach (e :: es) X.env=(false,eval e X.env) :: starEach es X.env:=by rfl) (hpl:(backTo pos (starEach es X.env)).any (·.1)=false:=by rfl):PE X (.Call (.Name x p) (e :: es) [] pos) (tCB r t):=by
 intro pins s σ H Q I h
 refine wpAny_Call_Name_kw (ld_blt I hg hm hv ?_ hn hdb)
 exact PyProof.Rows.callWith_builtin1 (thn (ha pos pins s σ H _ I h) fun us s1 hx5=>L2.ex2 hx5 fun vs H1 I1 r1 q1=>hc pins s1 σ H1 vs us Q I1 r1 q1) he hpl
theorem pe_callTy (hc:CallR X (.type T) r) (hg:Gl X x) (hm:X.mg x=none) (hv:bootBuiltins x=some (.type T)) (ha:PA X (e :: es) t) (hn:x ≠ "__name__" := by decide) (hdb:(x == ("__debug__" : Str))=false:=by decide)
  (he:starEach (e :: es) X.env=(false,eval e X.env) :: starEach es X.env:=by rfl) (hpl:(backTo pos (starEach es X.env)).any (·.1)=false:=by rfl):PE X (.Call (.Name x p) (e :: es) [] pos) (tCB r t):=by
 intro pins s σ H Q I h
 refine wpAny_Call_Name_kw (ld_blt I hg hm hv ?_ hn hdb)
 exact PyProof.Rows.callWith_type1 (thn (ha pos pins s σ H _ I h) fun us s1 hx5=>L2.ex2 hx5 fun vs H1 I1 r1 q1=>hc pins s1 σ H1 vs us Q I1 r1 q1) he hpl
end
end L2
namespace HT
open PySem PyProof.Rows
section
open PySem.SeqAt
open PySem.AutoSeq1 (wpAny_loadPart')
open PySem.MeetsSeq PySem.MeetsSeq2 PySem.MeetsSeq3
end
section
variable {prog:Program} {w:World} {A:Around} {E:Value->Shared->Prop} {s:Shared}
theorem cat_tup (ht:IsTup s.heap t vs.toArray) (hb:IsTup s.heap b ws.toArray) (hv:vs≠[])
  (h1:ws=[]->Q (.ref t) s) (h2:ws≠[]->Q (.ref s.heap.objs.size) { s with heap:=s.heap.push { cls:=.type "tuple",data:=.seq (vs++ws).toArray } })
  (hsz:vs.length+ws.length<=sizeLine):wpAny (model prog w) A (binaryOp .Add (.ref t) (.ref b)) Q E s:=by
 obtain ⟨⟨cls,dd,data,sl⟩,ho,hc,n,hd⟩:=id ht
 obtain ⟨⟨cls2,dd2,data2,sl2⟩,ho2,hc2,n2,hd2⟩:=id hb
 simp only at hc hd hc2 hd2
 subst hc hd hc2 hd2
 have e:vs.toArray++ws.toArray=(vs++ws).toArray:=by simp
 by_cases hw:ws=[]
 ·exact concat_meets ⟨_,ho,rfl⟩ ⟨_,ho2,rfl⟩ noFill_tuple_add seq_tuple_add PySem.F.slot_tuple_add PySem.F.entry_tuple_add (PySem.F.args_tuple_add_2 _ _)
   (tuple_addW1 t b vs.toArray ws.toArray n n2 dd dd2 sl sl2 (by simpa using hv) (by simp [hw])) ⟨ho,ho2,h1 hw⟩
 ·refine concat_meets ⟨_,ho,rfl⟩ ⟨_,ho2,rfl⟩ noFill_tuple_add seq_tuple_add PySem.F.slot_tuple_add PySem.F.entry_tuple_add (PySem.F.args_tuple_add_2 _ _)
   (tuple_addW2 t b vs.toArray ws.toArray n n2 dd dd2 sl sl2 (by simpa using hv) (by simpa using hw) (by rw [xan,xan]; exact hsz)) ⟨ho,ho2,?_⟩
  rw [e]
  exact h2 hw
def sIx (n d:Nat):Option Int->Nat
 | none=>d
 | some v=>if v<0 then (v+(n:Int)).toNat else min v.toNat n
theorem sIx_le (n d:Nat) (hd:d<=n) (o:Option Int):sIx n d o<=n:=by
 cases o with
 | none=>exact hd
 | some v =>
  show (if v<0 then (v+(n:Int)).toNat else min v.toNat n)<=n
  by_cases hv:v<0
  ·rw [if_pos hv]; lia
  ·rw [if_neg hv]; exact Nat.min_le_right _ _
theorem clip_eq (v:Int) (n d:Nat):(if v<0 then max (v+(n:Int)) 0 else min v (n:Int))=((sIx n d (some v):Nat):Int):=by
 show (if v<0 then max (v+(n:Int)) 0 else min v (n:Int))=(((if v<0 then (v+(n:Int)).toNat else min v.toNat n):Nat):Int)
 by_cases hv:v<0
 ·simp only [if_pos hv]; lia
 ·simp only [if_neg hv]; lia
theorem adjust_gen (lo hi:Option Int) (n:Nat):Builtin.Slice.sliceAdjust lo hi 1 (n:Int)=(((sIx n 0 lo:Nat):Int),((sIx n n hi:Nat):Int)):=by
 have h1:¬ ((1:Int)<0):=by decide
 unfold Builtin.Slice.sliceAdjust
 simp only [h1,if_false]
 refine Prod.ext ?_ ?_
 ·cases lo with
  | none=>rfl
  | some v=>exact clip_eq v n 0
 ·cases hi with
  | none=>rfl
  | some v=>exact clip_eq v n n
theorem places_gen (i j:Nat):Builtin.Slice.slicePlaces (i:Int) (j:Int) 1=j - i:=by
 unfold Builtin.Slice.slicePlaces
 have h1:(1:Int)>0:=by exact xbj _
 simp only [h1,if_true,Int.ediv_one]
 split <;> lia
theorem slicePart_ (p:IsPart v o) (h:Q o s):wpAny (model prog w) A (Builtin.Slice.slicePartIndex v) Q E s:=by
 cases p with
 | none=>exact slicePart_none h
 | int i t=>exact slicePart_int h
theorem sliceApplied_gen {sl:Addr} {vl vu:Value} {lo hi:Option Int} {n:Nat} {Q:Int × Int × Nat->Shared->Prop} (hs:s.heap.IsSliceOf sl vl vu .none) (pl:IsPart vl lo) (pu:IsPart vu hi)
  (h:Q (((sIx n 0 lo:Nat):Int),1,sIx n n hi - sIx n 0 lo) s):wpAny (model prog w) A (Builtin.Slice.sliceApplied (.ref sl) (pure (n:Int))) Q E s:=by
 obtain ⟨os,hos,hcs,hds⟩:=id hs
 unfold Builtin.Slice.sliceApplied Builtin.Slice.sliceFields
 refine xaa (xaa (wpAny_field hos hds (x:=vl) rfl (xaa (wpAny_field hos hds (x:=vu) rfl (xaa (wpAny_field hos hds (x:=.none) rfl (xab ?_)))))))
 refine xaa (slicePart_none ?_)
 show wpAny _ _ (if ((1:Int) == 0)=true then _ else _) _ _ s
 rw [if_neg (by decide)]
 refine xaa (slicePart_ pl (xaa (slicePart_ pu (xaa (xab ?_)))))
 show wpAny _ _ (match Builtin.Slice.sliceAdjust lo hi 1 (n:Int) with | (lo,hi)=>pure (lo,(1:Int),Builtin.Slice.slicePlaces lo hi 1)) _ _ s
 rw [adjust_gen lo hi n]
 show wpAny _ _ (pure (((sIx n 0 lo:Nat):Int),(1:Int),Builtin.Slice.slicePlaces ((sIx n 0 lo:Nat):Int) ((sIx n n hi:Nat):Int) 1)) _ _ s
 rw [places_gen]
 exact xab h
theorem pick_gen (xs:Array Value) (i k:Nat):((List.range k).filterMap fun (m:Nat)=>xs[((i:Int)+(m:Int) * 1).toNat]?).toArray=((xs.toList.drop i).take k).toArray:=by
 have e:(fun (m:Nat)=>xs[((i:Int)+(m:Int) * 1).toNat]?)=fun m=>xs[i+m]? := by
  funext m
  have:((i:Int)+(m:Int) * 1).toNat=i+m:=by exact (xbP ..).symm
  rw [this]
 rw [e]
 have:=pick_run xs i k
 rw [xcC] at this
 have e2:((fun x=>xs[x]?) ∘ fun x=>i+x)=fun m=>xs[i+m]? := rfl
 rw [e2] at this
 rw [this]
theorem getItem_tuple_cut {lo hi:Option Int} (ht:IsTup s.heap t items) (hs:s.heap.IsSliceOf sl vl vu .none) (pl:IsPart vl lo) (pu:IsPart vu hi)
  (hw:¬ (sIx items.size 0 lo=0/\sIx items.size items.size hi=items.size))
  (h:Q (.ref s.heap.objs.size) { s with heap:=s.heap.push { cls:=.type "tuple",data:=.seq ((items.toList.drop (sIx items.size 0 lo)).take (sIx items.size items.size hi - sIx items.size 0 lo)).toArray } })
  (hsz:items.size<=sizeLine):wpAny (model prog w) A (getItem (.ref t) (.ref sl)) Q E s:=by
 have htake:sizeOk (.seq ((items.toList.drop (sIx items.size 0 lo)).take (sIx items.size items.size hi - sIx items.size 0 lo)).toArray):=by
  show ((items.toList.drop (sIx items.size 0 lo)).take (sIx items.size items.size hi - sIx items.size 0 lo)).toArray.size<=sizeLine
  rw [xan,xat,xa4,xaK]
  lia
 have hj:sIx items.size items.size hi<=items.size:=sIx_le _ _ (xae _) hi
 obtain ⟨os,hos,hcs,hds⟩:=id hs
 have hTs:s.TypeIs (.ref sl) "slice" := ⟨os,hos,hcs⟩
 unfold getItem
 try with_reducible refine wpAny_holding ?_
 first | refine xaa (xab ?_) | skip
 refine xaa (wpAny_sequenceKey ht.typeIs (by decide) ?_)
 refine xaa (wpAny_callSpecial?_slot (name:=Str.ofString "__getitem__") ht.typeIs PyProof.Rows.slot_tuple_getitem
  (wpAny_call_entry PyProof.Rows.slot_tuple_getitem ht.typeIs entry_tuple_getitem ?_ (args_tuple_getitem _ _)))
 show wpAny _ _ (Builtin.Tuple.tupleItemsOf (.ref t) >>= _) _ _ s
 refine xaa (tupleItemsOf_ ht ?_)
 refine xaa (wpAny_typeOf hTs ?_)
 rw [if_pos (by decide)]
 refine xaa (sliceApplied_gen hs pl pu ?_)
 have hno:¬ ((((sIx items.size 0 lo:Nat):Int) == 0 && (1:Int) == 1 && (sIx items.size items.size hi - sIx items.size 0 lo) == items.size)=true):=by
  intro q
  rw [xaC,xaC] at q
  have q1:((sIx items.size 0 lo:Nat):Int)=0:=eq_of_beq q.1.1
  have q2:sIx items.size items.size hi - sIx items.size 0 lo=items.size:=eq_of_beq q.2
  exact hw ⟨by lia,by lia⟩
 show wpAny _ _ (if (((sIx items.size 0 lo:Nat):Int) == 0 && (1:Int) == 1 && (sIx items.size items.size hi - sIx items.size 0 lo) == items.size)=true then _ else _) _ _ s
 rw [if_neg hno,pick_gen]
 first
  | exact xaa (m:=Builtin.Tuple.tupleExact _) (wpAny_newObj_type (xab ⟨_,rfl,xab h⟩) htake)
  | exact xaa (m:=Builtin.Tuple.tupleExact _) (wpAny_newObj_type (xaa (xab (xab ⟨_,rfl,xab h⟩))) htake)
  | exact xaa (xaa (m:=Builtin.Tuple.tupleExact _) (wpAny_newObj_type (xab (xab ⟨_,rfl,xab h⟩)) htake))
  | exact xaa (xaa (m:=Builtin.Tuple.tupleExact _) (wpAny_newObj_type (xab ⟨_,rfl,xab h⟩) htake))
end
end HT
namespace L2
open PySem PySem.Spec PyProof.Rows
abbrev TO:=St->Hp->(Option Int->Hp->Prop)->Prop
def PO (X:Cx) (e:Option Expr) (t:TO):Prop :=
 ∀ (pins:List (Addr × Obj)) (s:Shared) (σ:St) (H:Hp) (Q:Option Int->Hp->Prop),Inv X pins σ H s->t σ H Q ->
  wpAny (model X.prog X.w) X.A (evalPart e X.env) (fun u s'=>∃ o H',Inv X pins σ H' s'/\IsPart u o/\Q o H') X.xe s
def tNoPart:TO:=fun _ H Q=>Q none H
def tPart (t:TE):TO:=fun σ H Q=>t σ H fun x H1=>∃ i,x=.int i/\Q (some i) H1
section
variable {X:Cx} {e:Expr} {te:TE} {lo hi:Option Expr} {tl th:TO} {pos p2:Pos}
theorem po_none:PO X none tNoPart:=by
 intro pins s σ H Q I h
 rw [evalPart_none]
 exact xab ⟨none,H,I,.none,h⟩
theorem po_some (h:PE X e te):PO X (some e) (tPart te):=by
 intro pins s σ H Q I hw
 rw [evalPart_some]
 refine thn (h pins s σ H _ I hw) fun u s1 hx5=>L2.ex2 hx5 fun x H1 I1 r1 q1=>?_
 obtain ⟨i,rfl,q⟩:=q1
 obtain ⟨t,rfl⟩:=r1
 exact ⟨some i,H1,I1,.int i t,q⟩
def SlR (X:Cx) (r:V->Option Int->Option Int->Hp->VK->Prop):Prop :=
 ∀ (pins:List (Addr × Obj)) (s:Shared) (σ:St) (H:Hp) (x:V) (v vl vu:Value) (lo hi:Option Int) (sl:Addr) (Q:VK),Inv X pins σ H s->RelV x v->s.heap.IsSliceOf sl vl vu .none->IsPart vl lo->IsPart vu hi->r x lo hi H Q ->
  ∃ T id,typeLookup (.type T) "__getitem__" = pure (some (.builtin id))/\s.TypeIs v T/\wpAny (model X.prog X.w) X.A (getItem v (.ref sl)) (EP X pins σ Q) X.xe s
theorem SlR.or (h:SlR X r) (h':SlR X r'):SlR X (fun x lo hi H Q=>r x lo hi H Q\/r' x lo hi H Q):=by
 intro pins s σ H x v vl vu lo hi sl Q I rx hs pl pu q
 rcases q with q | q
 ·exact h pins s σ H x v vl vu lo hi sl Q I rx hs pl pu q
 ·exact h' pins s σ H x v vl vu lo hi sl Q I rx hs pl pu q
def tSl (r:V->Option Int->Option Int->Hp->VK->Prop) (te:TE) (tl th:TO):TE:=fun σ H Q=>te σ H fun x H1=>tl σ H1 fun l H2=>th σ H2 fun u H3=>r x l u H3 Q
theorem pe_slice (hr:SlR X r) (he:PE X e te) (hl:PO X lo tl) (hu:PO X hi th):PE X (.Subscript e (.Slice lo hi none p2) pos) (tSl r te tl th):=by
 intro pins s σ H Q I h
 refine Subscript_ (thn (he pins s σ H _ I h) fun v s1 hx5=>L2.ex2 hx5 fun x H1 I1 r1 q1=>?_)
 refine wpAny_Slice (thn (hl pins s1 σ H1 _ I1 q1) fun vl s2 hx5=>L2.ex2 hx5 fun l H2 I2 pl q2=>thn (hu pins s2 σ H2 _ I2 q2) fun vu s3 hx5=>L2.ex2 hx5 fun u H3 I3 pu q3=>?_)
 rw [evalPart_none]
 refine xab ?_
 have I4:Inv X pins σ H3 { s3 with heap:=s3.heap.push { cls:=.type "slice",data:=.fields #[vl,vu,.none] } }:=I3.kept (t':=s3.toks) fun b ob q=>xad _ q
 obtain ⟨T,id,hT,ht,hg⟩:=hr pins { s3 with heap:=s3.heap.push { cls:=.type "slice",data:=.fields #[vl,vu,.none] } } σ H3 x v vl vu l u s3.heap.objs.size Q I4 r1 (Heap.IsSliceOf.new ..) pl pu q3
 show wpAny (model X.prog X.w) X.A (subscriptTail e (.Slice lo hi none p2) v (.ref s3.heap.objs.size)) (EP X pins σ Q) X.xe { s3 with heap:=s3.heap.push { cls:=.type "slice",data:=.fields #[vl,vu,.none] } }
 exact tail_any (ops:=[.ref s3.heap.objs.size,v]) ht hT hg (by with_unfolding_all rfl)
def cutV (xs:List V) (lo hi:Option Int):List V:=(xs.drop (HT.sIx xs.length 0 lo)).take (HT.sIx xs.length xs.length hi - HT.sIx xs.length 0 lo)
theorem cutV_length (xs:List V) (lo hi:Option Int):(cutV xs lo hi).length<=xs.length:=by
 unfold cutV
 rw [xat,xa4]
 lia
def rSlT (K:PySem.W.Frag):V->Option Int->Option Int->Hp->VK->Prop:=fun x lo hi H Q=>∃ a xs,x=.ref a/\SqT K H a xs /\
 ¬ (HT.sIx xs.length 0 lo=0/\HT.sIx xs.length xs.length hi=xs.length)/\∀ p,H p=none->Q (.ref p) (upd H p (.tup (cutV xs lo hi)))
theorem sl_tup:SlR X (rSlT X.K):=by
 intro pins s σ H x v vl vu lo hi sl Q I rx hs pl pu h
 obtain ⟨a,xs,rfl,hx,hw,q⟩:=h
 cases rx
 obtain ⟨its,r,ht,hz⟩:=I.tuple hx
 have hlen:its.toArray.size=xs.length:=by rw [xan]; exact r.length.symm
 refine ⟨"tuple",_,PyProof.Rows.slot_tuple_getitem.lookup,ht.typeIs,?_⟩
 refine HT.getItem_tuple_cut ht hs pl pu (by rw [hlen]; exact hw) ?_ (by rw [hlen]; exact hz)
 rw [hlen]
 refine ⟨.ref s.heap.objs.size,_,I.laid (t':=s.toks) (o:=.tup (cutV xs lo hi)) (fun b ob q=>xad _ q) (xae _) ?_,rfl,q _ (I.hok.fresh (xae _))⟩
 exact ⟨xaB (cutV_length xs lo hi) hz,_,(r.drop (HT.sIx xs.length 0 lo)).take (HT.sIx xs.length xs.length hi - HT.sIx xs.length 0 lo),IsTup.new _ _⟩
def rCatT (K:PySem.W.Frag):R2:=fun x y H Q=>∃ a b xs ys,x=.ref a/\y=.ref b/\SqT K H a xs/\SqT K H b ys/\xs≠[]/\xs.length+ys.length<=sizeLine /\
 (ys=[]->Q (.ref a) H)/\(ys≠[]->∀ p,H p=none->Q (.ref p) (upd H p (.tup (xs++ys))))
theorem Vals.nil_iff (r:Vals xs us):us=[]↔xs=[]:=by
 cases r with
 | nil=>simp
 | cons _ _=>simp
theorem op_catT:OpR X (binaryOp .Add) (rCatT X.K):=by
 intro pins s σ H x y v u Q I rx ry h
 obtain ⟨a,b,xs,ys,rfl,rfl,ha,hb,hx,hz,q1,q2⟩:=h
 cases rx
 cases ry
 obtain ⟨its,r1,p1,_⟩:=I.tuple ha
 obtain ⟨its2,r2,p2,_⟩:=I.tuple hb
 refine HT.cat_tup p1 p2 (fun z=>hx (r1.nil_iff.mp z)) (fun z=>⟨.ref a,H,I,rfl,q1 (r2.nil_iff.mp z)⟩) (fun z=>?_) (by rw [<- r1.length,<- r2.length]; exact hz)
 refine ⟨.ref s.heap.objs.size,_,I.laid (t':=s.toks) (o:=.tup (xs++ys)) (fun b ob q=>xad _ q) (xae _) ?_,rfl,q2 (fun w=>z (r2.nil_iff.mpr w)) _ (I.hok.fresh (xae _))⟩
 exact ⟨by rw [xaD]; exact hz,_,r1.append r2,IsTup.new _ _⟩
end
def ixN (n:Nat) (i:Int):Option Nat:=if 0<=i then (if i<n then some i.toNat else none) else if -(n:Int)<=i then some (i+n).toNat else none
def atI {α:Type} (xs:List α) (i:Int):Option α:=(ixN xs.length i).bind fun j=>xs[j]?
theorem ixN_seq (h:ixN n i=some j):seqIndex? i n=some j/\j<n/\-(n:Int)<=i/\i<n:=by
 unfold ixN at h
 by_cases h0:0<=i
 ·rw [if_pos h0] at h
  by_cases h1:i<n
  ·rw [if_pos h1] at h
   have e:i.toNat=j:=Option.some.inj h
   exact ⟨by rw [seqIndex_of h0 h1,e],by lia,by lia,h1⟩
  ·rw [if_neg h1] at h; cases h
 ·rw [if_neg h0] at h
  by_cases h1:-(n:Int)<=i
  ·rw [if_pos h1] at h
   have e:(i+n).toNat=j:=Option.some.inj h
   exact ⟨by rw [seqIndex_neg (by lia) h1,e],by lia,h1,by lia⟩
  ·rw [if_neg h1] at h; cases h
theorem atI_get {α:Type} {xs:List α} {i:Int} {v:α} (h:atI xs i=some v):∃ j,seqIndex? i xs.length=some j/\xs[j]? = some v/\j<xs.length/\-(xs.length:Int)<=i/\i<xs.length:=by
 unfold atI at h
 cases e:ixN xs.length i with
 | none=>rw [e] at h; cases h
 | some j =>
  rw [e] at h
  obtain ⟨h1,h2,h3,h4⟩:=ixN_seq e
  exact ⟨j,h1,h,h2,h3,h4⟩
theorem atI_nat {α:Type} {xs:List α} {j:Nat} {v:α} (h:xs[j]? = some v):atI xs (j:Int)=some v:=by
 have hj:j<xs.length:=(xay.mp h).1
 have e:ixN xs.length (j:Int)=some j:=by
  unfold ixN
  rw [if_pos (by walk_at "s1"),if_pos (by lia)]; simp
 unfold atI; rw [e]; exact h
def PlainIx (b:Expr):Prop:=∀ o i,subscripted b false o i=operate [o,i] (getItem o i)
def IxR (X:Cx) (r:R2):Prop :=
 ∀ (value slice:Expr) (pins:List (Addr × Obj)) (s:Shared) (σ:St) (H:Hp) (x y:V) (v u:Value) (Q:VK),Inv X pins σ H s->RelV x v->RelV y u->r x y H Q ->
  subscripted slice false v u=operate [v,u] (getItem v u)->wpAny (model X.prog X.w) X.A (subscriptTail value slice v u) (EP X pins σ Q) X.xe s
def MtR (X:Cx) (id:String) (r:V->List V->Hp->VK->Prop):Prop :=
 ∀ (pins:List (Addr × Obj)) (s:Shared) (σ:St) (H:Hp) (x:V) (xs:List V) (v:Value) (us:List Value) (Q:VK),Inv X pins σ H s->RelV x v->Vals xs us->r x xs H Q ->
  wpAny (model X.prog X.w) X.A (call (.builtin id) (v :: us)) (EP X pins σ Q) X.xe s
section
variable {X:Cx} {a b:Expr} {ta tb:TE} {pos:Pos}
theorem IxR.or (h:IxR X r) (h':IxR X r'):IxR X (fun x y H Q=>r x y H Q\/r' x y H Q):=by
 intro value slice pins s σ H x y v u Q I rx ry q hs
 rcases q with q | q
 ·exact h value slice pins s σ H x y v u Q I rx ry q hs
 ·exact h' value slice pins s σ H x y v u Q I rx ry q hs
theorem MtR.or {id:String} (h:MtR X id r) (h':MtR X id r'):MtR X id (fun x xs H Q=>r x xs H Q\/r' x xs H Q):=by
 intro pins s σ H x xs v us Q I rx rs q
 rcases q with q | q
 ·exact h pins s σ H x xs v us Q I rx rs q
 ·exact h' pins s σ H x xs v us Q I rx rs q
theorem pe_ix {r:R2} (hr:IxR X r) (ha:PE X a ta) (hb:PE X b tb) (hs:PlainIx b):PE X (.Subscript a b pos) (tOp r ta tb):=by
 intro pins s σ H Q I h
 exact Subscript_ (binT ha hb I h fun v u s2 x y H2 I2 rx ry q=>hr a b pins s2 σ H2 x y v u Q I2 rx ry q (hs _ _))
def rIxL (K:PySem.W.Frag):R2:=fun x y H Q=>∃ p xs i v,x=.ref p/\y=.int i/\SqL K H p xs/\atI xs i=some v/\Q v H
def rIxT (K:PySem.W.Frag):R2:=fun x y H Q=>∃ p xs i v,x=.ref p/\y=.int i/\SqT K H p xs/\atI xs i=some v/\Q v H
def rIxS:R2:=fun x y H Q=>∃ z i c,x=.str z/\y=.int i/\z.length<=sizeLine/\atI z.cps.toList i=some c/\Q (.str ⟨#[c]⟩) H
theorem ix_list:IxR X (rIxL X.K):=by
 intro value slice pins s σ H x y v u Q I rx ry h hs
 obtain ⟨p,xs,i,z,rfl,rfl,hq,he,q⟩:=h
 cases rx
 obtain ⟨t,rfl⟩:=ry
 obtain ⟨its,r,pl,hz⟩:=I.list hq
 obtain ⟨j,h1,h2,h3,h4,h5⟩:=atI_get he
 obtain ⟨w,ew,rw'⟩:=r.get h2
 have hl:=r.length
 have hn:=line63
 have fin:EP X pins σ Q w s:=⟨z,H,I,rw',q⟩
 by_cases h0:0<=i
 ·have hj:i.toNat=j:=by
   rw [seqIndex_of h0 h5] at h1
   exact Option.some.inj h1
  exact item_listR pl.isList h0 (by lia) (by rw [hj]; simpa using ew) fin hs
 ·have hj:(i+(its.toArray.size:Int)).toNat=j:=by
   rw [seqIndex_neg (by exact Int.not_le.mp ‹_›) h4] at h1
   rw [xan,<- hl]
   exact Option.some.inj h1
  exact subscriptTail_builtinR (x:=w) pl.isList.typeIs slot_list_getitem.lookup
   (wpAny_getItem_list_neg (Q:=fun r s'=>r=w/\EP X pins σ Q r s') pl.isList (by exact Int.not_le.mp ‹_›) (by rw [xan] <;> lia) (by lia) (by rw [hj]; simpa using ew) ⟨rfl,fin⟩) hs
theorem ix_tup:IxR X (rIxT X.K):=by
 intro value slice pins s σ H x y v u Q I rx ry h hs
 obtain ⟨p,xs,i,z,rfl,rfl,hq,he,q⟩:=h
 cases rx
 obtain ⟨t,rfl⟩:=ry
 obtain ⟨its,r,pl,hz⟩:=I.tuple hq
 obtain ⟨j,h1,h2,h3,h4,h5⟩:=atI_get he
 obtain ⟨w,ew,rw'⟩:=r.get h2
 have hl:=r.length
 have hn:=line63
 have fin:EP X pins σ Q w s:=⟨z,H,I,rw',q⟩
 exact subscriptTail_builtinR (x:=w) pl.typeIs slot_tuple_getitem.lookup
  (getItem_tuple (j:=j) (Q:=fun r s'=>r=w/\EP X pins σ Q r s') pl (by lia) (by lia) (by rw [xan,<- hl]; exact h1) (by simpa using ew) ⟨rfl,fin⟩) hs
theorem ix_str:IxR X rIxS:=by
 intro value slice pins s σ H x y v u Q I rx ry h hs
 obtain ⟨z,i,c,rfl,rfl,hz,he,q⟩:=h
 obtain ⟨t,rfl⟩:=rx
 obtain ⟨t',rfl⟩:=ry
 obtain ⟨j,h1,h2,h3,h4,h5⟩:=atI_get he
 have hl:z.cps.toList.length=z.length:=by simp [Str.length]
 rw [hl] at h1 h4 h5
 have hn:=line63
 exact tail_any (typeIs_str s z t) slot_str_getitem.lookup (getItem_str (c:=c) (by
  have e1:decide (i < -(2 ^ 63:Int))=false:=decide_eq_false (by lia)
  have e2:decide (i >= 2 ^ 63)=false:=decide_eq_false (by lia)
  rw [e1,e2,Bool.or_false]) (by rw [h1]; simpa using h2) ⟨.str ⟨#[c]⟩,H,I.tok _,⟨_,rfl⟩,q⟩) hs
def rIx (K:PySem.W.Frag):R2:=fun x y H Q=>rIxL K x y H Q\/rIxT K x y H Q\/rIxS x y H Q
theorem ix_seq:IxR X (rIx X.K):=ix_list.or (ix_tup.or ix_str)
theorem Inv.lst (I:Inv X pins σ H s) (h:H p=some (.lst xs)) :
  ∃ (its:List Value) (n:Nat),Vals xs its/\s.heap.get? p=some { cls:=.type "list",data:=.seq its.toArray n }/\xs.length<=sizeLine:=by
 obtain ⟨z,its,n,r,e⟩:=I.hok p _ h
 exact ⟨its,n,r,e,z⟩
theorem slice_bounds (lo hi:Option Int) (n:Nat):(sliceBounds lo hi none n).1=((HT.sIx n 0 lo:Nat):Int)/\(sliceBounds lo hi none n).2.1=((HT.sIx n n hi:Nat):Int)/\(sliceBounds lo hi none n).2.2=1:=by
 refine ⟨?_,?_,rfl⟩
 ·cases lo with
  | none=>simp [sliceBounds,HT.sIx]
  | some i =>
   simp only [sliceBounds,HT.sIx,Option.getD_none,show (1:Int)>0 by decide,if_true]
   by_cases h:i<0
   ·simp only [h,if_true] <;> lia
   ·simp only [h,if_false] <;> lia
 ·cases hi with
  | none=>simp [sliceBounds,HT.sIx]
  | some i =>
   simp only [sliceBounds,HT.sIx,Option.getD_none,show (1:Int)>0 by decide,if_true]
   by_cases h:i<0
   ·simp only [h,if_true] <;> lia
   ·simp only [h,if_false] <;> lia
theorem slicePick_cut (its:List Value) (lo hi:Option Int):slicePick its.toArray lo hi none=((its.drop (HT.sIx its.length 0 lo)).take (HT.sIx its.length its.length hi - HT.sIx its.length 0 lo)).toArray:=by
 obtain ⟨h1,h2,h3⟩:=slice_bounds lo hi its.toArray.size
 unfold slicePick
 rw [h1,h2,h3]
 simp only [sliceRange_one,pick_run,xan] <;> rfl
def rSlL (K:PySem.W.Frag):V->Option Int->Option Int->Hp->VK->Prop:=fun x lo hi H Q=>∃ a xs,x=.ref a/\SqL K H a xs/\∀ p,H p=none->Q (.ref p) (upd H p (.lst (cutV xs lo hi)))
theorem sl_list:SlR X (rSlL X.K):=by
 intro pins s σ H x v vl vu lo hi sl Q I rx hs pl pu h
 obtain ⟨a,xs,rfl,hx,q⟩:=h
 cases rx
 obtain ⟨its,r,ht,hz⟩:=I.list hx
 have hlen:=r.length
 refine ⟨"list",_,slot_list_getitem.lookup,ht.isList.typeIs,?_⟩
 refine wpAny_getItem_list_slice ht.isList hs pl pu .none (by simp) ?_ (by rw [xan] <;> lia)
 rw [slicePick_cut,<- hlen]
 refine ⟨.ref s.heap.objs.size,_,I.laid (t':=s.toks) (o:=.lst (cutV xs lo hi)) (fun b ob q=>xad _ q) (xae _) ?_,rfl,q _ (I.hok.fresh (xae _))⟩
 exact ⟨xaB (cutV_length xs lo hi) hz,_,0,(r.drop (HT.sIx xs.length 0 lo)).take (HT.sIx xs.length xs.length hi - HT.sIx xs.length 0 lo),xao _ rfl⟩
def flatV:V->Bool
 | .non=>true
 | .bl _=>true
 | .int _=>true
 | .str _=>true
 | _=>false
def eqV:V->V->Bool
 | .non,.non=>true
 | .bl a,.bl b=>a == b
 | .bl a,.int b=>(if a then 1 else 0) == b
 | .int a,.bl b=>a == (if b then 1 else 0)
 | .int a,.int b=>a == b
 | .str a,.str b=>a == b
 | _,_=>false
theorem eqAt_V (ry:RelV y u) (rx:RelV x v) (fy:flatV y=true) (fx:flatV x=true):SeqAt.EqAt A s u v (eqV y x):=by
 cases y with
 | non =>
  cases ry
  cases x with
  | non=>cases rx; exact SeqAt.EqAt.same _
  | bl b=>cases rx; exact SeqAt.EqAt.none_bool b
  | int b=>obtain ⟨t,rfl⟩:=rx; exact SeqAt.EqAt.none_int b t
  | str b=>obtain ⟨t,rfl⟩:=rx; exact SeqAt.EqAt.none_str b t
  | _=>exact absurd (show false=true from fx) xap
 | bl a =>
  cases ry
  cases x with
  | non=>cases rx; exact SeqAt.EqAt.bool_none a
  | bl b=>cases rx; exact SeqAt.EqAt.bool_bool a b
  | int b=>obtain ⟨t,rfl⟩:=rx; exact SeqAt.EqAt.bool_int a b t
  | str b=>obtain ⟨t,rfl⟩:=rx; exact SeqAt.EqAt.bool_str a b t
  | _=>exact absurd (show false=true from fx) xap
 | int a =>
  obtain ⟨t',rfl⟩:=ry
  cases x with
  | non=>cases rx; exact SeqAt.EqAt.int_none a t'
  | bl b=>cases rx; exact SeqAt.EqAt.int_bool a t' b
  | int b=>obtain ⟨t,rfl⟩:=rx; exact SeqAt.EqAt.int_int a t' b t
  | str b=>obtain ⟨t,rfl⟩:=rx; exact SeqAt.EqAt.int_str a t' b t
  | _=>exact absurd (show false=true from fx) xap
 | str a =>
  obtain ⟨t',rfl⟩:=ry
  cases x with
  | non=>cases rx; exact SeqAt.EqAt.str_none a t'
  | bl b=>cases rx; exact SeqAt.EqAt.str_bool a t' b
  | int b=>obtain ⟨t,rfl⟩:=rx; exact SeqAt.EqAt.str_int a t' b t
  | str b=>obtain ⟨t,rfl⟩:=rx; exact SeqAt.EqAt.str_str a t' b t
  | _=>exact absurd (show false=true from fx) xap
 | _=>exact absurd (show false=true from fy) xap
def eqU (x:V) (u:Value):Bool:=match u with
 | .none=>eqV .non x
 | .bool b=>eqV (.bl b) x
 | .int i _=>eqV (.int i) x
 | .str z _=>eqV (.str z) x
 | _=>false
theorem eqU_of (r:RelV y u) (f:flatV y=true):eqU x u=eqV y x:=by
 cases y with
 | non=>cases r; rfl
 | bl b=>cases r; rfl
 | int i=>obtain ⟨t,rfl⟩:=r; rfl
 | str z=>obtain ⟨t,rfl⟩:=r; rfl
 | _=>exact absurd (show false=true from f) xap
theorem any_eqU:∀ {xs:List V} {us:List Value},Vals xs us->xs.all flatV=true->us.any (eqU x)=xs.any fun y=>eqV y x
 | _,_,.nil,_=>rfl
 | y :: xs,u :: us,.cons r t,f=>by
  rw [xbE,xaC] at f
  rw [xbF,xbF,eqU_of r f.1,any_eqU t f.2]
theorem mem_eqAt (rx:RelV x v) (fx:flatV x=true):∀ {xs:List V} {us:List Value},Vals xs us->xs.all flatV=true->∀ u∈us,SeqAt.EqAt A s u v (eqU x u)
 | _,_,.nil,_=>fun u hu=>by cases hu
 | y :: xs,u :: us,.cons r t,f=>fun u' hu=>by
  rw [xbE,xaC] at f
  rcases xaj.mp hu with rfl | hu
  ·rw [eqU_of r f.1]; exact eqAt_V r rx f.1 fx
  ·exact mem_eqAt rx fx t f.2 u' hu
def inV (x:V) (xs:List V):Bool:=xs.any fun y=>eqV y x
def rIn (K:PySem.W.Frag) (neg:Bool):R2:=fun x y H Q=>∃ p xs,y=.ref p/\(SqL K H p xs\/SqT K H p xs)/\flatV x=true/\xs.all flatV=true/\Q (.bl (if neg then !inV x xs else inV x xs)) H
theorem op_in_seq:OpR X (compareOp .In) (rIn X.K false):=by
 intro pins s σ H x y v u Q I rx ry h
 obtain ⟨p,xs,rfl,hq,fx,fs,q⟩:=h
 cases ry
 rcases hq with hq | hq
 ·obtain ⟨its,r,pl,hz⟩:=I.list hq
  refine SeqAt.in_listAt (eqU x) pl.isList (fun w hw=>mem_eqAt rx fx r fs w (by simpa using hw)) ⟨.bl _,H,I,rfl,?_⟩
  rw [show its.toArray.any (eqU x)=its.any (eqU x) by simp,any_eqU r fs]
  exact q
 ·obtain ⟨its,r,pl,hz⟩:=I.tuple hq
  refine SeqAt.in_tupleAt (eqU x) pl (fun w hw=>mem_eqAt rx fx r fs w (by simpa using hw)) ⟨.bl _,H,I,rfl,?_⟩
  rw [show its.toArray.any (eqU x)=its.any (eqU x) by simp,any_eqU r fs]
  exact q
theorem op_notIn_seq:OpR X (compareOp .NotIn) (rIn X.K true):=by
 intro pins s σ H x y v u Q I rx ry h
 obtain ⟨p,xs,rfl,hq,fx,fs,q⟩:=h
 cases ry
 rcases hq with hq | hq
 ·obtain ⟨its,r,pl,hz⟩:=I.list hq
  refine SeqAt.notIn_listAt (eqU x) pl.isList (fun w hw=>mem_eqAt rx fx r fs w (by simpa using hw)) ⟨.bl _,H,I,rfl,?_⟩
  rw [show its.toArray.any (eqU x)=its.any (eqU x) by simp,any_eqU r fs]
  exact q
 ·obtain ⟨its,r,pl,hz⟩:=I.tuple hq
  refine SeqAt.notIn_tupleAt (eqU x) pl (fun w hw=>mem_eqAt rx fx r fs w (by simpa using hw)) ⟨.bl _,H,I,rfl,?_⟩
  rw [show its.toArray.any (eqU x)=its.any (eqU x) by simp,any_eqU r fs]
  exact q
theorem CallR.or (h:CallR X f r) (h':CallR X f r'):CallR X f (fun xs H Q=>r xs H Q\/r' xs H Q):=by
 intro pins s σ H xs us Q I rs q
 rcases q with q | q
 ·exact h pins s σ H xs us Q I rs q
 ·exact h' pins s σ H xs us Q I rs q
theorem call_list_of:CallR X (.type "list") (fun xs H Q=>∃ p ys,xs=[.ref p]/\(SqL X.K H p ys\/SqT X.K H p ys)/\∀ l,H l=none->Q (.ref l) (upd H l (.lst ys))):=by
 intro pins s σ H xs us Q I r h
 obtain ⟨p,ys,rfl,hq,q⟩:=h
 obtain ⟨u,rfl,rx⟩:=vals1 r
 cases rx
 have fin:∀ (its:List Value),Vals ys its->ys.length<=sizeLine->∀ (h':Heap) (c':Nat),(∀ b o',s.heap.get? b=some o'->h'.get? b=some o') ->
   h'.get? s.heap.objs.size=some { cls:=.type "list",dict:=none,data:=.seq its.toArray c',slots:=#[] }->EP X pins σ Q (.ref s.heap.objs.size) { s with heap:=h' }:=fun its r' hz h' c' kp e =>
  ⟨.ref s.heap.objs.size,_,I.laid (t':=s.toks) kp (xae _) (show ObjOk X.prog X.w _ h' _ (.lst ys) from ⟨hz,its,c',r',e⟩),rfl,q _ (I.hok.fresh (xae _))⟩
 rcases hq with hq | hq
 ·obtain ⟨its,r',pl,hz⟩:=I.list hq
  have hlen:=r'.length
  obtain ⟨o,ho,hc,n,hd⟩:=pl.isList
  exact call_list_seq p (.inl rfl) ho hc hd (fun h' c' kp e=>fin its r' hz h' c' kp e) (by simp only [xan] <;> lia)
 ·obtain ⟨its,r',pl,hz⟩:=I.tuple hq
  have hlen:=r'.length
  obtain ⟨o,ho,hc,n,hd⟩:=pl
  exact call_list_seq p (.inr rfl) ho hc hd (fun h' c' kp e=>fin its r' hz h' c' kp e) (by simp only [xan] <;> lia)
def tyV (K:PySem.W.Frag) (T:String) (x:V) (H:Hp):Prop:=match x with
 | .str _=>T = "str"
 | .int _=>T = "int"
 | .ref p=>(T = "list"/\∃ xs,SqL K H p xs)\/(T = "tuple"/\∃ o,K.lookup p=some o/\o.cls=.type "tuple"/\o.dict=none) \/
   (T = "dict"/\((∃ kvs,H p=some (.dK kvs))\/∃ kvs,H p=some (.dT kvs)))\/(T = "set"/\∃ S n,H p=some (.set S n))
 | _=>False
theorem tyV_is {T:String} (I:Inv X pins σ H s) (r:RelV x v) (ty:tyV X.K T x H) :
  s.TypeIs v T/\∀ a,v=.ref a->∃ ob,s.heap.get? a=some ob/\ob.dict=none:=by
 cases x with
 | str z =>
  obtain ⟨t,rfl⟩:=r
  cases (show T = "str" from ty)
  exact ⟨typeIs_str s z t,fun _ e=>nomatch e⟩
 | int i =>
  obtain ⟨t,rfl⟩:=r
  cases (show T = "int" from ty)
  exact ⟨typeIs_int s i t,fun _ e=>nomatch e⟩
 | ref p =>
  cases r
  rcases ty with ⟨rfl,xs,hq⟩ | ⟨rfl,o,hk,hc,hd⟩ | ⟨rfl,hk⟩ | ⟨rfl,S,n,hk⟩
  ·obtain ⟨its,_,pl,_⟩:=I.list hq
   refine ⟨pl.isList.typeIs,fun a e=>?_⟩
   cases e
   obtain ⟨o,n,e,c,hd,_⟩:=pl
   exact ⟨o,e,hd⟩
  ·refine ⟨⟨o,I.kIn p o hk,hc⟩,fun a e=>?_⟩
   cases e
   exact ⟨o,I.kIn _ o hk,hd⟩
  ·have z:∃ o,s.heap.get? p=some o/\o.ExactDict:=by
    rcases hk with ⟨kvs,hk⟩ | ⟨kvs,hk⟩
    ·obtain ⟨_,_,_,_,o,_,_,e,ex,_⟩:=I.hok p _ hk
     exact ⟨o,e,ex⟩
    ·obtain ⟨_,_,_,_,o,_,_,e,ex,_⟩:=I.hok p _ hk
     exact ⟨o,e,ex⟩
   obtain ⟨o,e,ex⟩:=z
   refine ⟨⟨o,e,ex.1⟩,fun a e2=>?_⟩
   cases e2
   exact ⟨o,e,ex.2.1⟩
  ·obtain ⟨o,_,_,_,e,ex,_⟩:=I.hok p _ hk
   refine ⟨⟨o,e,ex.1⟩,fun a e2=>?_⟩
   cases e2
   exact ⟨o,e,ex.2.1⟩
 | _=>exact False.elim ty
def tBM (K:PySem.W.Frag) (T:String) (r:V->List V->Hp->VK->Prop) (to:TE) (t:TA):TE:=fun σ H Q=>to σ H fun x H1=>tyV K T x H1/\t σ H1 fun xs H2=>r x xs H2 Q
variable {o e:Expr} {es:List Expr} {to:TE} {t:TA} {name:Str} {apos cpos:Pos} {T id:String} {r:V->List V->Hp->VK->Prop}
theorem pe_bm (pa:PlainAttrs T) (slot:Slot T name id) (hty:typeOf (.builtin id)=pure (.type "method_descriptor")) (hm:MtR X id r) (ho:PE X o to) (ha:PA X (e :: es) t)
  (hbase:attributeBase o name X.env (eval o X.env)=eval o X.env:=by rfl)
  (hfew:((backTo cpos (starEach (e :: es) X.env)).all (fun x=>!x.1) && (backToKw cpos (keywordEach [] X.env)).all (fun x=>x.1.isSome)
   && decide ((e :: es).length+([]:List Keyword).length+(if ([]:List Keyword).isEmpty then 0 else 1)<30))=true:=by rfl)
  (hline:(apos.endLine == cpos.line)=true:=by rfl) (hs:starEach (e :: es) X.env=(false,eval e X.env) :: starEach es X.env:=by rfl) (hplain:(backTo cpos (starEach es X.env)).any (·.1)=false:=by rfl) :
  PE X (.Call (.Attribute o name apos) (e :: es) [] cpos) (tBM X.K T r to t):=by
 intro pins s σ H Q I h
 refine wpAny_Call_method_late hbase hfew hline rfl (thn (ho pins s σ H _ I h) fun v s1 hx9=>?_)
 obtain ⟨x,H1,I1,r1,ty,q1⟩:=hx9
 obtain ⟨h1,h2⟩:=tyV_is I1 r1 ty
 refine ⟨T,id,pa,slot,hty,h1,h2,?_⟩
 have hA:=ha cpos pins s1 σ H1 _ I1 q1
 rw [hs] at hA ⊢
 refine Calls.callWith_builtin (by show (false || (backTo cpos (starEach es X.env)).any (·.1))=false; rw [hplain] <;> rfl) (Calls.evalArgs_plain ?_)
 exact thn hA fun us s2 hx5=>L2.ex2 hx5 fun vs H2 I2 r2 q2=>hm pins s2 σ H2 x vs v us Q I2 r1 r2 q2
end
def MtM (X:Cx) (id:String) (r:V->List V->Hp->VK->Prop):Prop :=
 ∀ (pins:List (Addr × Obj)) (s:Shared) (σ:St) (H:Hp) (x:V) (xs:List V) (v:Value) (us:List Value) (Q:VK),Inv X pins σ H s->RelV x v->Vals xs us->r x xs H Q ->
  wpAny (model X.prog X.w) X.A (call (.builtin id) (v :: us)) (EP X pins σ Q) X.xe s
theorem Vals.one {x:V} {us:List Value} (h:Vals [x] us):∃ u,us=[u]/\RelV x u:=by
 cases h
 rename_i r h
 cases h
 exact ⟨_,rfl,‹_›⟩
theorem Vals.two {x y:V} {us:List Value} (h:Vals [x,y] us):∃ u v,us=[u,v]/\RelV x u/\RelV y v:=by
 cases h
 rename_i r h
 cases h
 rename_i q h
 cases h
 exact ⟨_,_,rfl,‹_›,‹_›⟩
theorem Vals.zero:∀ {us:List Value},Vals [] us->us=[]
 | _,.nil=>rfl
theorem Vals.eraseIdx:∀ {xs:List V} {us:List Value} (i:Nat),Vals xs us->Vals (xs.eraseIdx i) (us.eraseIdx i)
 | _,_,_,.nil=>.nil
 | _,_,0,.cons _ t=>t
 | _,_,i+1,.cons r t=>.cons r (Vals.eraseIdx i t)
theorem Vals.reverse (h:Vals xs us):Vals xs.reverse us.reverse:=by
 induction h with
 | nil=>exact .nil
 | cons r t ih=>rw [List.reverse_cons,List.reverse_cons]; exact Vals.append ih (.cons r .nil)
theorem Vals.rep (h:Vals xs us):∀ k:Nat,Vals (List.replicate k xs).flatten (List.replicate k us).flatten
 | 0=>.nil
 | k+1=>by
  rw [xbL,xbL,xcc,xcc]
  exact Vals.append h (Vals.rep h k)
section
variable {X:Cx} {pins:List (Addr × Obj)} {σ:St} {H:Hp} {s:Shared} {l:Addr} {xs ys:List V}
theorem Inv.lset {its its':List Value} {n:Nat} {f:Array Value->Array Value} {t':Nat} (I:Inv X pins σ H s) (hH:H l=some (.lst xs))
  (e:s.heap.get? l=some { cls:=.type "list",data:=.seq its.toArray n }) (hf:f its.toArray=its'.toArray) (hv:Vals ys its') (hz:ys.length<=sizeLine) :
  Inv X pins σ (upd H l (.lst ys)) { s with heap:=s.heap.update l (Obj.mapSeq f),toks:=t' }:=by
 have q:=PySem.IsL.update e f
 rw [hf] at q
 refine I.write (x:=l) (e:=l) (by rw [hH]; exact trivial) (.inl rfl) (fun b' u hb hu=>(xbx s.heap (Obj.mapSeq f) (Ne.symm hb)).trans hu) ⟨_,q⟩ ?_
 exact ⟨hz,its',_,hv,q⟩
theorem Inv.lnew (I:Inv X pins σ H s) (hv:Vals ys its) (hz:ys.length<=sizeLine) :
  Inv X pins σ (upd H s.heap.objs.size (.lst ys)) { s with heap:=s.heap.push { cls:=.type "list",data:=.seq its.toArray },toks:=t' } :=
 I.laid (fun _ _ q=>xad _ q) (xae _) ⟨hz,its,0,hv,xao _ rfl⟩
theorem Inv.fresh (I:Inv X pins σ H s):H s.heap.objs.size=none:=I.hok.fresh (xae _)
theorem Inv.lstM (I:Inv X pins σ H s) (hH:H l=some (.lst xs)):xs.length<=sizeLine/\∃ (its:List Value) (n:Nat),Vals xs its/\xs.length=its.length/\s.heap.get? l=some { cls:=.type "list",data:=.seq its.toArray n }:=by
 obtain ⟨z,its,n,r,e⟩:=I.hok l _ hH
 exact ⟨z,its,n,r,r.length,e⟩
theorem notLongL (h:n<=sizeLine):Builtin.List.listTooLong n=false:=by
 unfold Builtin.List.listTooLong
 exact decide_eq_false (by lia)
end
section
variable {X:Cx}
def rAppend:V->List V->Hp->VK->Prop:=fun x vs H Q=>∃ l xs y,x=.ref l/\vs=[y]/\H l=some (.lst xs)/\xs.length<sizeLine/\Q .non (upd H l (.lst (xs++[y])))
theorem mt_append:MtM X "list.append" rAppend:=by
 intro pins s σ H x vs v us Q I rx rv h
 obtain ⟨l,xs,y,rfl,rfl,hH,hz,q⟩:=h
 cases rx
 obtain ⟨u,rfl,ru⟩:=rv.one
 obtain ⟨z,its,n,r,hl,e⟩:=I.lstM hH
 refine call_meets F.slot_list_append ⟨_,e,rfl⟩ F.entry_list_append (F.args_list_append_2 _ _) (PySem.list_append l its.toArray n u (by rw [xan]; lia)) ⟨e,?_⟩
 refine ⟨.non,_,I.lset (its':=its++[u]) hH e (by simp) (r.append (.cons ru .nil)) ?_,rfl,q⟩
 rw [xaD,List.length_singleton]
 assumption
def rExtend:V->List V->Hp->VK->Prop:=fun x vs H Q=>∃ l b xs zs,x=.ref l/\vs=[.ref b]/\H l=some (.lst xs)/\H b=some (.lst zs)/\xs.length+zs.length<=sizeLine/\Q .non (upd H l (.lst (xs++zs)))
theorem mt_extend:MtM X "list.extend" rExtend:=by
 intro pins s σ H x vs v us Q I rx rv h
 obtain ⟨l,b,xs,zs,rfl,rfl,hH,hB,hz,q⟩:=h
 cases rx
 obtain ⟨u,rfl,ru⟩:=rv.one
 cases ru
 obtain ⟨z,its,n,r,hl,e⟩:=I.lstM hH
 obtain ⟨z2,its2,n2,r2,hl2,e2⟩:=I.lstM hB
 have hsz:its.toArray.size+its2.toArray.size<=sizeLine:=by rw [xan,xan]; lia
 have hlong:¬ (!its.toArray.isEmpty && Builtin.List.listTooLong (its.toArray.size+its2.toArray.size))=true:=by
  rw [notLongL hsz,Bool.and_false]
  exact xap
 refine call_meets F.slot_list_extend ⟨_,e,rfl⟩ F.entry_list_extend (F.args_list_extend_2 _ _)
  (AutoSeq1.list_extend_list_list_0 l its.toArray n b its2.toArray n2 hlong (by rw [xan]; lia) (by lia)) ⟨e,e2,?_⟩
 refine ⟨.non,_,I.lset (its':=its++its2) hH e (by simp) (r.append r2) ?_,rfl,q⟩
 rw [xaD]
 lia
theorem len_rep {α:Type} (xs:List α) (k:Nat):(List.replicate k xs).flatten.length=k * xs.length:=by
 induction k with
 | zero=>simp
 | succ k ih=>rw [xbL,xcc,xaD,ih,Nat.succ_mul,xct]
end
section
set_option maxRecDepth 100000 in
end
section
variable {κ:Type} [DecidableEq κ]
def valV (kvs:List (κ × V)) (k:κ):Option V:=(kvs.find? fun kv=>decide (kv.1=k)).map (·.2)
def putK (kvs:List (κ × V)) (k:κ) (v:V):List (κ × V) :=
 if (kvs.any fun kv=>decide (kv.1=k))=true then kvs.map (fun kv=>if kv.1=k then (kv.1,v) else kv) else kvs++[(k,v)]
def dropK (kvs:List (κ × V)) (k:κ):List (κ × V):=kvs.filter fun kv=>decide (kv.1≠k)
theorem valV_pos {p:κ × V} {r:List (κ × V)} {k:κ} (e:p.1=k):valV (p :: r) k=some p.2:=by simp [valV,xbQ,e]
theorem valV_neg {p:κ × V} {r:List (κ × V)} {k:κ} (e:¬ p.1=k):valV (p :: r) k=valV r k:=by simp [valV,xbQ,e]
theorem valV_any (k:κ):∀ kvs:List (κ × V),(kvs.any fun kv=>decide (kv.1=k))=(valV kvs k).isSome
 | []=>rfl
 | p :: r=>by
  rw [xbF]
  by_cases e:p.1=k
  ·simp only [valV_pos e,decide_eq_true e,Bool.true_or,Option.isSome_some]
  ·rw [valV_neg e,decide_eq_false e,Bool.false_or]; exact valV_any k r
theorem RelO.isSome_eq (r:RelO o u):o.isSome=u.isSome:=by
 cases o with
 | none=>cases u with
  | none=>rfl
  | some _=>exact (show False from r).elim
 | some _=>cases u with
  | none=>exact (show False from r).elim
  | some _=>rfl
theorem RelO.getD (r:RelO o u) (rd:RelV d d'):RelV (o.getD d) (u.getD d'):=by
 cases o with
 | none=>cases u with
  | none=>exact rd
  | some _=>exact (show False from r).elim
 | some _=>cases u with
  | none=>exact (show False from r).elim
  | some _=>exact r
theorem KV.val {kvs:List (κ × V)} {vs:List (κ × Value)} (r:KV kvs vs) (k:κ):RelO (valV kvs k) (valueAt vs k):=by
 unfold KV at r
 induction r with
 | nil=>exact True.intro
 | @cons p q ps qs h t ih =>
  obtain ⟨h1,h2⟩:=h
  by_cases e:p.1=k
  ·have e':q.1=k:=h1.symm.trans e
   have b:valueAt (q :: qs) k=some q.2:=by simp [valueAt,xbQ,e']
   rw [valV_pos e,b]; exact h2
  ·have e':¬ q.1=k:=fun z=>e (h1.trans z)
   have b:valueAt (q :: qs) k=valueAt qs k:=by simp [valueAt,xbQ,e']
   rw [valV_neg e,b]; exact ih
theorem KV.any (r:KV kvs vs) (k:κ):(kvs.any fun kv=>decide (kv.1=k))=vs.any fun kv=>decide (kv.1=k):=by
 unfold KV at r
 induction r with
 | nil=>rfl
 | cons h t ih=>rw [xbF,xbF,ih,h.1]
theorem KV.repl (r:KV kvs vs) (k:κ) (ry:RelV y u) :
  KV (kvs.map fun kv=>if kv.1=k then (kv.1,y) else kv) (vs.map fun kv=>if kv.1=k then (kv.1,u) else kv):=by
 unfold KV at r ⊢
 induction r with
 | nil=>exact .nil
 | @cons p q ps qs h t ih =>
  rw [xas,xas]
  refine .cons ?_ ih
  obtain ⟨h1,h2⟩:=h
  by_cases e:p.1=k
  ·rw [if_pos e,if_pos (h1.symm.trans e)]; exact ⟨h1,ry⟩
  ·rw [if_neg e,if_neg (fun z=>e (h1.trans z))]; exact ⟨h1,h2⟩
theorem KV.put (r:KV kvs vs) (k:κ) (ry:RelV y u):KV (putK kvs k y) (stored vs k u):=by
 unfold putK stored
 rw [r.any k]
 by_cases e:(vs.any fun kv=>decide (kv.1=k))=true
 ·rw [if_pos e,if_pos e]; exact r.repl k ry
 ·rw [if_neg e,if_neg e]; exact Paired.snoc r ⟨rfl,ry⟩
theorem KV.drop (r:KV kvs vs) (k:κ):KV (dropK kvs k) (without vs k):=by
 unfold KV at r ⊢
 unfold dropK without
 induction r with
 | nil=>exact .nil
 | @cons p q ps qs h t ih =>
  obtain ⟨h1,h2⟩:=h
  rw [xcJ,xcJ]
  by_cases e:p.1=k
  ·have a:¬ decide (p.1≠k)=true:=by simp [e]
   have b:¬ decide (q.1≠k)=true:=by simp [h1.symm.trans e]
   rw [if_neg a,if_neg b]; exact ih
  ·have e':¬ q.1=k:=fun z=>e (h1.trans z)
   have a:decide (p.1≠k)=true:=by simp [e]
   have b:decide (q.1≠k)=true:=by simp [e']
   rw [if_pos a,if_pos b]; exact .cons ⟨h1,h2⟩ ih
theorem KV.keys {kvs:List (κ × V)} {vs:List (κ × Value)} (r:KV kvs vs):kvs.map (·.1)=vs.map (·.1):=by
 unfold KV at r
 induction r with
 | nil=>rfl
 | cons h t ih=>rw [xas,xas,ih,h.1]
theorem KV.length (r:KV kvs vs):kvs.length=vs.length:=Paired.length r
end
theorem kV_is {P:Program} (r:RelV (kV k) u):(mixKind P w).is k u=true:=by
 cases k with
 | inl i=>obtain ⟨t,e⟩:=(show ∃ t,u=Value.int i t from r); subst e; exact mixKind_int P w i t
 | inr x=>obtain ⟨t,e⟩:=(show ∃ t,u=Value.str x t from r); subst e; exact mixKind_str P w x t
theorem items_are {P:Program}:∀ {ks:List Key} {us:List Value},Vals (ks.map kV) us->ItemsAre (mixKind P w) ks us
 | [],_,r=>by rw [xcu] at r; cases r; exact .nil
 | k :: ks,_,r=>by
  rw [xas] at r
  cases r with
  | cons h t=>exact .cons (kV_is h) (items_are t)
abbrev KT (H:Hp):List (List Key × V)->List (List Key × Addr × Value)->Prop:=Paired fun p q=>p.1=q.1/\H q.2.1=some (.tup (p.1.map kV))/\RelV p.2 q.2.2
theorem KT.val {H:Hp} {kvs:List (List Key × V)} {xs:List (List Key × Addr × Value)} (r:KT H kvs xs) (k:List Key):RelO (valV kvs k) ((atKey xs k).map (·.2)):=by
 induction r with
 | nil=>exact True.intro
 | @cons p q ps qs h t ih =>
  obtain ⟨h1,_,h2⟩:=h
  by_cases e:p.1=k
  ·have e':q.1=k:=h1.symm.trans e
   have b:atKey (q :: qs) k=some q.2:=by simp [atKey,xbQ,e']
   rw [valV_pos e,b]; exact h2
  ·have e':¬ q.1=k:=fun z=>e (h1.trans z)
   have b:atKey (q :: qs) k=atKey qs k:=by simp [atKey,xbQ,e']
   rw [valV_neg e,b]; exact ih
theorem KT.repl (r:KT H kvs xs) (k:List Key) (ry:RelV y u) :
  KT H (kvs.map fun kv=>if kv.1=k then (kv.1,y) else kv) (xs.map (putAt k u)):=by
 induction r with
 | nil=>exact .nil
 | @cons p q ps qs h t ih =>
  rw [xas,xas]
  refine .cons ?_ ih
  obtain ⟨h1,h2,h3⟩:=h
  unfold putAt
  by_cases e:p.1=k
  ·rw [if_pos e,if_pos (h1.symm.trans e)]; exact ⟨h1,h2,ry⟩
  ·rw [if_neg e,if_neg (fun z=>e (h1.trans z))]; exact ⟨h1,h2,h3⟩
theorem KT.put (r:KT H kvs xs) (k:List Key) (hb:H b=some (.tup (k.map kV))) (ry:RelV y u) :
  KT H (putK kvs k y) (storedH xs k b u):=by
 have e:(kvs.any fun kv=>decide (kv.1=k))=(atKey xs k).isSome:=by
  rw [valV_any,(r.val k).isSome_eq,xcF]
 unfold putK storedH
 rw [e]
 by_cases q:(atKey xs k).isSome=true
 ·rw [if_pos q,if_pos q]; exact r.repl k ry
 ·rw [if_neg q,if_neg q]; exact Paired.snoc r ⟨rfl,hb,ry⟩
theorem KT.keeps (r:KT H kvs xs) (ht:∀ b ys,H b=some (.tup ys)->H' b=some (.tup ys)):KT H' kvs xs :=
 Paired.mapP r fun _ _ z=>⟨z.1,ht _ _ z.2.1,z.2.2⟩
section
variable {P:Program} {w:World} {H:Hp} {h:Heap} {a:Addr}
theorem rd_of (ok:HOk P w H h) (e:Rd H a u):ObjOk P w H h a u:=e.ok ok
theorem dk_rd (ok:HOk P w H h) (e:Rd H a (.dK kvs)):kvs.length<=sizeLine/\(a == sysModules)=false/\∃ vs,KV kvs vs/\h.DictOf (mixKind P w) a vs :=
 show ObjOk P w H h a (.dK kvs) from rd_of ok e
theorem key_of (ok:HOk P w H h) (e:H a=some (.tup (ks.map kV))):(tupleKind (mixKind P w)).is h ks a:=by
 obtain ⟨_,its,r,o,h1,h2,n,h3⟩:=(show ObjOk P w H h a (.tup (ks.map kV)) from ok a _ e)
 exact ⟨o,its.toArray,n,h1,h2,h3,by simpa using items_are r⟩
theorem dt_rd (ok:HOk P w H h) (e:Rd H a (.dT kvs)):kvs.length<=sizeLine/\(a == sysModules)=false /\
  ∃ xs,KT H kvs xs/\h.DictOfH (tupleKind (mixKind P w)) a xs:=by
 obtain ⟨z,y,xs,r,o,es,ep,h1,h2,h3,h4,h5⟩:=(show ObjOk P w H h a (.dT kvs) from rd_of ok e)
 refine ⟨z,y,xs,r,o,es,ep,h1,h2,h3,h4,fun x hx=>?_,h5⟩
 have all:∀ {l:List (List Key × V)} {m:List (List Key × Addr × Value)},KT H l m->∀ x∈m,(tupleKind (mixKind P w)).is h x.1 x.2.1:=by
  intro l m q
  induction q with
  | nil=>intro x hx; exact nomatch hx
  | @cons p q ps qs hq t ih =>
   intro x hx
   rcases xaj.mp hx with e | hx
   ·subst e
    exact key_of ok (by rw [<- hq.1]; exact hq.2.1)
   ·exact ih x hx
 exact all r x hx
end
def DGet (H:Hp) (a:Addr) (y:V) (r:Option V):Prop :=
 (∃ kvs k,Rd H a (.dK kvs)/\y=kV k/\r=valV kvs k)\/∃ kvs k b,Rd H a (.dT kvs)/\y=.ref b/\H b=some (.tup (k.map kV))/\r=valV kvs k
def DPut (H:Hp) (a:Addr) (y v:V) (H':Hp):Prop :=
 (∃ kvs k,H a=some (.dK kvs)/\y=kV k/\kvs.length<sizeLine/\H'=upd H a (.dK (putK kvs k v))) \/
 ∃ kvs k b,H a=some (.dT kvs)/\y=.ref b/\H b=some (.tup (k.map kV))/\kvs.length<sizeLine/\H'=upd H a (.dT (putK kvs k v))
theorem DGet.k {H:Hp} {a:Addr} {kvs:List (Key × V)} {k:Key} (e:H a=some (.dK kvs)):DGet H a (kV k) (valV kvs k):=.inl ⟨kvs,k,.inl e,rfl,rfl⟩
theorem DGet.t {H:Hp} {a b:Addr} {kvs:List (List Key × V)} {k:List Key} (e:H a=some (.dT kvs)) (eb:H b=some (.tup (k.map kV))):DGet H a (.ref b) (valV kvs k):=.inr ⟨kvs,k,b,.inl e,rfl,eb,rfl⟩
theorem DPut.k {H:Hp} {a:Addr} {kvs:List (Key × V)} {k:Key} {v:V} (e:H a=some (.dK kvs)) (hl:kvs.length<sizeLine):DPut H a (kV k) v (upd H a (.dK (putK kvs k v))):=.inl ⟨kvs,k,e,rfl,hl,rfl⟩
theorem DPut.t {H:Hp} {a b:Addr} {kvs:List (List Key × V)} {k:List Key} {v:V} (e:H a=some (.dT kvs)) (eb:H b=some (.tup (k.map kV))) (hl:kvs.length<sizeLine) :
  DPut H a (.ref b) v (upd H a (.dT (putK kvs k v))):=.inr ⟨kvs,k,b,e,rfl,eb,hl,rfl⟩
section
variable {X:Cx} {pins:List (Addr × Obj)} {σ:St} {H:Hp} {s:Shared} {a:Addr} {y v:V} {u:Value} {o:Option V} {A:Around} {E:Value->Shared->Prop}
theorem Inv.big (I:Inv X pins σ H s):sysModules<s.heap.objs.size:=by
 have h:mainGlobals<s.heap.objs.size:=(I.mod.glob.keeps I.bk).lt
 exact xcN (by decide) h
theorem d_getItem (hu:A.units+1<cLine) (I:Inv X pins σ H s) (g:DGet H a y (some v)) (ry:RelV y u) (h:∀ w' s',Inv X pins σ H s'->RelV v w'->Q w' s') :
  wpAny (model X.prog X.w) A (getItem (.ref a) u) Q E s:=by
 rcases g with ⟨kvs,k,e,ey,l⟩ | ⟨kvs,k,b,e,ey,eb,l⟩
 ·subst ey
  obtain ⟨z,hd,vs,rel,dd⟩:=dk_rd I.hok e
  obtain ⟨w',hw,rw'⟩:=RelO.some_of (v:=v) (o:=valueAt vs k) (by rw [l]; exact rel.val k)
  exact wpAny_getItem_of (kV_is ry) dd.mapOf hw (h w' _ (I.tok _) rw')
 ·subst ey
  cases (show u=Value.ref b from ry)
  obtain ⟨z,hd,xs,rel,dd⟩:=dt_rd I.hok e
  obtain ⟨w',hw,rw'⟩:=RelO.some_of (v:=v) (o:=(atKey xs k).map (·.2)) (by rw [l]; exact rel.val k)
  obtain ⟨p,hp,hp2⟩:=Option.map_eq_some_iff.mp hw
  refine wpAny_getItem_heap (tupleKind_room_in1 hu) (key_of I.hok eb) dd hp ?_
  rw [hp2]
  exact h w' _ (I.tok _) rw'
theorem d_in (hu:A.units+1<cLine) (I:Inv X pins σ H s) (g:DGet H a y o) (ry:RelV y u) (h:∀ s',Inv X pins σ H s'->Q (.bool o.isSome) s') :
  wpAny (model X.prog X.w) A (compareOp .In u (.ref a)) Q E s:=by
 rcases g with ⟨kvs,k,e,ey,l⟩ | ⟨kvs,k,b,e,ey,eb,l⟩
 ·subst ey
  obtain ⟨z,hd,vs,rel,dd⟩:=dk_rd I.hok e
  refine wpAny_in_of (kV_is ry) hd dd.mapOf ?_
  rw [<- (rel.val k).isSome_eq,<- l]
  exact h _ (I.tok _)
 ·subst ey
  cases (show u=Value.ref b from ry)
  obtain ⟨z,hd,xs,rel,dd⟩:=dt_rd I.hok e
  refine wpAny_in_heap (tupleKind_room_in1 hu) (key_of I.hok eb) hd dd ?_
  have q:=(rel.val k).isSome_eq
  rw [xcF] at q
  rw [<- q,<- l]
  exact h _ (I.tok _)
theorem d_notIn (hu:A.units+1<cLine) (I:Inv X pins σ H s) (g:DGet H a y o) (ry:RelV y u) (h:∀ s',Inv X pins σ H s'->Q (.bool (!o.isSome)) s') :
  wpAny (model X.prog X.w) A (compareOp .NotIn u (.ref a)) Q E s:=by
 rcases g with ⟨kvs,k,e,ey,l⟩ | ⟨kvs,k,b,e,ey,eb,l⟩
 ·subst ey
  obtain ⟨z,hd,vs,rel,dd⟩:=dk_rd I.hok e
  refine wpAny_notIn_of (kV_is ry) hd dd.mapOf ?_
  rw [<- (rel.val k).isSome_eq,<- l]
  exact h _ (I.tok _)
 ·subst ey
  cases (show u=Value.ref b from ry)
  obtain ⟨z,hd,xs,rel,dd⟩:=dt_rd I.hok e
  refine wpAny_notIn_heap (tupleKind_room_in1 hu) (key_of I.hok eb) hd dd ?_
  have q:=(rel.val k).isSome_eq
  rw [xcF] at q
  rw [<- q,<- l]
  exact h _ (I.tok _)
end
section
variable {X:Cx} {pins:List (Addr × Obj)} {σ:St} {H:Hp} {s:Shared} {a:Addr} {kvs:List (Key × V)} {A:Around} {E:Value->Shared->Prop}
theorem d_len (I:Inv X pins σ H s) (e:Rd H a (.dK kvs)) (h:∀ t s',Inv X pins σ H s'->Q (.int kvs.length t) s'):wpAny (model X.prog X.w) A (call (.builtin "len") [.ref a]) Q E s:=by
 obtain ⟨z,hd,vs,rel,dd⟩:=dk_rd I.hok e
 refine call_len_dict hd dd (by rw [<- rel.length]; rw [sizeLine_eq] at z; lia) ?_
 rw [<- rel.length]
 exact h _ _ (I.tok _)
end
theorem dict_typeIs {X:Cx} (I:Inv X pins σ H s) (g:DGet H a y o):s.TypeIs (.ref a) "dict" := by
 rcases g with ⟨kvs,k,e,_,_⟩ | ⟨kvs,k,b,e,_,_,_⟩
 ·obtain ⟨_,_,vs,_,dd⟩:=dk_rd I.hok e
  exact dd.typeIs
 ·obtain ⟨_,_,xs,_,dd⟩:=dt_rd I.hok e
  exact dd.typeIs
def mergeK (kvs more:List (Key × V)):List (Key × V):=more.foldl (fun acc kv=>putK acc kv.1 kv.2) kvs
theorem KV.merge:∀ {more:List (Key × V)} {rs:List (Key × Value)} {kvs:List (Key × V)} {vs:List (Key × Value)},KV more rs->KV kvs vs->KV (mergeK kvs more) (merged vs rs):=by
 intro more rs kvs vs r
 unfold KV at r
 induction r generalizing kvs vs with
 | nil=>intro q; exact q
 | @cons p q ps qs h t ih =>
  intro r0
  have e:KV (putK kvs p.1 p.2) (stored vs q.1 q.2):=by
   have:=r0.put p.1 h.2
   rw [<- h.1]; exact this
  exact ih e
structure M1 (X:Cx) (o:Expr) (m:Str) (apos:Pos) (e:Expr) (cpos:Pos):Prop where
 base:attributeBase o m X.env (eval o X.env)=eval o X.env
 few:((backTo cpos (starEach [e] X.env)).all (fun x=>!x.1) && (backToKw cpos (keywordEach [] X.env)).all (fun x=>x.1.isSome)
  && decide (([e]:List Expr).length+([]:List Keyword).length+(if ([]:List Keyword).isEmpty then 0 else 1)<30))=true
 line:(apos.endLine == cpos.line)=true
 trees:backTo cpos (starEach [e] X.env)=[(false,eval e X.env)]
structure M2 (X:Cx) (o:Expr) (m:Str) (apos:Pos) (e f:Expr) (cpos:Pos):Prop where
 base:attributeBase o m X.env (eval o X.env)=eval o X.env
 few:((backTo cpos (starEach [e,f] X.env)).all (fun x=>!x.1) && (backToKw cpos (keywordEach [] X.env)).all (fun x=>x.1.isSome)
  && decide (([e,f]:List Expr).length+([]:List Keyword).length+(if ([]:List Keyword).isEmpty then 0 else 1)<30))=true
 line:(apos.endLine == cpos.line)=true
 trees:backTo cpos (starEach [e,f] X.env)=[(false,eval e X.env),(false,eval f X.env)]
end L2
namespace Att
open PySem PySem.W PySem.Calls PyProof.Rows
theorem ints_of_wellAll {P:Params}:∀ (ns:List Int) (vs:List Value),WellAll P h vs (ns.map WData.int)->IntsAre vs ns:=by
 intro ns
 induction ns with
 | nil =>
  intro vs w
  rw [xcu] at w
  cases w
  exact .nil
 | cons n ns ih =>
  intro vs w
  rw [xas] at w
  cases w with
  | cons a b =>
   cases a
   exact .cons _ _ (ih _ b)
theorem script_of {l:OpenLaw} {n:Nat} (hn:l.most=some n) {P:Params} {h:Heap} {args:List WData} {vals:List Value}
  (hpre:l.row.toRowW.claim.pre args=true) (hwl:WellAll P h vals args) :
  ∃ a vs ns,vals=[Value.ref a]/\args=[WData.list (ns.map WData.int)]/\h.get? a=some { cls:=.type "list",data:=.seq vs.toArray }/\IntsAre vs ns/\ns.length<=n:=by
 have hsh:WShape.hasAll [] args [.list .int]=true:=(pre_splitW hpre).1
 have hc:l.pre.holds [] { args:=args }=true:=(pre_splitW hpre).2
 obtain ⟨d,r,rfl,h1,h2⟩:=hasAllW_cons hsh
 obtain rfl:=hasAllW_nil h2
 obtain ⟨xs,rfl,h3⟩:=hasW_list h1
 obtain ⟨ns,rfl⟩:=items_int h3
 have hlen:ns.length<=n:=by
  unfold OpenLaw.pre at hc
  have h4:(WTm.not (.lt (.lit (.int (n:Int))) (.len (.arg 0)))).holds [] { args:=[.list (ns.map .int)] }=true:=by
   have h4:=(holds_andW hc).1
   rw [hn] at h4
   exact h4
  have h5:=condW_of h4 (w_not (w_lt w_lit (w_len_list (w_arg rfl))))
  rw [xac] at h5
  refine xbv fun q=>?_
  have q':(n:Int)<((ns.length:Nat):Int):=by lia
  first
   | (rw [decide_eq_true q'] at h5; exact absurd h5 (by decide))
   | (simp at h5; lia)
 cases hwl with
 | cons w1 w2 =>
  cases w2
  cases w1 with
  | list ho hall=>exact ⟨_,_,ns,rfl,rfl,ho,ints_of_wellAll ns _ hall,hlen⟩
theorem post_true (l:OpenLaw) (args:List WData):l.row.toRowW.claim.post args (.bool true) args=true :=
 postW_of (r:=l.row.toRowW) (X:=(true == true))
  (show WShape.has [] (.bool true) .bool=true by first | rfl | decide | simp [WShape.has,WShape.arms,WShape.armsAll])
  (show (WTm.eq .res (.lit (.bool true))).value [] { args:=args,res:=some (.bool true),after:=args }=some (.bool (true == true)) from w_eq_bool (w_res rfl) w_lit) rfl
theorem attach_call {l:OpenLaw} {n:Nat} {q:Program} {loose:List Str} {XP:(Str->Option Value)->Heap->Prop} {YP:World->Heap->Prop} {d:DefRec}
  (hn:l.most=some n) (hdf:d.params.defaults=[])
  (call:∀ (w:World) (s₀ s₁:Shared) (mg mb:Str->Option Value) (fa:Addr) (o:Obj) (pm cd doc:Value) (a:Addr) (vs:List Value) (ns:List Int),
   Ground q loose [] XP w s₀ mg mb s₁.heap->YP w s₁.heap ->
   s₁.heap.get? fa=some o->o.data=.func (docDef d.name d.params d.body d.scope pm cd doc)->s₁.heap.CodeRec cd d.name->mg d.name=some (.ref fa) ->
   s₁.heap.get? a=some { cls:=.type "list",data:=.seq vs.toArray }->IntsAre vs ns->ns.length<=n->s₁.gens = #[] ->
   codeAny (model l.prog w) callerA (.call (.ref fa) ⟨[.ref a],[]⟩) (fun r s'=>r=.ok (.ret (.bool true))/\OldK s₁.heap s'.heap/\s'.os=s₁.os/\AllBare s'.gens) s₁) :
  WalkO q loose XP YP l.row.toRowW d [] (fun f vs=>PySem.call f vs):=by
 intro w s₀ s₁ mg mb G Y fa o pm cd doc dV kV ho hd hcd hD hmg hg args vals as hpre hlay hrd hwl hlo
 obtain rfl:dV=.none:=Dflts.none hD hdf
 obtain rfl:kV=.none:=Dflts.noKw hD
 obtain ⟨a,vs,ns,rfl,rfl,hobj,hints,hlen⟩:=script_of hn hpre hwl
 refine enter_call (codeAny_mono (call w s₀ s₁ mg mb fa o pm cd doc a vs ns G Y ho (fd_plain hd) hcd hmg hobj hints hlen hg) fun r s' hq=>?_)
 obtain ⟨rfl,h2,h3,h4⟩:=hq
 exact ⟨.inl ⟨.bool true,.bool true,[],rfl,fun _=>rfl,.bool true,post_true l _,fun _=>⟨List.Pairwise.nil,fun _ hm=>(nomatch hm)⟩⟩,h2,h3,h4⟩
end Att
namespace L2
open PySem PySem.Spec PyProof.Rows
theorem vals_ints:∀ {vs:List Value} {ns:List Int},IntsAre vs ns->Vals (ns.map V.int) vs
 | _,_,.nil=>.nil
 | _,_,.cons n t h=>.cons ⟨t,rfl⟩ (vals_ints h)
def Only (H:Hp):Prop:=∀ b,H b=none\/∃ o xs,H b=some (.frz o (.lst xs))
theorem law_call {P:Program} {K:PySem.W.Frag}
  (KX:K.In s₁.heap) (hns:s₁.heap.Ns mainGlobals mg) (hb:s₁.heap.Ns builtinsNs mb) (hbb:∀ x:Str,x ≠ "__name__"->mb x=bootBuiltins x) (hlim:s₁.heap.NoLimit) (hg:s₁.gens = #[])
  (ha:s₁.heap.get? a=some { cls:=.type "list",data:=.seq vs.toArray }) (hi:IntsAre vs ns) (hl:ns.length<=sizeLine) (hr:Room k callerA)
  (F:∀ base:Heap,K.In base->base.Ns mainGlobals mg->FnOk P w K mg base CX k fa fd [x] sp) (hbind:∀ (s:Shared) (u:Value),BindsTo s fd ⟨[u],[]⟩ [(x,u)])
  (hsp:∀ H:Hp,Only H->SqL K H a (ns.map V.int)->sp [.ref a] H (fun v _=>v=.bl true) fun _ _ _=>False)
  (hCX:∀ H e s',CX [] H s₁ (fun _ _ _=>False) e s'->False) :
  codeAny (model P w) callerA (.call (.ref fa) ⟨[.ref a],[]⟩) (fun r s'=>r=.ok (.ret (.bool true))/\OldK s₁.heap s'.heap/\s'.os=s₁.os/\AllBare s'.gens) s₁:=by
 have rv:=vals_ints hi
 have lenV:=hi.length
 -- from an abstract heap in which nothing but the script may be tracked
 have core:∀ H:Hp,Only H->SqL K H a (ns.map V.int)->HOk P w H s₁.heap->(∀ b,H b≠none->b=a)->(H a≠none->K.lookup a=none) ->
   codeAny (model P w) callerA (.call (.ref fa) ⟨[.ref a],[]⟩) (fun r s'=>r=.ok (.ret (.bool true))/\OldK s₁.heap s'.heap/\s'.os=s₁.os/\AllBare s'.gens) s₁:=by
  intro H hO hS hok hA hK
  have base_of:∀ {b:Addr} {o:Obj},s₁.heap.get? b=some o->H b=none->(hidT s₁.heap H).get? b=some o:=fun e n=>hidT_get e n
  have noA:∀ {b:Addr} {o:Obj} {es:Array DictEntry} {ep:Nat},s₁.heap.get? b=some o->o.data=.dict es ep->H b=none:=fun {b o es ep} e d=>by
   cases q:H b with
   | none=>rfl
   | some u =>
    have e':b=a:=hA b (by rw [q]; simp)
    subst e'
    rw [ha] at e; cases e
    have d':Data.seq vs.toArray _=Data.dict es ep:=d
    cases d'
  have nsK:∀ {b:Addr} {m:Str->Option Value},s₁.heap.Ns b m->(hidT s₁.heap H).Ns b m:=fun {b m} ⟨o,es,ep,e,d,r⟩=>⟨o,es,ep,base_of e (noA e d),d,r⟩
  have hKb:K.In (hidT s₁.heap H):=fun b o e=>base_of (KX b o e) (by
   cases q:H b with
   | none=>rfl
   | some u =>
    have e':b=a:=hA b (by rw [q]; simp)
    subst e'
    rw [hK (by rw [q]; simp)] at e; cases e)
  have hM:Mod K mg (hidT s₁.heap H):=⟨hKb,nsK hns,⟨mb,nsK hb,hbb⟩,let ⟨mc,h1,h2⟩:=hlim; ⟨mc,nsK h1,h2⟩⟩
  have e0:Env0 P w K mg (hidT s₁.heap H) callerA [] s₁ H:=⟨rfl,hM,fun b o e=>of_hidT e,xcO (hidT_size _ _),trivial,fun b hb=>absurd (show b∈([]:List Addr) from hb) (by simp),hok,.of_eq hg⟩
  refine codeAny_mono ((F _ hKb (nsK hns)).run callerA [] s₁ H ⟨[.ref a],[]⟩ [.ref a] [.ref a] _ _ hr e0 (hbind s₁ (.ref a)) (.cons rfl .nil) (hsp H hO hS)) fun r s' h=>?_
  cases r with
  | error e=>exact (hCX H e s' h).elim
  | ok fl =>
   cases fl with
   | next=>exact False.elim h
   | brk=>exact False.elim h
   | cont=>exact False.elim h
   | ret u =>
    obtain ⟨v,H',os,bare,un,hok',r',q⟩:=h
    have q':v=.bl true:=q
    subst q'
    obtain rfl:u=Value.bool true:=r'
    refine ⟨rfl,OldK.of_keep fun b o e=>?_,os,bare⟩
    cases q:H b with
    | none=>exact un.keep b o e q (by intro z; exact absurd (show b∈([]:List Addr) from z) (by simp)) (by simp)
    | some u =>
     rcases hO b with z | ⟨ob,xs,z⟩
     ·rw [q] at z; cases z
     ·have z2:=un.frzs b ob _ z
      obtain ⟨e1,_⟩:=hok b _ z
      obtain ⟨e2,_⟩:=hok' b _ z2
      rw [e] at e1; cases e1
      exact e2
 cases hk:K.lookup a with
 | some o =>
  -- the script is one of the module's own objects
  have e:=KX a o hk
  rw [ha] at e
  cases e
  refine core (fun _=>none) (fun _=>.inl rfl) (.inr ⟨_,vs.toArray,_,hk,rfl,rfl,rfl,by rw [xan,lenV]; exact hl,by simpa using rv⟩) (fun b u z=>by have z':(none:Option HO)=some u:=z; cases z') (fun b z=>absurd rfl z) fun z=>absurd rfl z
 | none =>
  refine core (fun b=>if b=a then some (.frz { cls:=.type "list",data:=.seq vs.toArray } (.lst (ns.map V.int))) else none) (fun b=>?_) (.inl (.inr ⟨{ cls:=.type "list",data:=.seq vs.toArray },if_pos rfl⟩)) (fun b u z=>?_) (fun b z=>?_) fun _=>hk
  ·by_cases hb:b=a
   ·exact .inr ⟨_,_,if_pos hb⟩
   ·exact .inl (if_neg hb)
  ·by_cases hb:b=a
   ·have z':=(if_pos hb).symm.trans z
    cases z'
    subst hb
    exact ⟨ha,by rw [xac]; exact hl,vs,_,rv,ha⟩
   ·have z':=(if_neg hb).symm.trans z
    cases z'
  ·by_cases hb:b=a
   ·exact hb
   ·exact absurd (if_neg hb) z
theorem walk_of {l:PySem.W.OpenLaw} {n k:Nat} {q:Program} {loose:List Str} {XP:(Str->Option Value)->Heap->Prop} {YP:World->Heap->Prop} {d:DefRec} {K:Params->PySem.W.Frag} {CX:World->CXT} {sp:World->Sp} {x:Str}
  (hn:l.most=some n) (hn2:n<=sizeLine) (hdf:d.params.defaults=[]) (hr:Room k callerA)
  (hY:∀ (w:World) (h:Heap),YP w h->(K w.params).In h)
  (F:∀ (w:World) (mg:Str->Option Value) (fa:Addr) (h:Heap),(K w.params).In h->h.Ns mainGlobals mg->mg d.name=some (.ref fa) ->
   ∃ fd:FuncData,(∀ (s:Shared) (u:Value),BindsTo s fd ⟨[u],[]⟩ [(x,u)]) /\
    ∀ base:Heap,(K w.params).In base->base.Ns mainGlobals mg->FnOk l.prog w (K w.params) mg base (CX w) k fa fd [x] (sp w))
  (hsp:∀ (w:World) (H:Hp) (a:Addr) (ns:List Int),ns.length<=n->Only H->SqL (K w.params) H a (ns.map V.int)->sp w [.ref a] H (fun v _=>v=.bl true) fun _ _ _=>False)
  (hCX:∀ (w:World) (H:Hp) (s:Shared) (e:Value) (s':Shared),CX w [] H s (fun _ _ _=>False) e s'->False) :
  PySem.W.WalkO q loose XP YP l.row.toRowW d [] (fun f vs=>PySem.call f vs):=by
 refine Att.attach_call hn hdf fun w s₀ s₁ mg mb fa o pm cd doc a vs ns G Y ho hd hcd hmg hobj hints hlen hg=>?_
 have KX:=hY w _ Y
 obtain ⟨fd,hb,hF⟩:=F w mg fa _ KX G.T.g hmg
 exact law_call KX G.T.g G.T.b G.T.builtins G.T.nolimit hg hobj hints (xaB hlen hn2) hr hF hb (fun H hO hS=>hsp w H a ns hlen hO hS) fun H e s'=>hCX w H s₁ e s'
def defArgs (s:Stmt):Arguments:=match s with
 | .FunctionDef _ a _ _ _ _ _ _ _ _=>a
 | _=>{ posonlyargs:=[],args:=[],vararg:=none,kwonlyargs:=[],kw_defaults:=[],kwarg:=none,defaults:=[] }
def defBody (s:Stmt):List Stmt:=match s with
 | .FunctionDef _ _ b _ _ _ _ _ _ _=>b
 | _=>[]
def defScope (s:Stmt):Scope:=match s with
 | .FunctionDef _ _ _ _ _ _ sc _ _ _=>sc
 | _=>{ kind:=.function,names:=[],isGenerator:=false,isCoroutine:=false }
abbrev CX0:CXT:=fun _ _ _ _ _ _=>False
abbrev E0:XK:=fun _ _ _=>False
theorem pass0 {X:Cx}:Passes CX0 X E0:=fun _ _ _ _ _ _ _ h=>h.elim
structure Fun (K:PySem.W.Frag) (x qual:Str) (st:Stmt) (f:Addr) (fd:FuncData):Prop where
 ex:∃ (oc:Value) (od:Option Addr) (kV doc pm:Value) (an:Option Addr) (cdv ct:Value) (osl:Array (Option Value)),
  fd=PySem.W.fnOf x qual (defArgs st) (defBody st) (defScope st) .none kV doc pm an cdv ct/\K.lookup f=some ⟨oc,od,.func fd,osl⟩/\PySem.W.codeIn K cdv qual=true
 kp:PySem.W.keepIn K (.ref f)=true
section
variable {P:Program} {w:World} {K:PySem.W.Frag} {mg:Str->Option Value} {base:Heap}
theorem Fun.ok {st:Stmt} {N ps:List Str} (F:Fun K x qual st f fd) (S:FnScope N ps (defScope st)) (len:∀ vs H Q E,sp vs H Q E->vs.length=ps.length)
  (hbody:∀ (cdv:Value) (A:Around) (outer:List Env) (s:Shared) (H:Hp) (vs:List V) (Q:VK) (E:XK),Room k (A.deeper (envOfC qual (defScope st) s.heap.objs.size f cdv))->sp vs H Q E ->
   ∃ t,PSs (cxOf CX0 P w K mg base N qual (defScope st) f cdv A outer s H E).nox (defBody st) t/\t { nx:=fun _ H'=>Q .non H',rt:=Q } (start N vs) H):FnOk P w K mg base CX0 (k+1) f fd ps sp:=by
 obtain ⟨oc,od,kV,doc,pm,an,cdv,ct,osl,rfl,lk,hcd⟩:=F.ex
 refine fn_of lk hcd S len fun A outer s H vs Q E hr hsp=>?_
 obtain ⟨t,h,q⟩:=hbody cdv A outer s H vs Q E hr hsp
 exact ⟨t,h.nox,q⟩
theorem Fun.binds {st:Stmt} {ps:List Str} (F:Fun K x qual st f fd)
  (h:∀ (kV doc pm:Value) (an:Option Addr) (cdv ct:Value) (us:List Value),us.length=ps.length->bindArgs (PySem.W.fnOf x qual (defArgs st) (defBody st) (defScope st) .none kV doc pm an cdv ct) ⟨us,[]⟩=pure (ps.zip us)):Binds K fd ps []:=by
 obtain ⟨oc,od,kV,doc,pm,an,cdv,ct,osl,rfl,lk,hcd⟩:=F.ex
 exact .all (h kV doc pm an cdv ct)
theorem fun_mk {st:Stmt} {kV doc pm cdv ct:Value} (l:K.lookup f=some ⟨oc,od,.func (PySem.W.fnOf x qual (defArgs st) (defBody st) (defScope st) .none kV doc pm an cdv ct),osl⟩)
  (c:PySem.W.codeIn K cdv qual=true) (k:PySem.W.keepIn K (.ref f)=true):Fun K x qual st f (PySem.W.fnOf x qual (defArgs st) (defBody st) (defScope st) .none kV doc pm an cdv ct):=⟨⟨oc,od,kV,doc,pm,an,cdv,ct,osl,rfl,l,c⟩,k⟩
end
section
variable {X:Cx}
theorem pv (i:Nat) (hN:X.N[i]? = some x:=by rfl) (hv:Vis X.env.scope x:=by first | exact Or.inl rfl | exact Or.inr (Or.inl rfl) | exact Or.inr (Or.inr rfl)) (hd:(x == ("__debug__" : Str))=false:=by decide)
  (hcd:(x == ("__classdict__" : Str))=false:=by decide):PE X (.Name x pos) (tVar i):=pe_var hN hv hd hcd
end
def Same (H H':Hp):Prop:=∀ b o,H b=some o->H' b=some o
theorem Same.refl (H:Hp):Same H H:=fun _ _ h=>h
theorem Same.trans (a:Same H H1) (b:Same H1 H2):Same H H2:=fun c o h=>b c o (a c o h)
theorem Same.free (e:Same H H') (h:H' l=Option.none):H l=Option.none:=by
 cases q:H l with
 | none=>rfl
 | some o =>
  rw [e l o q] at h
  cases h
theorem Same.seq {K:PySem.W.Frag} (e:Same H H') (h:SqL K H a xs):SqL K H' a xs:=by
 rcases h with (h | ⟨o,h⟩) | h
 ·exact .inl (.inl (e _ _ h))
 ·exact .inl (.inr ⟨o,e _ _ h⟩)
 ·exact .inr h
end L2
set_option maxHeartbeats 4000000
namespace L2
open PySem PySem.Spec PyProof.Rows
def clOf (env:Env):List (Str × NameKind)->List (Str × Addr)->List (Str × Addr)
 | [],cs=>cs
 | (n,k) :: r,cs=>clOf env r (if k == NameKind.free then (n,(env.cells.lookup n).getD 0) :: cs else cs)
theorem gR (env:Env):∀ (names:List (Str × NameKind)) (cs:List (Str × Addr)),(∀ y∈names,y.2=.free->∃ c,env.cells.lookup y.1=some c) ->
  (forIn names cs fun x r=>match x with
   | (name,kind)=>if (kind == NameKind.free)=true then do let a <- cellOf env name; pure (ForInStep.yield ((name,a) :: r)) else pure (ForInStep.yield r):Sem (List (Str × Addr)))=pure (clOf env names cs)
 | [],cs,_=>rfl
 | (n,k) :: r,cs,h=>by
  rw [List.forIn_cons]
  have ih:=gR env r
  by_cases hk:k=.free
  ·subst hk
   obtain ⟨c,e⟩:=h (n,.free) xah rfl
   have e:env.cells.lookup n=some c:=e
   have e2:cellOf env n=pure c:=by unfold cellOf; rw [e]
   have e3:clOf env ((n,.free) :: r) cs=clOf env r ((n,c) :: cs):=by
    show clOf env r (if (NameKind.free == NameKind.free)=true then (n,(env.cells.lookup n).getD 0) :: cs else cs)=_
    rw [e]; rfl
   rw [e3,<- ih ((n,c) :: cs) fun y hy=>h y (xaf _ hy)]
   simp only [beq_self_eq_true,if_true,e2]
   rfl
  ·have hb:(k == NameKind.free)=false:=by simpa using hk
   have e3:clOf env ((n,k) :: r) cs=clOf env r cs:=by
    show clOf env r (if (k == NameKind.free)=true then _ else cs)=_
    rw [hb]; rfl
   rw [e3,<- ih cs fun y hy=>h y (xaf _ hy)]
   simp only [hb,xam,if_false]
   rfl
theorem oK (h:∀ y∈scope.names,y.2=.free->∃ c,env.cells.lookup y.1=some c):closureFor scope env=pure (clOf env scope.names []):=by
 have:=gR env scope.names [] h
 unfold closureFor
 rw [<- bind_pure (forIn scope.names [] _)] at this
 exact this
theorem oV:∀ {names:List (Str × NameKind)} {cs:List (Str × Addr)},(∀ y∈names,y.2=.free->∃ c,env.cells.lookup y.1=some c)->(∀ y d,cs.lookup y=some d->env.cells.lookup y=some d) ->
  (clOf env names cs).lookup x=some c->env.cells.lookup x=some c
 | [],cs,_,h,e=>h x c e
 | (n,k) :: r,cs,hf,h,e=>by
  refine oV (names:=r) (fun y hy=>hf y (xaf _ hy)) ?_ e
  intro y d hd
  by_cases hk:k=.free
  ·subst hk
   obtain ⟨c',e'⟩:=hf (n,.free) xah rfl
   have e':env.cells.lookup n=some c':=e'
   simp only [beq_self_eq_true,if_true,e',Option.getD_some,xcK] at hd
   cases hb:y == n with
   | true=>rw [hb] at hd; have:y=n:=eq_of_beq hb; subst this; rw [e']; exact hd
   | false=>rw [hb] at hd; exact h y d hd
  ·have hb:(k == NameKind.free)=false:=by simpa using hk
   simp only [hb,xam,if_false] at hd
   exact h y d hd
theorem lA:∀ {names:List (Str × NameKind)} {cs:List (Str × Addr)},((x,NameKind.free)∈names\/∃ c,cs.lookup x=some c)->∃ c,(clOf env names cs).lookup x=some c
 | [],cs,h=>by
  rcases h with h | h
  ·exact nomatch h
  ·exact h
 | (n,k) :: r,cs,h=>by
  refine lA (names:=r) ?_
  rcases h with h | ⟨c,h⟩
  ·rcases xaj.mp h with e | h
   ·cases e
    refine .inr ⟨(env.cells.lookup x).getD 0,?_⟩
    simp only [beq_self_eq_true,if_true,xcK]
   ·exact .inl h
  ·refine .inr ?_
   by_cases hk:(k == NameKind.free)=true
   ·simp only [hk,if_true,xcK]
    cases hb:x == n with
    | true=>exact ⟨_,rfl⟩
    | false=>exact ⟨c,h⟩
   ·simp only [hk,if_false]
    exact ⟨c,h⟩
def bf (X:Cx) (scope:Scope) (C:Addr) (N:List Str) (fp:List Addr) (s₃:Shared) (H₃:Hp):Cx :=
 { X with N:=N,s₀:=s₃,H₀:=H₃,env:=compEnvC scope (clOf X.env scope.names []) C X.env,outer:=X.stack,stack:=X.stack,ex:=fp,fn:=fun _=>false,pn:=[],xe:=fun _ _=>False }
def PTs (X:Cx) (ifs:List Expr) (t:TT):Prop :=
 ∀ (pins:List (Addr × Obj)) (s:Shared) (σ:St) (H:Hp) (Q:Bool->Hp->Prop),Inv X pins σ H s->t σ H Q ->
  wpAny (model X.prog X.w) X.A (forIn ifs true fun c r=>if r=true then do let ok <- isTrue c X.env (eval c X.env); pure (ForInStep.yield ok) else pure (ForInStep.yield r)) (TP X pins σ Q) X.xe s
def tYes:TT:=fun _ H Q=>Q true H
theorem CP {X:Cx}:PTs X [] tYes:=fun _ _ _ H _ I h=>wpAny_tests_nil ⟨H,I,h⟩
theorem Cy {X:Cx} (h:PT X c t):PTs X [c] t:=fun pins s σ H Q I hw=>wpAny_tests_one (h pins s σ H Q I hw)
theorem gm {R:Result->Shared->Prop} (I:Nat->Shared->Prop) (E:Value->Shared->Prop)
  (turn:∀ n s,I n s->wpAny (model prog w) A (pyNext it) (fun r s₁=>match r with
   | none=>R (.ok .next) s₁
   | some v=>wpAny (model prog w) A (letOwnedTupleGo target it v) (fun _ s₀=>wpAny (model prog w) A (assign target env v) (fun _ s₂ =>
     wpAny (model prog w) A (forIn ifs true fun c r=>if r=true then do let ok <- isTrue c env (eval c env); pure (ForInStep.yield ok) else pure (ForInStep.yield r)) (fun ok s₃ =>
      if ok=true then wpAny (model prog w) A (eval elt env) (fun x s₄ =>
       wpAny (model prog w) A (call (.builtin "list.append") [acc,x]) (fun _ s₅=>∃ m,m<n/\I m s₅) E s₄) E s₃
      else ∃ m,m<n/\I m s₃) E s₂) E s₀) E s₁) E s)
  (hE:∀ e s',E e s'->notedBy (model prog w) A env (fun e s'=>R (.error e) s') e s')
  (n:Nat) (h:I n s) :
  codeAny (model prog w) A (.compLoop (.ListComp elt [⟨target,iter,ifs,0⟩] scope pos) 0 it acc env) R s:=by
 refine codeAny_loop rfl I (fun n s hI=>?_) n h
 show wpAny _ A ((compTurn (.ListComp elt [⟨target,iter,ifs,0⟩] scope pos) 0 it acc env).onRaise (fun x=>do noteFrame x env; theTreesLotGoes x)) _ _ s
 refine wpAny_noted ?_
 rw [compTurn_list]
 refine xaZ (Q:=_) (E:=E) ?_ (fun _ _ q=>q) hE
 refine xaa (wpAny_standAt (xaa (xaZ (turn n s hI) (fun r s₁ h₁=>?_) fun _ _ h'=>h')))
 cases r with
 | none=>exact xab h₁
 | some v =>
  refine xaa (xaZ h₁ (fun _ s₀ h₀=>?_) fun _ _ h'=>h')
  refine xaa (xaZ h₀ (fun _ s₂ h₂=>xaa (xaZ h₂ (fun ok s₃ h₃=>?_) fun _ _ h'=>h')) fun _ _ h'=>h')
  cases ok with
  | false=>exact xab ⟨rfl,h₃⟩
  | true =>
   exact xaa (xaa (xaZ h₃ (fun x s₄ h₄=>xaa (xaZ h₄ (fun _ s₅ h₅=>xab (xab ⟨rfl,h₅⟩)) fun _ _ h'=>h')) fun _ _ h'=>h'))
def oF (tn:Nat) (ix:List Nat) (σ:St):St:=List.replicate tn none++ix.map fun j=>(σ[j]?).join
def vR (wi:TI) (g:TG) (tc:TT) (te:TE) (tn:Nat) (ix:List Nat):TE:=fun σ H Q=>wi σ H fun J H1=>∀ D,H1 D=none ->
 ∃ W:Nat->Nat->St->Hp->Prop,(∃ m,W 0 m (oF tn ix σ) (upd H1 D (.lst [])))/\∀ i m τ H,W i m τ H ->
  (J.stop i H/\Q (.ref D) H)\/(J.go i H/\∃ (N1:St->V->Hp->Prop) (N2:St->Hp->Prop),
   (∀ τ2 v H4,N1 τ2 v H4->∃ ys m',H4 D=some (.lst ys)/\ys.length<sizeLine/\m'<m/\W (i+1) m' τ2 (upd H4 D (.lst (ys++[v])))) /\
   (∀ τ2 H3,N2 τ2 H3->∃ m',m'<m/\W (i+1) m' τ2 H3) /\
   ∀ x H',J.yld i H x H'->g x τ H' fun τ2 H2=>tc τ2 H2 fun b H3=>if b=true then te τ2 H3 (N1 τ2) else N2 τ2 H3)
section
variable {X:Cx} {tg iter elt:Expr} {ifs:List Expr} {scope:Scope} {pos:Pos} {wi:TI} {g:TG} {tc:TT} {te:TE} {tn cn:List Str} {ix:List Nat}
structure cH (X:Cx) (scope:Scope) (tn cn:List Str) (ix:List Nat):Prop where
 kind:scope.kind=.function
 nocell:∀ y∈scope.names,y.2≠.cell
 free:∀ y∈scope.names,y.2=.free->X.env.scope.names.lookup y.1=some .cell\/X.env.scope.names.lookup y.1=some .free
 names:∀ y∈scope.names,y.2=.local->scope.names.lookup y.1=some .local
 len:ix.length=cn.length
 cap:∀ (k j:Nat),ix[k]? = some j->∃ y,cn[k]? = some y/\X.N[j]? = some y/\(X.env.scope.names.lookup y=some .cell\/X.env.scope.names.lookup y=some .free)/\(y,NameKind.free)∈scope.names /\
  ((relabel scope X.env).names.lookup y=some .cell\/(relabel scope X.env).names.lookup y=some .free)
 all:∀ x,(relabel scope X.env).names.lookup x=some .cell\/(relabel scope X.env).names.lookup x=some .free->(x,NameKind.free)∈scope.names
theorem wX (O:cH X scope tn cn ix) (I:Inv X pins σ H s) (hf:∀ b∈fp,FpOk X pins H b) (hfs:∀ b∈fp,b<s.heap.objs.size) (hC:s.heap.objs.size<=C) :
  (bf X scope C (tn++cn) fp s H).Ok:=by
 have hcl:∀ y∈scope.names,y.2=.free->∃ c,X.env.cells.lookup y.1=some c:=fun y hy hk=>I.ok.has y.1 (O.free y hy hk)
 have sub:∀ x c,(clOf X.env scope.names []).lookup x=some c->X.env.cells.lookup x=some c:=fun x c e=>oV hcl (fun y d h=>by simp at h) e
 refine ⟨I.ok.mod,O.kind,I.ok.glob,I.ok.blt,hC,fun x y c h1 h2=>I.ok.inj x y c (sub x c h1) (sub y c h2),fun x hx=>lA (.inl (O.all x hx)),(fun x c h _=>nomatch h),I.ok.hd,I.ok.frames,.inl rfl,fun b hb=>⟨?_,fun x c e=>?_⟩,
  I.bs,xaB I.ok.bsz I.sz,fun b o e hb=>?_,fun b hb=>?_,I.stack,I.stkFree⟩
 ·exact xar (xaA (hfs b hb) hC)
 ·exact (hf b hb).2.2.2.2.1 x c (sub x c e)
 ·rcases (hf b hb).2.2.2.1 with z | z
  ·exact I.ok.noex b o e z
  ·exact absurd (xaA (xal e) (xaB I.ok.bsz z)) (xa2 _)
 ·intro hz
  rcases xaj.mp (I.stkSub b hz) with e | e
  ·exact (hf b hb).2.1 e
  ·exact (hf b hb).2.2.1 e
theorem tH {P:Value->Shared->Prop} (hc:X.calm=true) (hi:PI X tg iter wi) (O:cH X scope tn cn ix)
  (hg:∀ C fp s₃ H₃,PG (bf X scope C (tn++cn) fp s₃ H₃) tg g) (hcs:∀ C fp s₃ H₃,PTs (bf X scope C (tn++cn) fp s₃ H₃) ifs tc) (he:∀ C fp s₃ H₃,PE (bf X scope C (tn++cn) fp s₃ H₃) elt te)
  (hs:∀ x,foldedSetIterable iter X.env x=pure x) (I:Inv X pins σ H s) (h:vR wi g tc te tn.length ix σ H Q)
  (fin:∀ (C D:Addr) (m:Str->Option Value) (H5:Hp) (s6:Shared) (r:Flow),Inv X pins σ H5 s6->s6.heap.Ns C m->H5 C=none->FpOk X pins H5 C->Q (.ref D) H5->compPost (model X.prog X.w) X.A X.xe use P (.ref D) C (.ok r) s6) :
  wpAny (model X.prog X.w) X.A (comprehension (.ListComp elt [⟨tg,iter,ifs,0⟩] scope pos) scope X.env pos1 (newList []) false (eval iter X.env) use) P X.xe s:=by
 have hcl:∀ y∈scope.names,y.2=.free->∃ c,X.env.cells.lookup y.1=some c:=fun y hy hk=>I.ok.has y.1 (O.free y hy hk)
 have sub:∀ x c,(clOf X.env scope.names []).lookup x=some c->X.env.cells.lookup x=some c:=fun x c e=>oV hcl (fun y d h=>by simp at h) e
 refine wpAny_comprehension_free (use:=use) rfl hs (oK hcl) O.kind O.names (thn (hi pins s σ H _ I h) fun v s1 h1=>thn h1 fun itv s2 h2=>?_)
 obtain ⟨it,fp,tnn,J,H2,e,I2,T,st2,f2,h2⟩:=h2
 subst e
 obtain ⟨W,⟨m0,w0⟩,turn⟩:=h2 s2.heap.objs.size (I2.hok.fresh (xae _))
 refine wpAny_newObj_type ?_
 have I3:Inv X pins σ (upd H2 s2.heap.objs.size (.lst [])) { s2 with heap:=s2.heap.push { cls:=.type "list",data:=.seq ([]:List Value).toArray } }:=I2.lnew (its:=[]) (t':=s2.toks) .nil (xaq _)
 generalize hD:s2.heap.objs.size=D at *
 generalize hs3:({ s2 with heap:=s2.heap.push { cls:=.type "list",data:=.seq ([]:List Value).toArray } }:Shared)=s3 at *
 have k23:∀ b o,s2.heap.get? b=some o->s3.heap.get? b=some o:=fun b o e=>by rw [<- hs3]; exact xad _ e
 have sz3:s3.heap.objs.size=D+1:=by rw [<- hs3,<- hD]; exact xca ..
 have f3:∀ b∈fp,FpOk X pins (upd H2 D (.lst [])) b:=fun b hb=>by
  obtain ⟨f0,fr⟩:=f2 b hb
  obtain ⟨o,ho,_⟩:=T.obj _ _ st2 b hb
  refine ⟨?_,fr⟩
  rw [upd_ne (xar (by rw [<- hD]; exact xal ho))]
  exact f0
 have st3:tnn 0 s3.heap:=T.keep _ _ _ st2 fun b hb o e=>k23 b o e
 have lt3:∀ b∈fp,b<s3.heap.objs.size:=fun b hb=>by
  obtain ⟨o,ho,_⟩:=T.obj _ _ st3 b hb
  exact xal ho
 refine wpAny_newFunctionEnv O.nocell (by intro y hy; simp at hy) (fun h₁ hns₁ hsb₁=>?_) O.kind
 have k34:∀ b o,s3.heap.get? b=some o->h₁.get? b=some o:=fun b o e=>hsb₁.extBut b o (xar (xal e)) (xad _ e)
 -- the block's context
 have ok':=wX (C:=s3.heap.objs.size) O I3 f3 lt3 (xae _)
 have I4:Inv (bf X scope s3.heap.objs.size (tn++cn) fp s3 (upd H2 D (.lst []))) [] (oF tn.length ix σ) (upd H2 D (.lst [])) { s3 with heap:=h₁,toks:=s3.toks+([]:List (Str × Value)).length }:=by
  refine ⟨ok',rfl,I3.bare,Un.kept k34,⟨_,hns₁,fun i x v e1 e2 e3=>?_⟩,fun x c e=>?_,I3.hok.fresh (xae _),fun x c e=>I3.freeC x c (sub x c e),fun p hp=>absurd hp (by simp [bf]),I3.hok.kept k34,?_⟩
  ·have hi':tn.length<=i:=by
    by_cases q:i<tn.length
    ·unfold oF at e2
     rw [xa9 (by simpa using q),List.getElem?_replicate] at e2
     simp [q] at e2
    ·lia
   unfold oF at e2
   rw [xaI (by simpa using hi'),List.length_replicate,xaR] at e2
   have e1:(tn++cn)[i]? = some x:=e1
   rw [xaI hi'] at e1
   cases q:ix[i - tn.length]? with
   | none=>rw [q] at e2; cases e2
   | some j =>
    rw [q] at e2
    obtain ⟨y,c1,c2,c3,c4,c5⟩:=O.cap _ _ q
    rw [c1] at e1; cases e1
    have e2:σ[j]?.join=some v:=Option.some.inj e2
    have ej:σ[j]? = some (some v):=by
     cases z:σ[j]? with
     | none=>rw [z] at e2; cases e2
     | some o=>rw [z] at e2; exact congrArg some e2
    obtain ⟨m,hn,hl⟩:=I3.loc
    obtain ⟨u,r,l⟩:=hl j x v c2 ej (c3.elim (fun z=>.inr (.inl z)) fun z=>.inr (.inr z))
    refine ⟨u,r,.inr ⟨c5,?_⟩⟩
    rcases l with ⟨hk,_⟩ | ⟨hk,c,hcc,hce⟩
    ·have hk:X.env.scope.names.lookup x=some .local:=hk
     rcases c3 with z | z
     ·rw [z] at hk; cases hk
     ·rw [z] at hk; cases hk
    ·obtain ⟨c',hc'⟩:=lA (env:=X.env) (cs:=[]) (Or.inl c4)
     have:=sub x c' hc'
     rw [hcc] at this; cases this
     obtain ⟨o,ho,hd⟩:=hce
     exact ⟨c,hc',o,k34 _ _ ho,hd⟩
  ·obtain ⟨v,o,ho,hd⟩:=I3.cell x c (sub x c e)
   exact ⟨v,o,k34 _ _ ho,hd⟩
  ·show (oF tn.length ix σ).length=(tn++cn).length
   unfold oF
   simp [O.len]
 -- from the block back to the body
 have back:∀ {τ:St} {H':Hp} {s':Shared},Inv (bf X scope s3.heap.objs.size (tn++cn) fp s3 (upd H2 D (.lst []))) [] τ H' s'->Inv X pins σ H' s':=fun {τ H' s'} I' =>
  Inv.call' (ch:=fp) I3 I'.os I'.base I'.hok I'.bare fun b hb=>by
   obtain ⟨_,f1,_,f3',f4,f5⟩:=f3 b hb
   exact ⟨f3',f1,f4,f5⟩
 have fpC:∀ {H':Hp},(∀ b∈fp,H' b=none)->∀ b∈fp,FpOk (bf X scope s3.heap.objs.size (tn++cn) fp s3 (upd H2 D (.lst []))) [] H' b:=fun hn b hb =>
  ⟨hn b hb,(ok'.exf b hb).1,ok'.exfs b hb,.inl hb,(ok'.exf b hb).2,fun p hp=>absurd hp (by simp [bf])⟩
 have loop:∀ s4:Shared,Inv (bf X scope s3.heap.objs.size (tn++cn) fp s3 (upd H2 D (.lst []))) [] (oF tn.length ix σ) (upd H2 D (.lst [])) s4->tnn 0 s4.heap ->
   codeAny (model X.prog X.w) X.A (.compLoop (.ListComp elt [⟨tg,iter,ifs,0⟩] scope pos) 0 (.ref it) (.ref D) (compEnvC scope (clOf X.env scope.names []) s3.heap.objs.size X.env))
    (compPost (model X.prog X.w) X.A X.xe use P (.ref D) s3.heap.objs.size) s4:=by
  intro s4 I4 st4
  refine gm (fun n s'=>∃ i τ H',Inv (bf X scope s3.heap.objs.size (tn++cn) fp s3 (upd H2 D (.lst []))) [] τ H' s'/\tnn i s'.heap/\(∀ b∈fp,H' b=none)/\W i n τ H') (fun _ _=>False) ?_ (fun _ _ z=>z.elim) m0
   ⟨0,_,_,I4,st4,fun b hb=>(f3 b hb).1,w0⟩
  rintro n s5 ⟨i,τ,H5,I5,st5,fr5,w5⟩
  rcases turn i n τ H5 w5 with ⟨stop,qn⟩ | ⟨go,N1,N2,hN1,hN2,step⟩
  ·refine thn (T.done (bf X scope s3.heap.objs.size (tn++cn) fp s3 (upd H2 D (.lst []))) rfl rfl rfl hc i [] s5 τ H5 (fun _ _=>False) I5 (fpC fr5) st5 stop) fun r s6 hx9=>?_
   obtain ⟨hr,I6⟩:=hx9
   subst hr
   have J6:=back I6
   obtain ⟨m,hn,_⟩:=I6.loc
   exact fin _ D m H5 s6 _ J6 hn I6.free (I3.fpOk (b:=s3.heap.objs.size) (H':=H5) (xae _) I6.free) qn
  ·refine thn (T.item (bf X scope s3.heap.objs.size (tn++cn) fp s3 (upd H2 D (.lst []))) rfl rfl rfl hc i [] s5 τ H5 (fun _ _=>False) I5 (fpC fr5) st5 go) fun r s6 hx9=>?_
   obtain ⟨u,hr,h6⟩:=hx9
   subst hr
   refine thn h6 fun _ s7 hx9=>?_
   obtain ⟨x,H7,I7,r7,y7,st7,fr7⟩:=hx9
   have I7':=I7.pinned (fpC fr7) (T.obj _ _ st7)
   refine thn (hg _ _ _ _ _ s7 τ H7 x u _ I7' r7 (step x H7 y7)) fun _ s8 hx9=>?_
   obtain ⟨τ8,H8,I8,q8⟩:=hx9
   refine thn (hcs _ _ _ _ _ s8 τ8 H8 _ I8 q8) fun ok s9 hx9=>?_
   obtain ⟨H9,I9,q9⟩:=hx9
   have again:∀ {s':Shared} {H':Hp} {m':Nat},Inv (bf X scope s3.heap.objs.size (tn++cn) fp s3 (upd H2 D (.lst []))) ([]++pinsAt fp s7.heap) τ8 H' s'->m'<n->W (i+1) m' τ8 H' ->
     ∃ m,m<n/\∃ i τ H',Inv (bf X scope s3.heap.objs.size (tn++cn) fp s3 (upd H2 D (.lst []))) [] τ H' s'/\tnn i s'.heap/\(∀ b∈fp,H' b=none)/\W i m τ H':=fun {s' H' m'} J hm w'=>by
    refine ⟨m',hm,i+1,τ8,H',J.unpinned,T.keep _ _ _ st7 fun b hb o e=>(J.pin (b,o) (xag _ (xag _ (mem_pinsAt hb e)))).1,fun b hb=>?_,w'⟩
    obtain ⟨o,e,d⟩:=T.obj _ _ st7 b hb
    exact (J.pin (b,o) (xag _ (xag _ (mem_pinsAt hb e)))).2.1
   cases ok with
   | false =>
    rw [if_neg xap] at q9 ⊢
    obtain ⟨m',hm,w'⟩:=hN2 _ _ q9
    exact again I9 hm w'
   | true =>
    rw [if_pos rfl] at q9 ⊢
    refine thn (he _ _ _ _ _ s9 τ8 H9 _ I9 q9) fun x9 s10 hx5=>L2.ex2 hx5 fun v10 H10 I10 r10 q10=>?_
    obtain ⟨ys,m',hH,hz,hm,w'⟩:=hN1 _ _ _ q10
    refine thn (mt_append _ s10 τ8 H10 (.ref D) [v10] (.ref D) [x9] (fun _ H'=>H'=upd H10 D (.lst (ys++[v10]))) I10 rfl (.cons r10 .nil) ⟨D,ys,v10,rfl,rfl,hH,hz,rfl⟩) fun _ s11 hx5=>L2.ex2 hx5 fun _ H11 I11 _ q11=>?_
    subst q11
    exact again I11 hm w'
 exact codeAny_compStart_list (loop _ I4 (T.keep _ _ _ st3 fun b hb o e=>k34 b o e)) (T.self _ 0 _ _ _ (T.keep _ _ _ st3 fun b hb o e=>k34 b o e) (loop _ I4 (T.keep _ _ _ st3 fun b hb o e=>k34 b o e)))
theorem BZ (hc:X.calm=true) (hi:PI X tg iter wi) (O:cH X scope tn cn ix)
  (hg:∀ C fp s₃ H₃,PG (bf X scope C (tn++cn) fp s₃ H₃) tg g) (hcs:∀ C fp s₃ H₃,PTs (bf X scope C (tn++cn) fp s₃ H₃) ifs tc) (he:∀ C fp s₃ H₃,PE (bf X scope C (tn++cn) fp s₃ H₃) elt te)
  (hs:∀ x,foldedSetIterable iter X.env x=pure x:=by intro _; rfl):PE X (.ListComp elt [⟨tg,iter,ifs,0⟩] scope pos) (vR wi g tc te tn.length ix):=by
 intro pins s σ H Q I h
 rw [eval_ListComp]
 refine tH (use:=none) (P:=EP X pins σ Q) hc hi O hg hcs he hs I h fun C D m H5 s6 r J6 hn hf ⟨_,g1,_,g3,g4,g5⟩ qn=>⟨m,hn,fun h' hsb=>⟨.ref D,H5,?_,rfl,qn⟩⟩
 exact J6.turned (t':=s6.toks) (fun b o hb e=>hsb.extBut b o hb e) hf g1 g3 g4 g5
end
section
variable {X:Cx} {tg iter elt:Expr} {ifs:List Expr} {scope:Scope} {pos:Pos} {wi:TI} {g:TG} {tc:TT} {te:TE} {tn cn:List Str} {ix:List Nat}
theorem vB (hN:X.N.Nodup) (hi0:X.N[i]? = some x) (hx:Loc X.env.scope x) (hc:X.calm=true) (hi:PI X tg iter wi) (O:cH X scope tn cn ix)
  (hg:∀ C fp s₃ H₃,PG (bf X scope C (tn++cn) fp s₃ H₃) tg g) (hcs:∀ C fp s₃ H₃,PTs (bf X scope C (tn++cn) fp s₃ H₃) ifs tc) (he:∀ C fp s₃ H₃,PE (bf X scope C (tn++cn) fp s₃ H₃) elt te)
  (hsw:swapsWith (.ListComp elt [⟨tg,iter,ifs,0⟩] scope pos) (some (.Name x pos')) spos.line X.env=pure true)
  (hs:∀ x,foldedSetIterable iter X.env x=pure x:=by intro _; rfl) (hf:X.fn x=true\/X.env.scope.names.lookup x=some .local:=by first | exact .inl rfl | exact .inr rfl | assumption) :
  PS X (.Assign [.Name x pos'] (.ListComp elt [⟨tg,iter,ifs,0⟩] scope pos) spos) (tAsg (vR wi g tc te tn.length ix) (gName i)):=by
 intro pins s σ H D0 I h
 rw [exec_Assign_Name_used _ _ _ _ hsw]
 refine xaa (wpAny_standAt (xaa ?_))
 show wpAny _ _ (do let _ <- comprehension (.ListComp elt [⟨tg,iter,ifs,0⟩] scope pos) scope X.env _ (newList []) false (eval iter X.env) (some (assign (.Name x pos') X.env))) _ _ s
 refine xaa (xaZ (tH (use:=some (assign (.Name x pos') X.env)) (P:=fun _ s'=>SP X pins D0 .next s') hc hi O hg hcs he hs I h fun C D m H5 s6 r J6 hn hfr ⟨_,g1,_,g3,g4,g5⟩ qn=>?_) (fun _ s' hq=>xab (xab hq)) fun _ _ e=>e)
 refine (show wpAny _ _ (assign (.Name x pos') X.env (.ref D)) _ _ s6 from wpAny_assign_Name (store_ok2 J6 hN hi0 hx (v:=.ref D) rfl (fun s7 I7 hx9=>?_) hf))
 obtain ⟨a,sb,ha⟩:=hx9
 have hCa:C≠a:=by
  rcases ha with rfl | ha
  ·exact g1
  ·exact Ne.symm (g4 _ a ha)
 refine ⟨m,hn.sameBut sb hCa,fun h' hsb=>⟨_,H5,?_,qn⟩⟩
 exact I7.turned (t':=s7.toks) (fun b o hb e=>hsb.extBut b o hb e) hfr g1 g3 g4 g5
end
def isiT (a b:String):Bool:=a == b || (a == "bool" && b == "int")
def okTy (b:String):Bool:=["str", "int", "bool", "list", "tuple", "dict"].contains b
theorem ji (K:PySem.W.Frag) (a b:String) (ha:a∈["NoneType", "bool", "int", "str", "list", "tuple", "dict"]) (hb:b∈["str", "int", "bool", "list", "tuple", "dict"]):PySem.W.kitOne K (.type a) (.type b)=some (isiT a b):=by
 simp only [xaj,xby,or_false] at ha hb
 rcases ha with rfl | rfl | rfl | rfl | rfl | rfl | rfl <;> rcases hb with rfl | rfl | rfl | rfl | rfl | rfl <;> kernel_rfl
section
variable {X:Cx}
theorem OpR.imp (h:OpR X f r) (hi:∀ x y H Q,r' x y H Q->r x y H Q):OpR X f r' :=
 fun pins s σ H x y v u Q I rx ry q=>h pins s σ H x y v u Q I rx ry (hi x y H Q q)
def Gh (K:PySem.W.Frag):R2:=fun x y H Q=>∃ l b xs zs,x=.ref l/\y=.ref b/\SqL K H l xs/\SqL K H b zs/\xs.length+zs.length<=sizeLine/\∀ p,H p=none->Q (.ref p) (upd H p (.lst (xs++zs)))
theorem Az:OpR X (binaryOp .Add) (Gh X.K):=by
 intro pins s σ H x y v u Q I rx ry h
 obtain ⟨l,b,xs,zs,rfl,rfl,hH,hB,hz,q⟩:=h
 cases rx
 cases ry
 obtain ⟨its,r,pl,z⟩:=I.list hH
 obtain ⟨its2,r2,pl2,z2⟩:=I.list hB
 have hl:=r.length
 have hl2:=r2.length
 obtain ⟨⟨cls,dd,data,sl⟩,ho,hc,n,hd⟩:=id pl.isList
 obtain ⟨⟨cls2,dd2,data2,sl2⟩,ho2,hc2,n2,hd2⟩:=id pl2.isList
 simp only at hc hd hc2 hd2
 subst hc hd hc2 hd2
 have ea:its.toArray++its2.toArray=(its++its2).toArray:=by simp
 refine concat_meets ⟨_,ho,rfl⟩ ⟨_,ho2,rfl⟩ noFill_list_add seq_list_add PySem.F.slot_list_add PySem.F.entry_list_add (PySem.F.args_list_add_2 _ _) (list_addW l b its.toArray its2.toArray n n2 dd dd2 sl sl2 (by simp only [xan]; lia)) ⟨ho,ho2,?_⟩
 rw [ea]
 exact ⟨.ref _,_,I.lnew (t':=s.toks) (r.append r2) (by rw [xaD]; lia),rfl,q _ I.fresh⟩
def zf (K:PySem.W.Frag):R2:=fun x y H Q=>match x,y with
 | .int i,.int j=>Q (.int (i+j)) H
 | .str i,.str j=>i.length+j.length<=sizeLine/\Q (.str (i++j)) H
 | .ref a,.ref b=>∃ xs zs,SqL K H a xs/\SqL K H b zs/\xs.length+zs.length<=sizeLine/\∀ p,H p=none->Q (.ref p) (upd H p (.lst (xs++zs)))
 | _,_=>False
theorem Bc:OpR X (binaryOp .Add) (zf X.K):=by
 refine (op_add.or (op_add_str.or Az)).imp fun x y H Q h=>?_
 unfold zf at h
 split at h
 ·exact .inl ⟨_,_,rfl,rfl,h⟩
 ·exact .inr (.inl ⟨_,_,rfl,rfl,h.1,h.2⟩)
 ·obtain ⟨xs,zs,h1,h2,h3,h4⟩:=h
  exact .inr (.inr ⟨_,_,xs,zs,rfl,rfl,h1,h2,h3,h4⟩)
 ·exact h.elim
def Aq:R2:=fun x y H Q=>match x,y with
 | .int i,.int j=>CMul i j/\Q (.int (i * j)) H
 | _,_=>False
theorem Bt:OpR X (binaryOp .Mult) Aq:=op_mul.imp fun x y H Q h=>by
 unfold Aq at h
 split at h
 ·exact ⟨_,_,rfl,rfl,h.1,h.2⟩
 ·exact h.elim
def BJ:R2:=fun x y H Q=>match x,y with
 | .int i,.int j=>(0<j/\j<1073741824)/\Q (.int (i / j)) H
 | _,_=>False
theorem Bb:OpR X (binaryOp .FloorDiv) BJ:=op_fdiv.imp fun x y H Q h=>by
 unfold BJ at h
 split at h
 ·exact ⟨_,_,rfl,rfl,h.1,h.2⟩
 ·exact h.elim
def Br:R2:=fun x y H Q=>match x,y with
 | .int i,.int j=>0<j/\Q (.int (i % j)) H
 | _,_=>False
theorem Ce:OpR X (binaryOp .Mod) Br:=op_mod.imp fun x y H Q h=>by
 unfold Br at h
 split at h
 ·exact ⟨_,_,rfl,rfl,h.1,h.2⟩
 ·exact h.elim
def ltS (x y:Str):Bool:=decide (x.cps.toList<y.cps.toList)
def rLtU:R2:=fun x y H Q=>match x,y with
 | .int i,.int j=>Q (.bl (decide (i<j))) H
 | .str i,.str j=>Q (.bl (ltS i j)) H
 | _,_=>False
theorem Dv:OpR X (compareOp .Lt) rLtU:=(op_lt.or op_lt_str).imp fun x y H Q h=>by
 unfold rLtU at h
 split at h
 ·exact .inl ⟨_,_,rfl,rfl,h⟩
 ·exact .inr ⟨_,_,rfl,rfl,h⟩
 ·exact h.elim
theorem vJ:OpR X (compareOp .LtE) (fun x y H Q=>∃ i j,x=.str i/\y=.str j/\Q (.bl (!ltS j i)) H):=by
 intro pins s σ H x y v u Q I rx ry h
 obtain ⟨i,j,rfl,rfl,q⟩:=h
 obtain ⟨t,rfl⟩:=rx
 obtain ⟨t',rfl⟩:=ry
 exact PySem.P.le_str ⟨.bl _,H,I,rfl,q⟩
def rLeU:R2:=fun x y H Q=>match x,y with
 | .int i,.int j=>Q (.bl (decide (i<=j))) H
 | .str i,.str j=>Q (.bl (!ltS j i)) H
 | _,_=>False
theorem xH:OpR X (compareOp .LtE) rLeU:=(op_le.or vJ).imp fun x y H Q h=>by
 unfold rLeU at h
 split at h
 ·exact .inl ⟨_,_,rfl,rfl,h⟩
 ·exact .inr ⟨_,_,rfl,rfl,h⟩
 ·exact h.elim
def rGtU:R2:=fun x y H Q=>match x,y with
 | .int i,.int j=>Q (.bl (decide (j<i))) H
 | _,_=>False
theorem wZ:OpR X (compareOp .Gt) rGtU:=op_gt.imp fun x y H Q h=>by
 unfold rGtU at h
 split at h
 ·exact ⟨_,_,rfl,rfl,h⟩
 ·exact h.elim
theorem Inv.rd (I:Inv X pins σ H s) (e:Rd H a u):ObjOk X.prog X.w H s.heap a u:=e.elim (I.hok a _) fun ⟨o,e⟩=>(show ObjOk X.prog X.w H s.heap a (.frz o u) from I.hok a _ e).2
def rLen (K:PySem.W.Frag):List V->Hp->VK->Prop:=fun xs H Q=>match xs with
 | [.str y]=>y.length<=sizeLine/\Q (.int y.length) H
 | [.ref p]=>(∃ ys,SqL K H p ys/\Q (.int ys.length) H)\/(∃ ys,SqT K H p ys/\Q (.int ys.length) H)\/∃ kvs,Rd H p (.dK kvs)/\Q (.int kvs.length) H
 | _=>False
theorem xj:CallR X (.builtin "len") (rLen X.K):=by
 intro pins s σ H xs us Q I r h
 unfold rLen at h
 split at h
 ·exact call_len pins s σ H _ us Q I r ⟨_,_,rfl,⟨h.1,rfl⟩,h.2⟩
 ·rcases h with ⟨ys,h1,h2⟩ | ⟨ys,h1,h2⟩ | ⟨kvs,h1,h2⟩
  ·exact call_len pins s σ H _ us Q I r ⟨_,_,rfl,.inl ⟨ys,h1,rfl⟩,h2⟩
  ·exact call_len pins s σ H _ us Q I r ⟨_,_,rfl,.inr ⟨ys,h1,rfl⟩,h2⟩
  ·obtain ⟨u,rfl,ru⟩:=vals1 r
   cases ru
   exact d_len I h1 fun t s' I'=>⟨.int kvs.length,H,I',⟨t,rfl⟩,h2⟩
 ·exact h.elim
def rIxU (K:PySem.W.Frag):R2:=fun x y H Q=>match x,y with
 | .ref p,.int i=>(∃ xs v,SqL K H p xs/\atI xs i=some v/\Q v H)\/∃ xs v,SqT K H p xs/\atI xs i=some v/\Q v H
 | .str z,.int i=>z.length<=sizeLine/\∃ c,atI z.cps.toList i=some c/\Q (.str ⟨#[c]⟩) H
 | _,_=>False
theorem Dw:IxR X (rIxU X.K):=by
 intro value slice pins s σ H x y v u Q I rx ry h hs
 refine ix_seq value slice pins s σ H x y v u Q I rx ry ?_ hs
 unfold rIxU at h
 split at h
 ·rcases h with ⟨xs,w,h1,h2,h3⟩ | ⟨xs,w,h1,h2,h3⟩
  ·exact .inl ⟨_,xs,_,w,rfl,rfl,h1,h2,h3⟩
  ·exact .inr (.inl ⟨_,xs,_,w,rfl,rfl,h1,h2,h3⟩)
 ·obtain ⟨h1,c,h2,h3⟩:=h
  exact .inr (.inr ⟨_,_,c,rfl,rfl,h1,h2,h3⟩)
 ·exact h.elim
def cutS (z:Str) (lo hi:Option Int):Str:=⟨((z.cps.toList.drop (HT.sIx z.length 0 lo)).take (HT.sIx z.length z.length hi - HT.sIx z.length 0 lo)).toArray⟩
end
theorem x_ (l:List Nat) (lo hi:Option Int) (h:((l.drop (HT.sIx l.length 0 lo)).take (HT.sIx l.length l.length hi - HT.sIx l.length 0 lo)).length=l.length) :
  (l.drop (HT.sIx l.length 0 lo)).take (HT.sIx l.length l.length hi - HT.sIx l.length 0 lo)=l:=by
 generalize HT.sIx l.length 0 lo=a at *
 generalize HT.sIx l.length l.length hi=b at *
 by_cases hl:l.length=0
 ·have:l=[]:=xbO.mp hl
  subst this; simp
 ·rw [xat,xa4] at h
  have h1:a=0:=by lia
  subst h1
  rw [List.drop_zero]
  exact xbg (by lia)
theorem vP (lo hi:Option Int) (n:Nat):Builtin.Str.strSliceIndices lo hi 1 n=(List.range (HT.sIx n n hi - HT.sIx n 0 lo)).map (HT.sIx n 0 lo + ·):=by
 unfold Builtin.Str.strSliceIndices
 have e1:(match lo with | none=>(0:Int) | some i=>max 0 (min (if i<0 then i+n else i) n))=((HT.sIx n 0 lo:Nat):Int):=by
  cases lo with
  | none=>simp [HT.sIx]
  | some i =>
   simp only [HT.sIx]
   by_cases h:i<0
   ·simp only [h,if_true] <;> lia
   ·simp only [h,if_false] <;> lia
 have e2:(match hi with | none=>(n:Int) | some i=>max 0 (min (if i<0 then i+n else i) n))=((HT.sIx n n hi:Nat):Int):=by
  cases hi with
  | none=>simp [HT.sIx]
  | some i =>
   simp only [HT.sIx]
   by_cases h:i<0
   ·simp only [h,if_true] <;> lia
   ·simp only [h,if_false] <;> lia
 rw [<- sliceRange_one,<- e1,<- e2]
 simp only [show (1:Int)>0 by decide,if_true]
 cases lo <;> cases hi <;> rfl
section
variable {X:Cx}
theorem part_of (h:IsPart v o):∃ p:Option (Int × Tok),v=partValue p/\p.map (·.1)=o:=by
 cases h with
 | none=>exact ⟨none,rfl,rfl⟩
 | int i t=>exact ⟨some (i,t),rfl,rfl⟩
def rSlS (K:PySem.W.Frag):V->Option Int->Option Int->Hp->VK->Prop:=fun x lo hi H Q=>match x with
 | .str z=>z.length<=sizeLine/\Q (.str (cutS z lo hi)) H
 | .ref a=>∃ xs,SqL K H a xs/\∀ p,H p=none->Q (.ref p) (upd H p (.lst (cutV xs lo hi)))
 | _=>False
theorem Eu:SlR X (fun x lo hi H Q=>∃ z,x=.str z/\z.length<=sizeLine/\Q (.str (cutS z lo hi)) H):=by
 intro pins s σ H x v vl vu lo hi sl Q I rx hs pl pu h
 obtain ⟨z,rfl,hz,q⟩:=h
 obtain ⟨t,rfl⟩:=rx
 obtain ⟨p1,rfl,e1⟩:=part_of pl
 obtain ⟨p2,rfl,e2⟩:=part_of pu
 refine ⟨"str",_,F.slot_str_getitem.lookup,typeIs_str s z t,wpAny_getItem_str_slice (l:=p1) (u:=p2) (st:=none) hs rfl ?_⟩
 have hl:z.cps.toList.length=z.length:=by simp [Str.length]
 have ep:slicePicked z p1 p2 none=(List.range (HT.sIx z.length z.length hi - HT.sIx z.length 0 lo)).map (HT.sIx z.length 0 lo + ·):=by
  unfold slicePicked
  rw [e1,e2]
  exact vP lo hi z.length
 have ef:(slicePicked z p1 p2 none).filterMap (z.cps[·]?)=(z.cps.toList.drop (HT.sIx z.length 0 lo)).take (HT.sIx z.length z.length hi - HT.sIx z.length 0 lo):=by
  rw [ep]; exact pick_run z.cps _ _
 unfold sliceMade
 split
 ·rename_i hc
  have hw:(slicePicked z p1 p2 none).length=z.length:=by simpa using hc
  have:cutS z lo hi=z:=by
   unfold cutS
   have e3:((z.cps.toList.drop (HT.sIx z.cps.toList.length 0 lo)).take (HT.sIx z.cps.toList.length z.cps.toList.length hi - HT.sIx z.cps.toList.length 0 lo)).length=z.cps.toList.length:=by
    rw [hl,xat,xa4,hl]
    rw [ep,xac,xbq] at hw
    have h0:HT.sIx z.length 0 lo<=z.length:=by
     cases lo with
     | none=>simp [HT.sIx]
     | some i=>simp only [HT.sIx]; split <;> lia
    have h1:HT.sIx z.length z.length hi<=z.length:=by
     cases hi with
     | none=>simp [HT.sIx]
     | some i=>simp only [HT.sIx]; split <;> lia
    lia
   have:=x_ z.cps.toList lo hi e3
   rw [hl] at this
   rw [this]
  rw [this] at q
  exact ⟨.str z,H,I,⟨t,rfl⟩,q⟩
 ·rw [ef]
  exact ⟨by
   show (cutS z lo hi).length<=sizeLine
   unfold cutS Str.length
   simp only [xan,xat,xa4,hl]
   have:z.cps.toList.length=z.length:=hl
   lia,⟨.str (cutS z lo hi),H,I.tok _,⟨_,rfl⟩,q⟩⟩
theorem Dn:SlR X (rSlS X.K):=by
 intro pins s σ H x v vl vu lo hi sl Q I rx hs pl pu h
 unfold rSlS at h
 split at h
 ·exact Eu pins s σ H _ v vl vu lo hi sl Q I rx hs pl pu ⟨_,rfl,h.1,h.2⟩
 ·obtain ⟨xs,h1,h2⟩:=h
  exact sl_list pins s σ H _ v vl vu lo hi sl Q I rx hs pl pu ⟨_,xs,rfl,h1,h2⟩
 ·exact h.elim
def Its (z:Str):It:=⟨fun i _=>i<z.cps.size,fun i H x H'=>H'=H/\∃ c,z.cps[i]? = some c/\x=.str ⟨#[c]⟩,fun i _=>z.cps.size<=i⟩
theorem uh {P:Program} {K:PySem.W.Frag} (hty:ty = "str_ascii_iterator"\/ty = "str_iterator") :
  Turn P w K tg (Its z) [it] it (fun i h=>h.IsStrIter it ty z t i/\i<=z.cps.size) where
 mem:=by simp
 obj:=fun i h st b hb=>by
  have e:b=it:=by simpa using hb
  subst e
  obtain ⟨⟨o,e,c,d⟩,_⟩:=st
  exact ⟨o,e,fun v z=>by rw [d] at z; cases z⟩
 keep:=fun i h h' st k=>let ⟨⟨o,e,c,d⟩,l⟩:=st; ⟨⟨o,k it (by simp) o e,c,d⟩,l⟩
 item:=by
  intro X hP hw hK hc i pins s σ H E I hf st hg
  subst hP hw hK
  obtain ⟨f0,f1,f2,f3,f4,f5⟩:=hf it (by simp)
  obtain ⟨st,_⟩:=st
  have hg:i<z.cps.size:=hg
  have W:Walks X.prog X.w X.A it [it] [it] z.cps.size (SignAt z) (fun i h=>h.IsStrIter it ty z t i):=by
   rcases hty with rfl | rfl
   ·exact Walks.strAscii (I.ok.hd hc) it z t
   ·exact Walks.strWide (I.ok.hd hc) it z t
  refine W.item i s _ _ hg st fun v h' tk hv st' kk=>?_
  obtain ⟨c,u,ec,rfl⟩:=hv
  have I1:Inv X pins σ H { s with heap:=h',toks:=tk }:=I.turned (fun b o hb e=>kk b o (by simpa using hb) e) f0 f1 f3 f4 f5
  obtain ⟨o,e,c',d⟩:=id st'
  exact ⟨_,rfl,go_of (s:={ s with heap:=h',toks:=tk }) e c' d (by rcases hty with rfl | rfl <;> decide) ⟨.str ⟨#[c]⟩,H,I1,⟨u,rfl⟩,⟨rfl,c,ec,rfl⟩,⟨st',hg⟩,fun b hb=>(hf b hb).1⟩⟩
 done:=by
  intro X hP hw hK hc i pins s σ H E I hf st hg
  subst hP hw hK
  obtain ⟨f0,f1,f2,f3,f4,f5⟩:=hf it (by simp)
  obtain ⟨st,hle⟩:=st
  have hg:z.cps.size<=i:=hg
  have e:i=z.cps.size:=xb7 hle hg
  subst e
  have W:Walks X.prog X.w X.A it [it] [it] z.cps.size (SignAt z) (fun i h=>h.IsStrIter it ty z t i):=by
   rcases hty with rfl | rfl
   ·exact Walks.strAscii (I.ok.hd hc) it z t
   ·exact Walks.strWide (I.ok.hd hc) it z t
  exact W.done s _ _ st fun h' tk kk=>⟨rfl,I.turned (fun b o hb e=>kk b o (by simpa using hb) e) f0 f1 f3 f4 f5⟩
 self:=fun A i s Q E st h=>by
  rcases hty with rfl | rfl
  ·exact wpAny_pyIter_striter_ascii st.1 h
  ·exact wpAny_pyIter_striter_wide st.1 h
theorem C_ (hl:PE X l tl):PI X tg l (fun σ H R=>tl σ H fun x H1=>∃ z,x=.str z/\R (Its z) H1):=by
 intro pins s σ H R I h
 refine thn (hl pins s σ H _ I h) fun v s1 hx5=>L2.ex2 hx5 fun x H1 I1 r1 q1=>?_
 obtain ⟨z,rfl,q⟩:=q1
 obtain ⟨t,rfl⟩:=r1
 have fp:∀ b∈[s1.heap.objs.size],FpOk X pins H1 b:=fun b hb=>by
  have e:b=s1.heap.objs.size:=by simpa using hb
  subst e
  exact I1.fpOk (xae _) (I1.hok.fresh (xae _))
 cases ha:z.cps.all (· < 128)
 ·exact wpAny_pyIter_wide ha ⟨s1.heap.objs.size,[s1.heap.objs.size],_,_,H1,rfl,I1.kept (t':=s1.toks) fun b o e=>xad _ e,uh (.inr rfl),⟨⟨_,xao _ rfl,rfl,rfl⟩,xaq _⟩,fp,q⟩
 ·exact wpAny_pyIter_ascii ha ⟨s1.heap.objs.size,[s1.heap.objs.size],_,_,H1,rfl,I1.kept (t':=s1.toks) fun b o e=>xad _ e,uh (.inl rfl),⟨⟨_,xao _ rfl,rfl,rfl⟩,xaq _⟩,fp,q⟩
end
structure iZ (J:It) (its:List V) (cond:Hp->Prop):Prop where
 go:∀ i H,cond H->i<its.length->J.go i H
 yld:∀ i H x H',cond H->i<its.length->J.yld i H x H'->H'=H/\its[i]? = some x
 stop:∀ H,cond H->J.stop its.length H
def sgnV (z:Str):List V:=z.cps.toList.map fun c=>.str ⟨#[c]⟩
theorem Ca (z:Str):iZ (Its z) (sgnV z) (fun _=>True) where
 go:=fun i H _ h=>by simpa [sgnV,Its] using h
 yld:=fun i H x H' _ _ h=>by
  obtain ⟨rfl,c,e,rfl⟩:=h
  refine ⟨rfl,?_⟩
  unfold sgnV
  rw [xaR,xaz,e]
  rfl
 stop:=fun H _=>by simp [sgnV,Its]
theorem zj (K:PySem.W.Frag) (a:Addr) (xs:List V):iZ (Itl K a) xs (fun H=>SqL K H a xs) where
 go:=fun i H h hi=>⟨xs,xs[i],h,by simp [hi]⟩
 yld:=fun i H x H' h _ y=>⟨y.1,y.2 xs h⟩
 stop:=fun H h=>⟨xs,h,xae _⟩
theorem BK (K:PySem.W.Frag) (a:Addr) (xs:List V):iZ (Itt K a) xs (fun H=>SqT K H a xs) where
 go:=fun i H h hi=>⟨xs,xs[i],h,by simp [hi]⟩
 yld:=fun i H x H' h _ y=>⟨y.1,y.2 xs h⟩
 stop:=fun H h=>⟨xs,h,xae _⟩
def wW (lo:Int) (n:Nat):List V:=(List.range n).map fun i=>.int (lo+(i:Nat))
theorem wF (lo:Int) (n:Nat):iZ (Itr lo n) (wW lo n) (fun _=>True) where
 go:=fun i H _ h=>by simpa [wW,Itr] using h
 yld:=fun i H x H' _ hi h=>by
  have hi:i<n:=by simpa [wW] using hi
  obtain ⟨rfl,rfl⟩:=h
  refine ⟨rfl,?_⟩
  simp [wW,hi]
 stop:=fun H _=>by simp [wW,Itr]
def ForW (J:It) (g:TG) (tb:TS) (D:Ends) (σ:St) (H:Hp):Prop :=
 ∃ W:Nat->Nat->St->Hp->Prop,(∃ m,W 0 m σ H)/\∀ i m σ H,W i m σ H ->
   (J.stop i H/\D.nx σ H)\/(J.go i H/\∃ N:St->Hp->Prop,(∀ σ' H',N σ' H'->∃ m',m'<m/\W (i+1) m' σ' H')/\∀ x H',J.yld i H x H'->g x σ H' fun σ2 H2=>tb { D with nx:=N,ct:=N,bk:=D.nx } σ2 H2)
theorem Bu (wi:TI) (g:TG) (tb:TS) (D:Ends) (σ:St) (H:Hp):tFor wi g tb D σ H=wi σ H fun J H1=>ForW J g tb D σ H1:=rfl
def Gy (J:It) (g:TG) (tc:TT) (te:TE) (τ0:St) (H1:Hp) (D:Addr) (Q:VK):Prop :=
 ∃ W:Nat->Nat->St->Hp->Prop,(∃ m,W 0 m τ0 (upd H1 D (.lst [])))/\∀ i m τ H,W i m τ H ->
  (J.stop i H/\Q (.ref D) H)\/(J.go i H/\∃ (N1:St->V->Hp->Prop) (N2:St->Hp->Prop),
   (∀ τ2 v H4,N1 τ2 v H4->∃ ys m',H4 D=some (.lst ys)/\ys.length<sizeLine/\m'<m/\W (i+1) m' τ2 (upd H4 D (.lst (ys++[v])))) /\
   (∀ τ2 H3,N2 τ2 H3->∃ m',m'<m/\W (i+1) m' τ2 H3) /\
   ∀ x H',J.yld i H x H'->g x τ H' fun τ2 H2=>tc τ2 H2 fun b H3=>if b=true then te τ2 H3 (N1 τ2) else N2 τ2 H3)
theorem yq (wi:TI) (g:TG) (tc:TT) (te:TE) (tn:Nat) (ix:List Nat) (σ:St) (H:Hp) (Q:VK):vR wi g tc te tn ix σ H Q=wi σ H fun J H1=>∀ D,H1 D=none->Gy J g tc te (oF tn ix σ) H1 D Q:=rfl
mutual
inductive Rep (K:PySem.W.Frag) (H:Hp):PyData->V->Prop
 | none:Rep K H .none .non
 | bool (b:Bool):Rep K H (.bool b) (.bl b)
 | int (i:Int):Rep K H (.int i) (.int i)
 | str (x:Str):Rep K H (.str x) (.str x)
 | list {a:Addr} {vs:List V} {ds:List PyData}:SqL K H a vs->Reps K H ds vs->Rep K H (.list ds) (.ref a)
 | tuple {a:Addr} {vs:List V} {ds:List PyData}:SqT K H a vs->Reps K H ds vs->Rep K H (.tuple ds) (.ref a)
inductive Reps (K:PySem.W.Frag) (H:Hp):List PyData->List V->Prop
 | nil:Reps K H [] []
 | cons {d:PyData} {v:V} {ds:List PyData} {vs:List V}:Rep K H d v->Reps K H ds vs->Reps K H (d :: ds) (v :: vs)
end
section
variable {X:Cx} {pins:List (Addr × Obj)} {σ:St} {H:Hp} {s:Shared}
mutual
theorem Rep.reads (I:Inv X pins σ H s):∀ {d:PyData} {v:V} {u:Value},Rep X.K H d v->RelV v u->∃ as,Reads s.heap u d as
 | _,_,_,.none,r=>by cases (show _=Value.none from r); exact ⟨_,.none⟩
 | _,_,_,.bool b,r=>by cases (show _=Value.bool b from r); exact ⟨_,.bool b⟩
 | _,_,_,.int i,r=>by obtain ⟨t,e⟩:=r; subst e; exact ⟨_,.int i t⟩
 | _,_,_,.str x,r=>by obtain ⟨t,e⟩:=r; subst e; exact ⟨_,.str x t⟩
 | _,_,_,.list h hs,r=>by
  cases r
  obtain ⟨its,rv,pl,_⟩:=I.list h
  obtain ⟨o,e,c,n,d⟩:=pl.isList
  obtain ⟨as,q⟩:=Reps.reads I hs rv
  exact ⟨_,.list e c d q⟩
 | _,_,_,.tuple h hs,r=>by
  cases r
  obtain ⟨its,rv,⟨o,e,c,n,d⟩,_⟩:=I.tuple h
  obtain ⟨as,q⟩:=Reps.reads I hs rv
  exact ⟨_,.tuple e c d q⟩
theorem Reps.reads (I:Inv X pins σ H s):∀ {ds:List PyData} {vs:List V} {us:List Value},Reps X.K H ds vs->Vals vs us->∃ as,ReadsAll s.heap us ds as
 | _,_,_,.nil,.nil=>⟨_,.nil⟩
 | _,_,_,.cons h hs,.cons r rs=>by
  obtain ⟨as,q⟩:=Rep.reads I h r
  obtain ⟨bs,q'⟩:=Reps.reads I hs rs
  exact ⟨_,.cons q q'⟩
end
def rEqD (K:PySem.W.Frag):R2:=fun x y H Q=>∃ d e,Rep K H d x/\Rep K H e y/\d.canLay0=true/\e.canLay0=true/\d.depth<=60/\Q (.bl (PyData.eqv d e)) H
def rNeD (K:PySem.W.Frag):R2:=fun x y H Q=>∃ d e,Rep K H d x/\Rep K H e y/\d.canLay0=true/\e.canLay0=true/\d.depth<=60/\Q (.bl (!PyData.eqv d e)) H
theorem DQ (hu:X.A.units+64<cLine):OpR X (compareOp .Eq) (rEqD X.K):=by
 intro pins s σ H x y v u Q I rx ry h
 obtain ⟨d,e,h1,h2,h3,h4,h5,q⟩:=h
 obtain ⟨as,r1⟩:=h1.reads I rx
 obtain ⟨bs,r2⟩:=h2.reads I ry
 exact PySem.SeqAt.rcAt_reads r1 r2 h3 h4 (by lia) X.prog X.w X.xe _ ⟨.bl _,H,I,rfl,q⟩
theorem DW (hu:X.A.units+64<cLine):OpR X (compareOp .NotEq) (rNeD X.K):=by
 intro pins s σ H x y v u Q I rx ry h
 obtain ⟨d,e,h1,h2,h3,h4,h5,q⟩:=h
 obtain ⟨as,r1⟩:=h1.reads I rx
 obtain ⟨bs,r2⟩:=h2.reads I ry
 exact PySem.SeqAt.rcNeAt_reads r1 r2 h3 h4 (by lia) X.prog X.w X.xe _ ⟨.bl _,H,I,rfl,q⟩
def rEqU (K:PySem.W.Frag):R2:=fun x y H Q=>match x,y with
 | .int i,.int j=>Q (.bl (decide (i=j))) H
 | .str i,.str j=>Q (.bl (decide (i=j))) H
 | .bl i,.bl j=>Q (.bl (decide (i=j))) H
 | _,_=>rEqD K x y H Q
theorem Ej (hu:X.A.units+64<cLine):OpR X (compareOp .Eq) (rEqU X.K):=(op_eq.or (DQ hu)).imp fun x y H Q h=>by
 unfold rEqU at h
 split at h
 ·refine .inl ⟨rfl,?_⟩; simpa using h
 ·refine .inl ⟨rfl,?_⟩; simpa using h
 ·refine .inl ⟨rfl,?_⟩; simpa using h
 ·exact .inr h
def rNeU (K:PySem.W.Frag):R2:=fun x y H Q=>match x,y with
 | .int i,.int j=>Q (.bl (!decide (i=j))) H
 | .str i,.str j=>Q (.bl (!decide (i=j))) H
 | .bl i,.bl j=>Q (.bl (!decide (i=j))) H
 | _,_=>rNeD K x y H Q
theorem En (hu:X.A.units+64<cLine):OpR X (compareOp .NotEq) (rNeU X.K):=(op_ne.or (DW hu)).imp fun x y H Q h=>by
 unfold rNeU at h
 split at h
 ·refine .inl ⟨rfl,?_⟩; simpa using h
 ·refine .inl ⟨rfl,?_⟩; simpa using h
 ·refine .inl ⟨rfl,?_⟩; simpa using h
 ·exact .inr h
def rAll (K:PySem.W.Frag):List V->Hp->VK->Prop:=fun xs H Q=>match xs with
 | [.ref a]=>∃ bs:List Bool,SqL K H a (bs.map V.bl)/\Q (.bl (bs.all id)) H
 | _=>False
theorem xF (hc:X.calm=true):CallR X (.builtin "all") (rAll X.K):=by
 intro pins s σ H xs us Q I r h
 unfold rAll at h
 split at h
 ·rename_i a
  obtain ⟨bs,e,q⟩:=h
  obtain ⟨u,rfl,ru⟩:=Vals.one r
  cases ru
  obtain ⟨its,rv,pl,hz⟩:=I.list e
  have hl:s.heap.IsList a its.toArray:=pl.isList
  obtain ⟨o,ho,hoc,n,hod⟩:=id hl
  have hlen:=rv.length
  rw [xac] at hlen
  refine call_all_walk (wpAny_pyIter_list hl ?_)
  have hne:a≠s.heap.objs.size:=xar (xal ho)
  have hhd:X.A.in1.handled=none:=I.ok.hd hc
  refine ⟨s.heap.objs.size,_,_,_,_,_,fun i=>bs.getD i true,rfl,Walks.list hhd s.heap.objs.size a hne its.toArray,⟨⟨_,xao _ rfl,rfl,rfl⟩,⟨_,xad _ ho,hoc,n,hod⟩⟩,?_,fun h' tk hk=>?_⟩
  ·intro i v s' Q' E' hv hq
   have hv:its.toArray[i]? = some v:=hv
   have hv':its[i]? = some v:=by simpa using hv
   have hi:i<bs.length:=by
    have:=(xay.mp hv').1
    lia
   obtain ⟨w',e1,r1⟩:=rv.get (i:=i) (x:=V.bl bs[i]) (by simp [hi])
   rw [hv'] at e1
   cases e1
   cases (show v=Value.bool bs[i] from r1)
   have e2:bs.getD i true=bs[i]:=by simp [List.getD,hi]
   have hq:Q' (bs.getD i true) s':=hq
   rw [e2] at hq
   exact wpAny_truthy_bool hq
  ·have e3:((List.range its.toArray.size).all fun i=>bs.getD i true)=bs.all id:=by
    rw [xan,<- hlen]
    apply xbp.mpr
    simp only [xbz,xaN,id]
    constructor
    ·intro h b hb
     obtain ⟨i,hi,rfl⟩:=List.mem_iff_getElem.mp hb
     have:=h i hi
     simpa [List.getD,hi] using this
    ·intro h i hi
     have:=h bs[i] (xce hi)
     simpa [List.getD,hi] using this
   rw [e3]
   refine ⟨.bl (bs.all id),H,?_,rfl,q⟩
   exact I.kept (t':=tk) fun b o e=>hk b o (by simp; exact xar (xal e)) (xad _ e)
 ·exact h.elim
end
end L2
namespace L2
open PySem PySem.Spec PyProof.Rows
theorem Ey:(2:Nat)<=sizeLine:=by rw [sizeLine_eq]; decide
def Itz (K:PySem.W.Frag) (a b:Addr):It :=
 ⟨fun i H=>∃ xs ys x y,SqL K H a xs/\SqL K H b ys/\xs[i]? = some x/\ys[i]? = some y,fun i H x H'=>∃ p u v,x=.ref p/\H p=none/\H'=upd H p (.tup [u,v])/\(∀ xs,SqL K H a xs->xs[i]? = some u)/\∀ ys,SqL K H b ys->ys[i]? = some v,
  fun i H=>∃ xs ys,SqL K H a xs/\SqL K H b ys/\(xs.length<=i\/ys.length<=i)⟩
def rlN (sc:Scope) (names:List (Str × NameKind)):List (Str × NameKind):=names.map fun y=>if (y.2 == NameKind.free && sc.kind == .function && sc.names.lookup y.1 == some .cell)=true then (y.1,NameKind.cell) else (y.1,y.2)
def vis2 (o:Option NameKind):Bool:=o == some .cell || o == some .free
def Ef (sc scope:Scope) (N cn:List Str) (ix:List Nat):Bool :=
 scope.kind == .function && scope.names.all (fun y=>y.2 != .cell) && scope.names.all (fun y=>y.2 != .free || vis2 (sc.names.lookup y.1)) && scope.names.all (fun y=>y.2 != .local || scope.names.lookup y.1 == some .local) &&
 ix.length == cn.length && (List.range ix.length).all (fun k=>match ix[k]?,cn[k]? with
  | some j,some y=>N[j]? == some y && vis2 (sc.names.lookup y) && scope.names.contains (y,NameKind.free) && vis2 ((rlN sc scope.names).lookup y)
  | _,_=>false) &&
 (rlN sc scope.names).all (fun y=>!(y.2 == .cell || y.2 == .free) || scope.names.contains (y.1,NameKind.free))
theorem rJ (h:vis2 o=true):o=some .cell\/o=some .free:=by
 unfold vis2 at h
 simpa using h
theorem cH.of {X:Cx} (hsc:X.env.scope=sc) (hN:X.N=N) (h:Ef sc scope N cn ix=true):cH X scope tn cn ix:=by
 unfold Ef at h
 simp only [xaC] at h
 obtain ⟨⟨⟨⟨⟨⟨h1,h2⟩,h3⟩,h4⟩,h5⟩,h6⟩,h7⟩:=h
 rw [xbz] at h2 h3 h4 h6 h7
 have erl:(relabel scope X.env).names=rlN sc scope.names:=by
  unfold relabel rlN
  rw [<- hsc]
  rfl
 refine ⟨by simpa using h1,fun y hy=>by simpa using h2 y hy,fun y hy hk=>?_,fun y hy hk=>?_,by simpa using h5,fun k j hk=>?_,fun x hx=>?_⟩
 ·have:=h3 y hy
  rw [hk] at this
  rw [hsc]
  exact rJ (by simpa using this)
 ·have:=h4 y hy
  rw [hk] at this
  simpa using this
 ·have hk':k<ix.length:=(xay.mp hk).1
  have:=h6 k (xaN.mpr hk')
  rw [hk] at this
  cases e:cn[k]? with
  | none=>rw [e] at this; cases this
  | some y =>
   rw [e] at this
   simp only [xaC] at this
   obtain ⟨⟨⟨a1,a2⟩,a3⟩,a4⟩:=this
   refine ⟨y,rfl,by rw [hN]; simpa using a1,by rw [hsc]; exact rJ a2,by simpa using a3,by rw [erl]; exact rJ a4⟩
 ·rw [erl] at hx
  have mem:∃ k,(x,k)∈rlN sc scope.names/\(k=.cell\/k=.free):=by
   rcases hx with hx | hx
   ·exact ⟨_,PySem.mem_of_lookup hx,.inl rfl⟩
   ·exact ⟨_,PySem.mem_of_lookup hx,.inr rfl⟩
  obtain ⟨k,hm,hk⟩:=mem
  have:=h7 _ hm
  rcases hk with rfl | rfl <;> simpa using this
structure Cal (P:Program) (w:World) (K:PySem.W.Frag) (mg:Str->Option Value) (base:Heap) (k:Nat) (x:Str) (ps:List Str) (sp:Sp):Prop where
 ex:∃ (g:Addr) (fd:FuncData),mg x=some (.ref g)/\PySem.W.keepIn K (.ref g)=true/\Binds K fd ps []/\FnOk P w K mg base CX0 k g fd ps sp
section
variable {X:Cx} {k:Nat} {x:Str} {ps:List Str} {sp:Sp} {p pos:Pos} {e:Expr} {es:List Expr} {t:TA}
theorem DR (C:Cal X.prog X.w X.K X.mg X.base k x ps sp) (hr:Room k X.A) (ha:PA X (e :: es) t) (hg:Gl X x:=by rfl) (hdb:(x == ("__debug__" : Str))=false:=by decide) (he:starEach (e :: es) X.env=(false,eval e X.env) :: starEach es X.env:=by rfl)
  (hpl:(backTo pos (starEach es X.env)).any (·.1)=false:=by rfl):PE X (.Call (.Name x p) (e :: es) [] pos) (tCall sp [] E0 t):=by
 obtain ⟨g,fd,hm,hk,hb,F⟩:=C.ex
 exact pe_call F hr hg hm hk hb .nil pass0 ha hdb he hpl
end
theorem Fun.cal {P:Program} {K:PySem.W.Frag} {st:Stmt} {ps:List Str} (F:Fun K x qual st f fd) (hm:mg x=some (.ref f))
  (G:FnOk P w K mg base CX0 k f fd ps sp)
  (h:∀ (kV doc pm:Value) (an:Option Addr) (cdv ct:Value) (us:List Value),us.length=ps.length->bindArgs (PySem.W.fnOf x qual (defArgs st) (defBody st) (defScope st) .none kV doc pm an cdv ct) ⟨us,[]⟩=pure (ps.zip us)):Cal P w K mg base k x ps sp :=
 ⟨f,fd,hm,F.kp,F.binds h,G⟩
def GlS (mg:Str->Option Value) (x:Str) (z:Str):Prop:=∃ t,mg x=some (.str z t)
def GlI (mg:Str->Option Value) (x:Str) (i:Int):Prop:=∃ t,mg x=some (.int i t)
theorem GQ {X:Cx} (h:GlS X.mg x z) (hg:Gl X x:=by rfl) (hd:(x == ("__debug__" : Str))=false:=by decide):PE X (.Name x pos) (tC (.str z)):=by
 obtain ⟨t,e⟩:=h
 exact pe_glob hg e ⟨t,rfl⟩ hd
theorem Gv {X:Cx} (h:GlI X.mg x i) (hg:Gl X x:=by rfl) (hd:(x == ("__debug__" : Str))=false:=by decide):PE X (.Name x pos) (tC (.int i)):=by
 obtain ⟨t,e⟩:=h
 exact pe_glob hg e ⟨t,rfl⟩ hd
theorem zX:bootBuiltins "str" = some (.type "str"):=by decide +kernel
theorem zV:bootBuiltins "int" = some (.type "int"):=by decide +kernel
theorem Bl:bootBuiltins "bool" = some (.type "bool"):=by decide +kernel
theorem pC:bootBuiltins "list" = some (.type "list"):=by decide +kernel
theorem tK:bootBuiltins "tuple" = some (.type "tuple"):=by decide +kernel
theorem pq:bootBuiltins "isinstance" = some (.builtin "isinstance"):=by decide +kernel
theorem Du:bootBuiltins "all" = some (.builtin "all"):=by decide +kernel
theorem fW:bootBuiltins "len" = some (.builtin "len"):=by decide +kernel
theorem sI {X:Cx} {T:String} (hm:X.mg x=none) (hv:bootBuiltins x=some (.type T)) (hg:Gl X x:=by rfl) (hn:x ≠ "__name__" := by decide) (hd:(x == ("__debug__" : Str))=false:=by decide):PE X (.Name x pos) (tC (.ty T)) :=
 pe_bltn hg hm hv rfl hn hd
def inS (i j:Str):Bool:=!(Builtin.Str.occurrences j i 0 j.length 1).isEmpty
theorem Bf (c:Nat) (j:Str):inS ⟨#[c]⟩ j=decide (c∈j.cps.toList):=PySem.StrLaws.found_one j c
def rInU (K:PySem.W.Frag) (neg:Bool):R2:=fun x y H Q=>match x,y with
 | .str i,.str j=>Q (.bl (if neg then !inS i j else inS i j)) H
 | _,.ref p=>(∃ o,DGet H p x o/\Q (.bl (if neg then !o.isSome else o.isSome)) H)\/rIn K neg x y H Q
 | _,_=>False
theorem Fx {X:Cx} (hu:X.A.units+64<cLine):OpR X (compareOp .In) (rInU X.K false):=by
 intro pins s σ H x y v u Q I rx ry h
 unfold rInU at h
 split at h
 ·exact op_in_str pins s σ H _ _ v u Q I rx ry ⟨_,_,rfl,rfl,h⟩
 ·rcases h with ⟨o,g,q⟩ | h
  ·cases ry
   exact d_in (by lia) I g rx fun s3 I3=>⟨.bl o.isSome,H,I3,rfl,q⟩
  ·exact op_in_seq pins s σ H _ _ v u Q I rx ry h
 ·exact h.elim
theorem wK {X:Cx} (hu:X.A.units+64<cLine):OpR X (compareOp .NotIn) (rInU X.K true):=by
 intro pins s σ H x y v u Q I rx ry h
 unfold rInU at h
 split at h
 ·exact op_notin_str pins s σ H _ _ v u Q I rx ry ⟨_,_,rfl,rfl,h⟩
 ·rcases h with ⟨o,g,q⟩ | h
  ·cases ry
   exact d_notIn (by lia) I g rx fun s3 I3=>⟨.bl (!o.isSome),H,I3,rfl,q⟩
  ·exact op_notIn_seq pins s σ H _ _ v u Q I rx ry h
 ·exact h.elim
theorem Same.upd (h:Same H H') (hp:H' p=none):Same H (upd H' p o):=fun b u e=>by
 have e':=h b u e
 rw [upd_ne (ne_of_none e' hp)]
 exact e'
theorem Same.lst {K:PySem.W.Frag} (e:Same H H') (h:SqL K H a xs):SqL K H' a xs:=e.seq h
theorem Same.tup {K:PySem.W.Frag} (e:Same H H') (h:SqT K H a xs):SqT K H' a xs:=by
 rcases h with (h | ⟨o,h⟩) | h
 ·exact .inl (.inl (e _ _ h))
 ·exact .inl (.inr ⟨o,e _ _ h⟩)
 ·exact .inr h
mutual
theorem Rep.same {K:PySem.W.Frag} (s:Same H H'):∀ {d:PyData} {v:V},Rep K H d v->Rep K H' d v
 | _,_,.none=>.none
 | _,_,.bool b=>.bool b
 | _,_,.int i=>.int i
 | _,_,.str x=>.str x
 | _,_,.list h hs=>.list (s.lst h) (Reps.same s hs)
 | _,_,.tuple h hs=>.tuple (s.tup h) (Reps.same s hs)
theorem Reps.same {K:PySem.W.Frag} (s:Same H H'):∀ {ds:List PyData} {vs:List V},Reps K H ds vs->Reps K H' ds vs
 | _,_,.nil=>.nil
 | _,_,.cons h hs=>.cons (Rep.same s h) (Reps.same s hs)
end
theorem SqL.new {K:PySem.W.Frag}:SqL K (upd H p (.lst xs)) p xs:=.inl (.inl upd_same)
theorem SqT.new {K:PySem.W.Frag}:SqT K (upd H p (.tup xs)) p xs:=.inl (.inl upd_same)
section
variable {X:Cx} {K:PySem.W.Frag}
theorem kEq (hu:X.A.units+64<cLine) (hK:X.K=K:=by rfl):OpR X (compareOp .Eq) (rEqU K):=by subst hK; exact Ej hu
theorem kNe (hu:X.A.units+64<cLine) (hK:X.K=K:=by rfl):OpR X (compareOp .NotEq) (rNeU K):=by subst hK; exact En hu
theorem kIn (hu:X.A.units+64<cLine) (hK:X.K=K:=by rfl):OpR X (compareOp .In) (rInU K false):=by subst hK; exact Fx hu
theorem yg (hu:X.A.units+64<cLine) (hK:X.K=K:=by rfl):OpR X (compareOp .NotIn) (rInU K true):=by subst hK; exact wK hu
theorem kAll (hc:X.calm=true:=by rfl) (hK:X.K=K:=by rfl):CallR X (.builtin "all") (rAll K):=by subst hK; exact xF hc
end
theorem J4 {α:Type} {a:α} {p:α->Prop}:(∃ v,a=v/\p v)↔p a:=⟨fun ⟨_,e,h⟩=>e ▸ h,fun h=>⟨a,rfl,h⟩⟩
end L2
namespace L2
open PySem PySem.Spec PyProof.Rows
abbrev Ents:=Array DictEntry
def RawD (h:Heap) (d:Addr) (es:Ents) (ep:Nat):Prop:=∃ o,h.get? d=some o/\o.ExactDict/\o.data=.dict es ep
theorem RawD.typ {s:Shared} {d:Addr} {es:Ents} {ep:Nat} (x:RawD s.heap d es ep):s.TypeIs (.ref d) "dict" := let ⟨o,e,c,_⟩:=x; ⟨o,e,c.1⟩
section
variable {prog:Program} {w:World} {A:Around} {E:Value->Shared->Prop} {s:Shared} {d it:Addr} {es:Ents} {ep i:Nat}
theorem zz {Q:Value->Shared->Prop} (lo:(d == sysModules)=false) (x:RawD s.heap d es ep)
  (q:Q (.ref s.heap.objs.size) { s with heap:=s.heap.push { cls:=.type "dict_keyiterator",data:=.fields #[.ref d,.int 0 0,.int es.size 0,.int ep 0] } }):wpAny (model prog w) A (pyIter (.ref d)) Q E s:=by
 obtain ⟨o,ho,hc,hdat⟩:=id x
 refine wpAny_pyIter_slot x.typ F.slot_dict_iter (wpAny_call_entry F.slot_dict_iter x.typ F.entry_dict_iter ?_ (F.args_dict_iter_1 _))
 unfold Builtin.«dict.__iter__»
 refine xaa ?_
 unfold Builtin.Dict.dictSlotNone
 refine xaa (wpAny_notOrdered_dict x.typ ?_)
 refine (show wpAny _ _ (pure (Value.ref d)) _ _ s from xab ?_)
 refine (show wpAny _ _ (Builtin.Dict.showsAll d >>= _) _ _ s from ?_)
 unfold Builtin.Dict.showsAll
 rw [if_neg (by rw [lo]; decide)]
 refine xaa (xab (xaa (wpAny_dictEntries ho hdat (xaa (wpAny_dictEpoch ho hdat (xaa (wpAny_newObj_type (xab ⟨_,rfl, "dict_keyiterator",_,⟨_,xao _ rfl,rfl⟩,F.slot_dict_keyiterator_next.lookup,?_⟩))))))))
 simpa [rawInt] using q
theorem zF (hit:s.heap.IsKeyIter it d i es.size ep) (x:RawD s.heap d es ep) (hx:i<es.size)
  (q:∀ h',h'.IsKeyIter it d (i+1) es.size ep->Heap.SameBut it s.heap h'->Q (some es[i].key) { s with heap:=h' }):wpAny (model prog w) A (pyNext (.ref it)) Q E s:=by
 obtain ⟨o,ho,hc,hd⟩:=id hit
 obtain ⟨od,hod,hcd,hdd⟩:=id x
 have ty:=hit.typeIs
 unfold pyNext
 refine xaa (wpAny_attempt (wpAny_callSpecial?_slot (name:=Str.ofString "__next__") ty F.slot_dict_keyiterator_next (wpAny_call_entry F.slot_dict_keyiterator_next ty F.entry_dict_keyiterator_next ?_ (F.args_dict_keyiterator_next_1 _))))
 refine xaa (xab (xaa (xaa ?_)))
 first | refine xaa (wpAny_typeNameOfWhole_keyiter ty (xab ?_)) | refine xaa (wpAny_typeNameOf_keyiter ty (xab ?_))
 refine xaa (wpAny_fieldsOf ho hd ?_)
 simp only [show Builtin.Dict_items.ownsTuple "dict_keyiterator" = false by decide,xam,if_false]
 refine (show wpAny _ _ (if (Value.ref d == Value.none)=true then _ else _) _ _ s from ?_)
 rw [if_neg (show ¬ ((Value.ref d == Value.none)=true) by intro h; cases h)]
 refine xaa (xab (xaa (wpAny_dictEntries hod hdd ?_)))
 rw [if_neg (by intro h; simp at h)]
 refine xaa (xab (xaa (wpAny_dictEpoch hod hdd ?_)))
 rw [if_neg (by intro h; simp at h)]
 refine xab ?_
 simp only [show ¬ ((i:Int)<0) by lia,if_false,xbU,xaJ hx]
 refine xaa ?_
 first | refine xaa (wpAny_typeNameOfWhole_keyiter ty (xab ?_)) | refine xaa (wpAny_typeNameOf_keyiter ty (xab ?_))
 refine xaa (wpAny_isOneOf_keyiter ty ?_)
 refine (show wpAny _ _ (setField (.ref it) 1 (rawInt ((i:Int)+1)) >>= _) _ _ s from xaa (wpAny_setField ho hd (by simp) ?_))
 have hit':(s.heap.update it (Obj.mapFields (·.setIfInBounds 1 (rawInt ((i:Int)+1))))).IsKeyIter it d (i+1) es.size ep :=
  ⟨_,xbc _ ho (Obj.isFreed_of_fields (Obj.data_mapFields hd _)),(Obj.cls_mapFields ..).trans hc,by rw [Obj.data_mapFields hd]; simp [rawInt]⟩
 refine xaa (wpAny_holding (xaa (wpAny_isOneOf_keyiter (s:={ s with heap:=s.heap.update it (Obj.mapFields (·.setIfInBounds 1 (rawInt ((i:Int)+1)))) }) hit'.typeIs ?_)))
 refine (show wpAny _ _ (pure es[i].key) _ _ _ from xab (xab ⟨_,rfl,xab (q _ hit' (Heap.SameBut.update ..))⟩))
theorem zA (hh:A.handled=none) (hit:s.heap.IsKeyIter it d es.size es.size ep) (x:RawD s.heap d es ep) (q:∀ h',Heap.ExtBut it s.heap h'->Q none { s with heap:=h' }) :
  wpAny (model prog w) A (pyNext (.ref it)) Q E s:=by
 obtain ⟨o,ho,hc,hd⟩:=id hit
 obtain ⟨od,hod,hcd,hdd⟩:=id x
 have ty:=hit.typeIs
 unfold pyNext
 refine xaa (wpAny_attempt (wpAny_callSpecial?_slot (name:=Str.ofString "__next__") ty F.slot_dict_keyiterator_next (wpAny_call_entry F.slot_dict_keyiterator_next ty F.entry_dict_keyiterator_next ?_ (F.args_dict_keyiterator_next_1 _))))
 refine xaa (xab (xaa (xaa ?_)))
 first | refine xaa (wpAny_typeNameOfWhole_keyiter ty (xab ?_)) | refine xaa (wpAny_typeNameOf_keyiter ty (xab ?_))
 refine xaa (wpAny_fieldsOf ho hd ?_)
 simp only [show Builtin.Dict_items.ownsTuple "dict_keyiterator" = false by decide,xam,if_false]
 refine (show wpAny _ _ (if (Value.ref d == Value.none)=true then _ else _) _ _ s from ?_)
 rw [if_neg (show ¬ ((Value.ref d == Value.none)=true) by intro h; cases h)]
 refine xaa (xab (xaa (wpAny_dictEntries hod hdd ?_)))
 rw [if_neg (by intro h; simp at h)]
 refine xaa (xab (xaa (wpAny_dictEpoch hod hdd ?_)))
 rw [if_neg (by intro h; simp at h)]
 refine xab ?_
 simp only [show ¬ ((es.size:Int)<0) by lia,if_false,xbU,xbh (xae es.size)]
 refine xaa ?_
 first | refine xaa (wpAny_typeNameOfWhole_keyiter ty (xab ?_)) | refine xaa (wpAny_typeNameOf_keyiter ty (xab ?_))
 refine (show wpAny _ _ (setField (.ref it) 0 .none >>= _) _ _ s from xaa (wpAny_setField ho hd (by simp) ?_))
 refine (show wpAny _ _ (newExc (.type "StopIteration") [] >>= _) _ _ _ from xaa ?_)
 simp only [newExc,newTuple]
 refine xaa (wpAny_newObj_type ?_ (by size_fits))
 refine xaa (m:=firstArgMember _ _) (wpAny_of_eq (a:=Value.none) (by first | rfl | (simp only [firstArgMember]; rfl)) (wpAny_newObj_type ?_ (by size_fits)))
 simp only [raiseNew]
 refine xaa (wpAny_handled ?_)
 rw [show A.in1.handled=none from hh]
 refine xaa (xab (wpAny_throw ?_))
 refine xaa (wpAny_isInstance (b:=true) (T := "StopIteration") ⟨_,xao _ rfl,rfl⟩ isSubtype_stop ?_)
 exact xab (q _ (((Heap.SameBut.update ..).extBut.push _).push _))
theorem RawD.at (x:RawD h d es ep) (e:∀ o,h.get? d=some o->h'.get? d=some o):RawD h' d es ep:=let ⟨o,ho,r⟩:=x; ⟨o,e o ho,r⟩
theorem RawD.lt (x:RawD h d es ep):d<h.objs.size:=let ⟨_,e,_⟩:=x; xal e
theorem yd (hh:A.handled=none) (I:Addr) (hne:d≠I):Walks prog w A I [I,d] [I] es.size (fun i v=>∃ e,es[i]? = some e/\v=e.key) (fun i h=>h.IsKeyIter I d i es.size ep/\RawD h d es ep) where
 sub:=fun b hb=>by simp at hb; simp [hb]
 frame:=fun _ _ _ st hk=>⟨st.1.at fun o e=>hk I (by simp) o e,st.2.at fun o e=>hk d (by simp) o e⟩
 item:=fun i s Q E hi st hQ=>zF st.1 st.2 hi fun h' a b=>hQ _ h' s.toks ⟨es[i],by simp [hi],rfl⟩ ⟨a,st.2.at fun o e=>b.extBut d o hne e⟩ fun c o hb e=>b.extBut c o (fun h=>hb (by simp [h])) e
 done:=fun s Q E st hQ=>zA hh st.1 st.2 fun h' he'=>hQ h' s.toks fun b o hb e=>he' b o (fun h=>hb (by simp [h])) e
 self:=fun _ _ _ _ st hQ=>wpAny_pyIter_keyiter st.1 hQ
theorem Cg (lo:(d == sysModules)=false):PySem.W.KdlSrc prog w "dict" d d es.size (fun i v=>∃ e,es[i]? = some e/\v=e.key) (fun h=>RawD h d es ep) where
 type:=fun _ x=>x.typ
 there:=fun _ x=>⟨x.lt,x.lt⟩
 keep:=fun _ _ x hk=>x.at fun o e=>hk d (.inl rfl) o e
 notList:=by decide
 notTuple:=by decide
 hint:=fun _ _ _ _ x hq=>PySem.W.kdl_hint_dict x.typ hq
 iter:=fun _ _ hh x=>⟨_,_,(fun _ _ hq=>zz lo x hq),yd hh _ (xar x.lt),⟨⟨_,xao _ rfl,rfl,rfl⟩,x.at fun o e=>xad _ e⟩⟩
end
theorem Paired.n0 {α β:Type} {R:α->β->Prop} {bs:List β} (h:Paired R [] bs):bs=[]:=by cases h; rfl
theorem Paired.c {α β:Type} {R:α->β->Prop} {a:α} {as:List α} {bs:List β} (h:Paired R (a :: as) bs):∃ b cs,bs=b :: cs/\R a b/\Paired R as cs:=by
 cases h with
 | cons r t=>exact ⟨_,_,rfl,r,t⟩
def cz (H:Hp) (ys:List V) (ks:List (List Key)):Prop:=Paired (fun (v:V) (k:List Key)=>∃ b,v=.ref b/\H b=some (.tup (k.map kV))) ys ks
section
variable {X:Cx}
def uE:List V->Hp->VK->Prop:=fun xs H Q=>match xs with
 | [.ref p]=>∃ kvs,Rd H p (.dT kvs)/\∀ ys l,cz H ys (kvs.map (·.1))->H l=none->Q (.ref l) (upd H l (.lst ys))
 | _=>False
theorem BX
  (h:Paired (fun (p:List Key × V) (q:List Key × Addr × Value)=>p.1=q.1/\H q.2.1=some (.tup (p.1.map kV))/\RelV p.2 q.2.2) kvs xs) :
  cz H (xs.map fun q=>.ref q.2.1) (kvs.map (·.1))/\Vals (xs.map fun q=>.ref q.2.1) ((xs.map (entryOfKey (tupleKind (mixKind prog w)))).map (·.key)):=by
 induction h with
 | nil=>exact ⟨.nil,.nil⟩
 | cons r t ih=>exact ⟨.cons ⟨_,rfl,r.2.1⟩ ih.1,.cons rfl ih.2⟩
theorem vf (hc:X.calm=true):CallR X (.type "list") uE:=by
 intro pins s σ H xs us Q I r h
 unfold uE at h
 split at h
 ·rename_i p
  obtain ⟨kvs,e,q⟩:=h
  obtain ⟨u,rfl,ru⟩:=Vals.one r
  cases ru
  obtain ⟨z,y,ps,rel,o,es,ep,h1,h2,h3,h4,h5⟩:=(show ObjOk X.prog X.w H s.heap p (.dT kvs) from I.rd e)
  obtain ⟨ta,va⟩:=BX (prog:=X.prog) (w:=X.w) rel
  have hlen:es.size=kvs.length:=by
   have:=congrArg List.length h4
   rw [xaK,xac] at this
   rw [this]; exact rel.length.symm
  refine PySem.W.kdl_call (Cg (es:=es) (ep:=ep) y) (I.ok.hd hc) ⟨o,h1,h2,h3⟩ (by lia) fun h' tk acc c kp eo hacc=>?_
  have hv:acc.toList=(ps.map (entryOfKey (tupleKind (mixKind X.prog X.w)))).map (·.key):=by
   apply xbV
   intro i
   by_cases hi:i<es.size
   ·have hi2:i<acc.size:=by rw [hacc.1]; exact hi
    obtain ⟨en,e1,e2⟩:=hacc.2 i acc[i] (by simp [hi2])
    rw [<- h4,xaR,xaz,xaz,e1]
    simp [hi2,e2]
   ·rw [<- h4,xaR,xaz,xaz,xbh (by rw [hacc.1]; lia),xbh (by lia)]
    rfl
  refine ⟨.ref s.heap.objs.size,_,I.laid (t':=tk) kp (xae _) (show ObjOk X.prog X.w _ h' _ (.lst (ps.map fun q=>.ref q.2.1)) from ⟨?_,acc.toList,c,?_,?_⟩),rfl,q _ _ ta (I.hok.fresh (xae _))⟩
  ·rw [xac,<- rel.length]; exact z
  ·rw [hv]; exact va
  ·rw [xcq]; exact eo
 ·exact h.elim
end
end L2
namespace Tim
open PySem PyProof.Rows
def R (r:Value->Int) (xs:Array Keyed) (i:Nat):Int:=match xs[i]? with
 | some p=>r p.1
 | none=>0
theorem dB (h:xs[i]? = ys[j]?):R r xs i=R r ys j:=by unfold R; rw [h]
def Cmp (prog:Program) (w:World) (A:Around) (s:Shared) (κ:SortKind) (r:Value->Int) (P:Value->Prop):Prop :=
 ∀ x y,P x->P y->∀ (Q:Bool->Shared->Prop) (E:Value->Shared->Prop),Q (decide (r x<r y)) s->wpAny (model prog w) A (keyLt' κ x y) Q E s
def AllP (P:Value->Prop) (xs:Array Keyed):Prop:=∀ p∈xs.toList,P p.1
theorem AllP.perm {P:Value->Prop} (h:AllP P xs) (hp:ys.Perm xs):AllP P ys:=fun p hm=>h p ((xb1.mp hp).mem_iff.mp hm)
theorem AllP.at {P:Value->Prop} {xs:Array Keyed} (h:AllP P xs) {i:Nat} {p:Keyed} (e:xs[i]? = some p):P p.1:=h p (by
 obtain ⟨hi,rfl⟩:=xa7.mp e
 simp)
structure Win (lo hi:Nat) (st st':SortSt):Prop where
 kind:kindOf st'=kindOf st
 failed:failedOf st'=failedOf st
 pend:pendingOf st'=pendingOf st
 perm:(arrOf st').Perm (arrOf st)
 out:∀ k,k<lo\/hi<=k->(arrOf st')[k]? = (arrOf st)[k]?
theorem Win.refl (lo hi:Nat) (st:SortSt):Win lo hi st st:=⟨rfl,rfl,rfl,Array.Perm.refl _,fun _ _=>rfl⟩
theorem Win.trans {lo hi:Nat} {a b c:SortSt} (h:Win lo hi a b) (g:Win lo hi b c):Win lo hi a c :=
 ⟨g.kind.trans h.kind,g.failed.trans h.failed,g.pend.trans h.pend,g.perm.trans h.perm,fun k hk=>(g.out k hk).trans (h.out k hk)⟩
theorem Win.mono {lo hi lo' hi':Nat} {a b:SortSt} (h:Win lo hi a b) (h1:lo'<=lo) (h2:hi<=hi'):Win lo' hi' a b :=
 ⟨h.kind,h.failed,h.pend,h.perm,fun k hk=>h.out k (by lia)⟩
theorem Win.size {lo hi:Nat} {a b:SortSt} (h:Win lo hi a b):(arrOf b).size=(arrOf a).size:=h.perm.size_eq
def Up (r:Value->Int) (xs:Array Keyed) (lo hi:Nat):Prop:=∀ i j,lo<=i->i<=j->j<hi->R r xs i<=R r xs j
def Down (r:Value->Int) (xs:Array Keyed) (lo hi:Nat):Prop:=∀ i j,lo<=i->i<=j->j<hi->R r xs j<=R r xs i
theorem tU (hs:src<xs.size) (hd:d<=src) (k:Nat) :
  R r (bubble xs src d) k=if k=src - d then R r xs src else if src - d<k/\k<=src then R r xs (k - 1) else R r xs k:=by
 have e:=getElem?_bubble hs d hd k
 by_cases h1:k=src - d
 ·rw [if_pos h1] at e ⊢; exact dB e
 ·rw [if_neg h1] at e ⊢
  by_cases h2:src - d<k/\k<=src
  ·rw [if_pos h2] at e ⊢; exact dB e
  ·rw [if_neg h2] at e ⊢; exact dB e
theorem oO (hj:j<=xs.size) (k:Nat) :
  R r (mirror xs i j ((j - i) / 2)) k=if i<=k/\k<j then R r xs (i+j - 1 - k) else R r xs k:=by
 have e:=getElem?_mirror_all (i:=i) hj k
 by_cases h1:i<=k/\k<j
 ·rw [if_pos h1] at e ⊢; exact dB e
 ·rw [if_neg h1] at e ⊢; exact dB e
theorem b7 (hj:j<=xs.size) (heq:∀ k,i<=k->k<j->R r xs k=R r xs (j - 1)) (k:Nat) :
  R r (mirror xs i j ((j - i) / 2)) k=R r xs k:=by
 rw [oO hj]
 split
 ·rw [heq _ (by lia) (by lia),heq k (by lia) (by lia)]
 ·rfl
section
variable {prog:Program} {w:World} {A:Around} {E:Value->Shared->Prop} {s:Shared} {κ:SortKind} {r:Value->Int} {P:Value->Prop}
theorem rA {st:SortSt} {x y:Keyed} {Q:Option Bool->SortSt->Prop} (C:Cmp prog w A s κ r P) (hk:kindOf st=κ) (hx:P x.1) (hy:P y.1) (h:Q (some (decide (r x.1<r y.1))) st) :
  wpS (model prog w) A E s (lt' x y) Q st:=by
 rw [lt'_eq]
 refine wpS_bind (wpS_get ?_)
 rw [hk]
 refine wpS_bind (wpS_lift (wpAny_attempt (C x.1 y.1 hx hy _ _ ⟨rfl,?_⟩)))
 exact wpS_pure h
theorem aJ {xs:Array Keyed} {i:Nat} {Q:Keyed->SortSt->Prop} {st:SortSt} (hi:i<xs.size) (h:∀ p,xs[i]? = some p->Q p st):wpS (model prog w) A E s (elem' xs i) Q st:=by
 rw [elem'_eq,getElem?_pos xs i hi]
 exact wpS_pure (h _ (getElem?_pos xs i hi))
theorem kj {st:SortSt} {i j:Nat} {Q:Option Bool->SortSt->Prop} (C:Cmp prog w A s κ r P) (hk:kindOf st=κ) (hP:AllP P (arrOf st)) (hi:i<(arrOf st).size) (hj:j<(arrOf st).size)
  (h:Q (some (decide (R r (arrOf st) i<R r (arrOf st) j))) st):wpS (model prog w) A E s (ltAt' i j) Q st:=by
 rw [ltAt'_eq]
 refine wpS_bind (wpS_get ?_)
 show wpS _ _ _ _ (do let x <- elem' (arrOf st) i; let y <- elem' (arrOf st) j; lt' x y) Q st
 refine wpS_bind (aJ hi fun p ep=>wpS_bind (aJ hj fun q eq=>rA C hk (hP.at ep) (hP.at eq) ?_))
 have e1:R r (arrOf st) i=r p.1:=by unfold R; rw [ep]
 have e2:R r (arrOf st) j=r q.1:=by unfold R; rw [eq]
 rw [<- e1,<- e2]
 exact h
theorem dD {st:SortSt} {i j:Nat} {Q:Unit->SortSt->Prop} (h:Q () (setArr st (mirror (arrOf st) i j ((j - i) / 2)))) :
  wpS (model prog w) A E s (reverseSlice' i j) Q st:=by
 rw [reverseSlice'_eq]; exact wpS_modify h
theorem gk {st:SortSt} {i j:Nat} (hj:j<=(arrOf st).size):Win i j st (setArr st (mirror (arrOf st) i j ((j - i) / 2))) :=
 ⟨rfl,rfl,rfl,mirror_perm _ _ _ _,fun k hk=>by
  have e:=getElem?_mirror_all (i:=i) hj k
  rw [if_neg (by lia)] at e
  exact e⟩
theorem vo {st:SortSt} {lo src d:Nat} (hs:src<(arrOf st).size) (hd:lo+d<=src):Win lo (src+1) st (setArr st (bubble (arrOf st) src d)) :=
 ⟨rfl,rfl,rfl,bubble_perm _ _ _,fun k hk=>by
  have e:=getElem?_bubble hs d (by walk_at "s4") k
  rw [if_neg (by lia),if_neg (by lia)] at e
  exact e⟩
theorem wpS_binarySort {st:SortSt} {lo n ok:Nat} {Q:Bool->SortSt->Prop} (C:Cmp prog w A s κ r P) (hk:kindOf st=κ) (hP:AllP P (arrOf st)) (hn:lo+n<=(arrOf st).size) (hok:ok<=n) (hs:Up r (arrOf st) lo (lo+ok))
  (h:∀ st',Win lo (lo+n) st st'->Up r (arrOf st') lo (lo+n)->Q true st'):wpS (model prog w) A E s (binarySort' lo n ok) Q st:=by
 rw [binarySort'_eq]
 refine wpS_bind (wpS_mono (wpS_forRange (I:=fun k c st'=>c=(none,())/\Win lo (lo+n) st st'/\Up r (arrOf st') lo (lo+min k n))
  (Q:=fun c st'=>c=(none,())/\Win lo (lo+n) st st'/\Up r (arrOf st') lo (lo+n)) ?step ?fin ?init) ?post)
 case post =>
  rintro c st' ⟨rfl,hB',hs'⟩
  exact wpS_pure (h st' hB' hs')
 case init =>
  refine ⟨rfl,.refl _ _ _,fun i j hl hij hj=>?_⟩
  by_cases h1:ok=0
  ·have:i=j:=by lia
   subst this; exact xbj _
  ·exact hs i j hl hij (by lia)
 case fin =>
  rintro c st' ⟨hc,hB',hs'⟩
  refine ⟨hc,hB',?_⟩
  rwa [show min (max (max ok 1) n) n=n by lia] at hs'
 case step =>
  rintro k c st' hak hkn ⟨rfl,hB',hs'⟩
  rw [show min k n=k by lia] at hs'
  have hsz:=hB'.size
  have hk':kindOf st'=κ:=hB'.kind.trans hk
  have hP':=hP.perm hB'.perm
  refine wpS_bind (wpS_mono (wpS_forRange (I:=fun x c st''=>st''=st'/\∃ l r',c=(none,l,r')/\l<=r'/\r'<=k/\r' - l<=k - x /\
    (∀ i,lo<=i->i<lo+l->R r (arrOf st') i<=R r (arrOf st') (lo+k))/\(∀ i,lo+r'<=i->i<lo+k->R r (arrOf st') (lo+k)<R r (arrOf st') i))
   (Q:=fun c st''=>st''=st'/\∃ l r',c=(none,l,r')/\l<=k /\
    (∀ i,lo<=i->i<lo+l->R r (arrOf st') i<=R r (arrOf st') (lo+k))/\(∀ i,lo+l<=i->i<lo+k->R r (arrOf st') (lo+k)<R r (arrOf st') i)) ?istep ?ifin ?iinit) ?ipost)
  case iinit=>exact ⟨rfl,0,k,rfl,by exact xaq _,by exact xae _,by exact Nat.sub_le _ _,fun i _ hi=>by lia,fun i h1 h2=>by lia⟩
  case ifin =>
   rintro c st'' ⟨rfl,l,r',rfl,hlr,hrk,hm,hlo,hhi⟩
   have:l=r':=by lia
   subst this
   exact ⟨rfl,l,l,rfl,hrk,hlo,hhi⟩
  case istep =>
   rintro x c st'' _ hxk ⟨rfl,l,r',rfl,hlr,hrk,hm,hlo,hhi⟩
   dsimp only
   by_cases hge:l >= r'
   ·rw [if_pos hge]
    have:l=r':=by exact xb7 ‹_› ‹_›
    subst this
    exact wpS_pure ⟨rfl,l,l,rfl,hrk,hlo,hhi⟩
   ·rw [if_neg hge]
    refine wpS_bind (kj C hk' hP' (by lia) (by lia) ?_)
    by_cases hless:R r (arrOf st'') (lo+k)<R r (arrOf st'') (lo+(l+r') / 2)
    ·simp only [hless,decide_true,if_true]
     refine wpS_pure ⟨rfl,l,(l+r') / 2,rfl,by lia,by lia,by lia,hlo,fun i h1 h2=>?_⟩
     exact xb8 hless (hs' _ _ (by exact xbK _ _) h1 h2)
    ·simp only [hless,decide_false,xam,if_false]
     refine wpS_pure ⟨rfl,(l+r') / 2+1,r',rfl,by lia,by lia,by lia,fun i h0 h1=>?_,hhi⟩
     exact xa3 (hs' i (lo+(l+r') / 2) h0 (by lia) (by lia)) (Int.not_lt.mp hless)
  case ipost =>
   rintro c st'' ⟨rfl,l,r',rfl,hlk,hlo,hhi⟩
   show wpS _ _ _ _ (do moveDown' (lo+k) (lo+l); pure (ForInStep.yield (none,()))) _ _
   rw [moveDown'_eq]
   have hks:lo+k<(arrOf st'').size:=by lia
   refine wpS_bind (wpS_modify (wpS_pure ⟨rfl,hB'.trans ((vo (lo:=lo) hks (by lia)).mono (xae _) (by lia)),?_⟩))
   rw [show min (k+1) n=k+1 by exact xbR ‹_›]
   intro i j hl hij hj
   show R r (bubble (arrOf st'') (lo+k) (lo+k - (lo+l))) i<=R r (bubble (arrOf st'') (lo+k) (lo+k - (lo+l))) j
   rw [tU hks (by exact Nat.sub_le _ _),tU hks (by exact Nat.sub_le _ _),show lo+k - (lo+k - (lo+l))=lo+l by lia]
   repeat' split
   all_goals first
    | (exfalso; lia)
    | exact xbj _
    | exact hlo _ (by lia) (by lia)
    | exact xbs (hhi _ (by lia) (by lia))
    | exact hs' _ _ (by lia) (by lia) (by lia)
end
def ascL (lo a nrem:Nat):StateT SortSt Sem AscSt :=
 forIn [a:nrem] ((none,a):AscSt) fun _ __s=>do
  let __x ← ltAt' (lo + __s.snd) (lo + __s.snd - 1)
  match __x with
  | some smaller=>if smaller=true then pure (ForInStep.done (none,__s.snd)) else pure (ForInStep.yield (none,__s.snd+1))
  | _=>pure (ForInStep.done (some none,__s.snd))
def qu (lo n nrem:Nat):StateT SortSt Sem (Option Nat):=do
 reverseSlice' lo (lo+n)
 let __s ← ascL lo n nrem
 match __s.fst with
 | some r=>pure r
 | none=>pure (some __s.snd)
def zq (lo n nrem:Nat):StateT SortSt Sem DescSt :=
 forIn [n:nrem] ((none,n,0):DescSt) fun _ __s=>do
  let __x ← ltAt' (lo + __s.snd.fst) (lo + __s.snd.fst - 1)
  match __x with
  | some smaller =>
   if smaller=true then
    if __s.snd.snd>0 then do
     reverseSlice' (lo+__s.snd.fst - (__s.snd.snd+1)) (lo+__s.snd.fst)
     pure (ForInStep.yield (none,__s.snd.fst+1,0))
    else pure (ForInStep.yield (none,__s.snd.fst+1,0))
   else do
    let __x ← ltAt' (lo+__s.snd.fst - 1) (lo+__s.snd.fst)
    match __x with
    | some larger =>
     if larger=true then pure (ForInStep.done (none,__s.snd.fst,__s.snd.snd))
     else pure (ForInStep.yield (none,__s.snd.fst+1,__s.snd.snd+1))
    | _=>pure (ForInStep.done (some none,__s.snd.fst,__s.snd.snd))
  | _=>pure (ForInStep.done (some none,__s.snd.fst,__s.snd.snd))
def fU (lo n nrem:Nat):StateT SortSt Sem (Option Nat):=do
 liftM (rule "list.sort.descending-run")
 let __s ← zq lo (n+1) nrem
 match __s.fst with
 | some r=>pure r
 | none =>
  if __s.snd.snd>0 then do
   reverseSlice' (lo+__s.snd.fst - (__s.snd.snd+1)) (lo+__s.snd.fst)
   qu lo __s.snd.fst nrem
  else qu lo __s.snd.fst nrem
theorem rB (lo nrem:Nat):countRun' lo nrem=(do
  let __s ← ascL lo 1 nrem
  match __s.fst with
  | some r=>pure r
  | none =>
   if (__s.snd == nrem)=true then pure (some __s.snd)
   else if __s.snd>1 then do
    let __x ← ltAt' lo (lo+__s.snd - 1)
    match __x with
    | some rose=>if rose=true then pure (some __s.snd) else do
      reverseSlice' lo (lo+__s.snd)
      fU lo __s.snd nrem
    | _=>pure none
   else fU lo __s.snd nrem):=by
 rw [countRun'_eq]
 dsimp only
 unfold fU qu zq ascL
 congr 1
 funext __s
 obtain ⟨r,n⟩:=__s
 cases r with
 | some r=>rfl
 | none =>
  dsimp only
  split
  ·rfl
  ·split
   ·congr 1
    funext x
    cases x with
    | none=>rfl
    | some rose =>
     dsimp only
     split
     ·rfl
     ·congr 1
      funext _r
      (congr 1; funext _u; congr 1; congr 1; funext s2; obtain ⟨r2,n2,q2⟩:=s2; cases r2 with
       | some r2=>rfl
       | none=>(dsimp only; split; (congr 1; funext _v; (congr 1; funext _w; congr 1; (funext s3; obtain ⟨r3,n3⟩:=s3; cases r3 <;> rfl))); (congr 1; funext _w; congr 1; (funext s3; obtain ⟨r3,n3⟩:=s3; cases r3 <;> rfl))))
   ·(congr 1; funext _u; congr 1; congr 1; funext s2; obtain ⟨r2,n2,q2⟩:=s2; cases r2 with
     | some r2=>rfl
     | none=>(dsimp only; split; (congr 1; funext _v; (congr 1; funext _w; congr 1; (funext s3; obtain ⟨r3,n3⟩:=s3; cases r3 <;> rfl))); (congr 1; funext _w; congr 1; (funext s3; obtain ⟨r3,n3⟩:=s3; cases r3 <;> rfl))))
section
variable {prog:Program} {w:World} {A:Around} {E:Value->Shared->Prop} {s:Shared} {κ:SortKind} {r:Value->Int} {P:Value->Prop}
theorem uI {st:SortSt} {lo a nrem:Nat} {Q:AscSt->SortSt->Prop} (C:Cmp prog w A s κ r P) (hk:kindOf st=κ) (hP:AllP P (arrOf st)) (hn:lo+nrem<=(arrOf st).size) (ha:1<=a) (han:a<=nrem)
  (hs:Up r (arrOf st) lo (lo+a))
  (h:∀ n,a<=n->n<=nrem->Up r (arrOf st) lo (lo+n)->(n=nrem\/R r (arrOf st) (lo+n)<R r (arrOf st) (lo+n - 1))->Q (none,n) st) :
  wpS (model prog w) A E s (ascL lo a nrem) Q st:=by
 unfold ascL
 refine wpS_forRange (I:=fun x c st'=>st'=st/\c=(none,x)/\Up r (arrOf st) lo (lo+x)) ?step ?fin ⟨rfl,rfl,hs⟩
 case fin =>
  rintro c st' ⟨rfl,rfl,hs'⟩
  rw [show max a nrem=nrem by lia] at hs' ⊢
  exact h nrem han (xae _) hs' (.inl rfl)
 case step =>
  rintro x c st' hax hxn ⟨rfl,rfl,hs'⟩
  dsimp only
  refine wpS_bind (kj C hk hP (by lia) (by lia) ?_)
  by_cases hless:R r (arrOf st') (lo+x)<R r (arrOf st') (lo+x - 1)
  ·simp only [hless,decide_true,if_true]
   exact wpS_pure (h x hax (by exact xaL ‹_›) hs' (.inr hless))
  ·simp only [hless,decide_false,xam,if_false]
   refine wpS_pure ⟨rfl,rfl,fun i j hl hij hj=>?_⟩
   by_cases hjx:j<lo+x
   ·exact hs' i j hl hij hjx
   ·have hj':j=lo+x:=by lia
    subst hj'
    by_cases hi':i=lo+x
    ·subst hi'; exact xbj _
    ·exact xa3 (hs' i (lo+x - 1) hl (by lia) (by lia)) (Int.not_lt.mp hless)
theorem m9 {st:SortSt} {lo n nrem:Nat} {Q:Option Nat->SortSt->Prop} (C:Cmp prog w A s κ r P) (hk:kindOf st=κ) (hP:AllP P (arrOf st)) (hn:lo+nrem<=(arrOf st).size) (h1:1<=n) (hnn:n<=nrem)
  (hs:Down r (arrOf st) lo (lo+n)) (h:∀ m st',Win lo (lo+nrem) st st'->1<=m->m<=nrem->Up r (arrOf st') lo (lo+m)->Q (some m) st') :
  wpS (model prog w) A E s (qu lo n nrem) Q st:=by
 unfold qu
 have hsz:lo+n<=(arrOf st).size:=by lia
 refine wpS_bind (dD ?_)
 have hB':=gk (i:=lo) hsz
 refine wpS_bind (uI C (hB'.kind.trans hk) (hP.perm hB'.perm) (by rw [hB'.size]; exact hn) h1 hnn ?_ fun m hm1 hm2 hsm _=>wpS_pure (h m _ (hB'.mono (xae _) (by lia)) (by walk_at "s1") hm2 hsm))
 intro i j hl hij hj
 show R r (mirror (arrOf st) lo (lo+n) ((lo+n - lo) / 2)) i<=R r (mirror (arrOf st) lo (lo+n) ((lo+n - lo) / 2)) j
 rw [oO hsz,oO hsz,if_pos (by lia),if_pos (by lia)]
 exact hs _ _ (by lia) (by lia) (by lia)
theorem yc {st:SortSt} {lo n nrem:Nat} {Q:DescSt->SortSt->Prop} (C:Cmp prog w A s κ r P) (hk:kindOf st=κ) (hP:AllP P (arrOf st)) (hn:lo+nrem<=(arrOf st).size) (h1:1<=n) (hnn:n<=nrem)
  (hs:Down r (arrOf st) lo (lo+n))
  (h:∀ m neq st',Win lo (lo+nrem) st st'->n<=m->m<=nrem->Down r (arrOf st') lo (lo+m)->neq+1<=m->(∀ i,lo+m - (neq+1)<=i->i<lo+m->R r (arrOf st') i=R r (arrOf st') (lo+m - 1))->Q (none,m,neq) st') :
  wpS (model prog w) A E s (zq lo n nrem) Q st:=by
 unfold zq
 refine wpS_forRange (I:=fun x c st'=>∃ neq,c=(none,x,neq)/\Win lo (lo+nrem) st st'/\Down r (arrOf st') lo (lo+x)/\neq+1<=x /\
   (∀ i,lo+x - (neq+1)<=i->i<lo+x->R r (arrOf st') i=R r (arrOf st') (lo+x - 1))) ?step ?fin ⟨0,rfl,.refl _ _ _,hs,by lia,fun i h1 h2=>by congr 1; lia⟩
 case fin =>
  rintro c st' ⟨neq,rfl,hB',hs',hq,he⟩
  rw [show max n nrem=nrem by lia] at hs' hq he ⊢
  exact h nrem neq st' hB' hnn (xae _) hs' hq he
 case step =>
  rintro x c st' hax hxn ⟨neq,rfl,hB',hs',hq,he⟩
  dsimp only
  have hz:=hB'.size
  have hsz:lo+x<=(arrOf st').size:=by lia
  have hk':=hB'.kind.trans hk
  have hP':=hP.perm hB'.perm
  refine wpS_bind (kj C hk' hP' (by lia) (by lia) ?_)
  by_cases hless:R r (arrOf st') (lo+x)<R r (arrOf st') (lo+x - 1)
  ·simp only [hless,decide_true,if_true]
   have step1:∀ xs:Array Keyed,(∀ k,R r xs k=R r (arrOf st') k)->Down r xs lo (lo+(x+1)):=by
    intro xs hkk i j hl hij hj
    rw [hkk,hkk]
    by_cases hjx:j<lo+x
    ·exact hs' i j hl hij hjx
    ·have hj':j=lo+x:=by lia
     subst hj'
     by_cases hi':i=lo+x
     ·subst hi'; exact xbj _
     ·exact xa3 (xbs hless) (hs' i (lo+x - 1) hl (by lia) (by lia))
   by_cases hneq:neq>0
   ·rw [if_pos hneq]
    refine wpS_bind (dD (wpS_pure ⟨0,rfl,hB'.trans ((gk hsz).mono (by lia) (by lia)),step1 _ (b7 hsz he),by exact xbb _,fun i h1 h2=>by congr 1; lia⟩))
   ·rw [if_neg hneq]
    exact wpS_pure ⟨0,rfl,hB',step1 _ (fun _=>rfl),by exact xbb _,fun i h1 h2=>by congr 1; lia⟩
  ·simp only [hless,decide_false,xam,if_false]
   refine wpS_bind (kj C hk' hP' (by lia) (by lia) ?_)
   by_cases hlarger:R r (arrOf st') (lo+x - 1)<R r (arrOf st') (lo+x)
   ·simp only [hlarger,decide_true,if_true]
    exact wpS_pure (h x neq st' hB' hax (by exact xaL ‹_›) hs' hq he)
   ·simp only [hlarger,decide_false,xam,if_false]
    have heqx:R r (arrOf st') (lo+x)=R r (arrOf st') (lo+x - 1):=by lia
    refine wpS_pure ⟨neq+1,rfl,hB',fun i j hl hij hj=>?_,by exact xbe ‹_›,fun i h1 h2=>?_⟩
    ·by_cases hjx:j<lo+x
     ·exact hs' i j hl hij hjx
     ·have hj':j=lo+x:=by lia
      subst hj'
      by_cases hi':i=lo+x
      ·subst hi'; exact xbj _
      ·rw [heqx]; exact hs' i (lo+x - 1) hl (by lia) (by lia)
    ·rw [show lo+(x+1) - 1=lo+x by rfl]
     by_cases hix:i=lo+x
     ·subst hix; rfl
     ·rw [heqx]; exact he i (by lia) (by lia)
theorem gW {st:SortSt} {lo n nrem:Nat} {Q:Option Nat->SortSt->Prop} (C:Cmp prog w A s κ r P) (hk:kindOf st=κ) (hP:AllP P (arrOf st)) (hn:lo+nrem<=(arrOf st).size) (hnn:n+1<=nrem)
  (hs:Down r (arrOf st) lo (lo+(n+1))) (h:∀ m st',Win lo (lo+nrem) st st'->1<=m->m<=nrem->Up r (arrOf st') lo (lo+m)->Q (some m) st') :
  wpS (model prog w) A E s (fU lo n nrem) Q st:=by
 unfold fU
 refine wpS_bind (wpS_lift (wpAny_rule ⟨rfl,?_⟩))
 refine wpS_bind (yc C hk hP hn (by exact xbb _) hnn hs fun m neq st' hB' hm1 hm2 hs' hq he=>?_)
 dsimp only
 have hz:=hB'.size
 have hsz:lo+m<=(arrOf st').size:=by lia
 have hk':=hB'.kind.trans hk
 have hP':=hP.perm hB'.perm
 by_cases hneq:neq>0
 ·rw [if_pos hneq]
  have hW:=gk (i:=lo+m - (neq+1)) hsz
  refine wpS_bind (dD (m9 C (hW.kind.trans hk') (hP'.perm hW.perm) (by rw [hW.size,hz]; exact hn) (by walk_at "s2") hm2 ?_ fun m2 st2 hB2=>h m2 st2 ((hB'.trans (hW.mono (by lia) (by lia))).trans hB2)))
  intro i j hl hij hj
  show R r (mirror (arrOf st') _ _ _) j<=R r (mirror (arrOf st') _ _ _) i
  rw [b7 hsz he,b7 hsz he]
  exact hs' i j hl hij hj
 ·rw [if_neg hneq]
  exact m9 C hk' hP' (by rw [hz]; exact hn) (by lia) hm2 hs' fun m2 st2 hB2=>h m2 st2 (hB'.trans hB2)
theorem wpS_countRun {st:SortSt} {lo nrem:Nat} {Q:Option Nat->SortSt->Prop} (C:Cmp prog w A s κ r P) (hk:kindOf st=κ) (hP:AllP P (arrOf st)) (hn:lo+nrem<=(arrOf st).size) (h1:1<=nrem)
  (h:∀ m st',Win lo (lo+nrem) st st'->1<=m->m<=nrem->Up r (arrOf st') lo (lo+m)->Q (some m) st') :
  wpS (model prog w) A E s (countRun' lo nrem) Q st:=by
 rw [rB]
 refine wpS_bind (uI C hk hP hn (xae 1) h1 (fun i j hl hij hj=>by
  have:i=j:=by lia
  subst this; exact xbj _) fun n hn1 hn2 hsn hor=>?_)
 dsimp only
 by_cases hnn:n=nrem
 ·rw [if_pos (by simpa using hnn)]
  exact wpS_pure (h n st (.refl _ _ _) hn1 hn2 hsn)
 ·rw [if_neg (by simpa using hnn)]
  have hlt:R r (arrOf st) (lo+n)<R r (arrOf st) (lo+n - 1):=hor.resolve_left hnn
  by_cases hgt:n>1
  ·rw [if_pos hgt]
   refine wpS_bind (kj C hk hP (by lia) (by lia) ?_)
   by_cases hrose:R r (arrOf st) lo<R r (arrOf st) (lo+n - 1)
   ·simp only [hrose,decide_true,if_true]
    exact wpS_pure (h n st (.refl _ _ _) hn1 hn2 hsn)
   ·simp only [hrose,decide_false,xam,if_false]
    have hsz:lo+n<=(arrOf st).size:=by lia
    have hall:∀ k,lo<=k->k<lo+n->R r (arrOf st) k=R r (arrOf st) (lo+n - 1):=by
     intro k hl hk
     have a1:=hsn lo k (by exact xae _) hl hk
     have a2:=hsn k (lo+n - 1) hl (by lia) (by lia)
     lia
    have hW:=gk (i:=lo) hsz
    refine wpS_bind (dD (gW C (hW.kind.trans hk) (hP.perm hW.perm) (by rw [hW.size]; exact hn) (by lia) ?_ fun m2 st2 hB2=>h m2 st2 ((hW.mono (xae _) (by lia)).trans hB2)))
    intro i j hl hij hj
    show R r (mirror (arrOf st) _ _ _) j<=R r (mirror (arrOf st) _ _ _) i
    rw [b7 hsz hall,b7 hsz hall]
    by_cases hjn:j<lo+n
    ·rw [hall i hl (by walk_at "s1"),hall j (by walk_at "s1") hjn]; exact xbj _
    ·have hj':j=lo+n:=by lia
     subst hj'
     by_cases hi':i=lo+n
     ·subst hi'; exact xbj _
     ·rw [hall i hl (by lia)]; exact xbs hlt
  ·rw [if_neg hgt]
   have hn1':n=1:=by lia
   subst hn1'
   refine gW C hk hP hn (by lia) ?_ h
   intro i j hl hij hj
   by_cases hi':i=j
   ·subst hi'; exact xbj _
   ·have hi0:i=lo:=by lia
    have hj1:j=lo+1:=by lia
    subst hi0; subst hj1
    exact xbs hlt
end
def xO (left:Bool) (key:Keyed) (arr:Array Keyed) (base i:Nat):StateT SortSt Sem (Option Bool):=do
 let x ← elem' arr (base+i)
 if left then lt' x key else return (<- lt' key x).map (!·)
def kZ:Bool->Keyed->Array Keyed->Nat->Nat->Nat->StateT SortSt Sem (Option Nat):=sortPriv% PySem.Builtin.gallop
section
variable {prog:Program} {w:World} {A:Around} {E:Value->Shared->Prop} {s:Shared} {κ:SortKind} {r:Value->Int} {P:Value->Prop}
def bey (r:Value->Int) (left:Bool) (key:Keyed) (arr:Array Keyed) (base i:Nat):Bool :=
 if left then decide (R r arr (base+i)<r key.1) else !decide (r key.1<R r arr (base+i))
theorem dX {st:SortSt} {left:Bool} {key:Keyed} {arr:Array Keyed} {base i:Nat} {Q:Option Bool->SortSt->Prop} (C:Cmp prog w A s κ r P) (hk:kindOf st=κ) (hP:AllP P arr) (hy:P key.1) (hi:base+i<arr.size)
  (h:Q (some (bey r left key arr base i)) st):wpS (model prog w) A E s (xO left key arr base i) Q st:=by
 unfold xO
 refine wpS_bind (aJ hi fun p ep=>?_)
 have e1:R r arr (base+i)=r p.1:=by unfold R; rw [ep]
 unfold bey at h
 rw [e1] at h
 cases left with
 | true =>
  simp only [if_true] at h ⊢
  exact rA C hk (hP.at ep) hy h
 | false =>
  simp only [xam,if_false] at h ⊢
  exact wpS_bind (rA C hk hy (hP.at ep) (wpS_pure h))
theorem yJ (hu:Up r arr base (base+n)) (hij:i<=j) (hj:j<n) (h:bey r left key arr base j=true):bey r left key arr base i=true:=by
 have q:=hu (base+i) (base+j) (by lia) (by lia) (by lia)
 unfold bey at h ⊢
 cases left with
 | true=>simp only [if_true,decide_eq_true_eq] at h ⊢; lia
 | false=>simp only [xam,if_false,xcG,decide_eq_false_iff_not] at h ⊢; lia
theorem di {st:SortSt} {left:Bool} {key:Keyed} {arr:Array Keyed} {base n hint:Nat} {Q:Option Nat->SortSt->Prop} (C:Cmp prog w A s κ r P) (hk:kindOf st=κ) (hP:AllP P arr) (hy:P key.1) (hn:base+n<=arr.size) (hh:hint<n)
  (hu:Up r arr base (base+n))
  (h:∀ k,k<=n->(∀ i,i<k->bey r left key arr base i=true)->(∀ i,k<=i->i<n->bey r left key arr base i=false)->Q (some k) st):wpS (model prog w) A E s (kZ left key arr base n hint) Q st:=by
 have mono:∀ {i j},i<=j->j<n->bey r left key arr base j=true->bey r left key arr base i=true:=fun a b c=>yJ hu a b c
 have monoF:∀ {i j},i<=j->j<n->bey r left key arr base i=false->bey r left key arr base j=false:=fun {i j} a b c=>by
  cases q:bey r left key arr base j with
  | false=>rfl
  | true=>rw [mono a b q] at c; cases c
 refine wpS_bind (dX C hk hP hy (by lia) ?_)
 dsimp only
 cases q0:bey r left key arr base hint with
 | true =>
  simp only [if_true]
  refine wpS_bind (wpS_mono (wpS_forRange (I:=fun x c st'=>st'=st/\∃ lst ofs,c=(none,lst,ofs)/\lst<ofs/\lst<n - hint/\x+1<=ofs/\bey r left key arr base (hint+lst)=true)
   (Q:=fun c st'=>st'=st/\∃ lst ofs,c=(none,lst,ofs)/\lst<ofs/\lst<n - hint/\bey r left key arr base (hint+lst)=true/\(n - hint<=ofs\/bey r left key arr base (hint+ofs)=false)) ?step ?fin ?init) ?post)
  case init=>exact ⟨rfl,0,1,rfl,by exact xbb _,by lia,by exact xbb _,q0⟩
  case fin =>
   rintro c st' ⟨rfl,lst,ofs,rfl,h1,h2,h3,h4⟩
   exact ⟨rfl,lst,ofs,rfl,h1,h2,h4,.inl (by lia)⟩
  case step =>
   rintro x c st' _ hx ⟨rfl,lst,ofs,rfl,h1,h2,h3,h4⟩
   dsimp only
   by_cases hge:ofs >= n - hint
   ·rw [if_pos hge]
    exact wpS_pure ⟨rfl,lst,ofs,rfl,h1,h2,h4,.inl hge⟩
   ·rw [if_neg hge]
    refine wpS_bind (dX C hk hP hy (by lia) ?_)
    cases q:bey r left key arr base (hint+ofs) with
    | true =>
     simp only [xcH,xam,if_false]
     exact wpS_pure ⟨rfl,_,_,rfl,by lia,by exact xbw ‹_›,by lia,q⟩
    | false =>
     simp only [Bool.not_false,if_true]
     exact wpS_pure ⟨rfl,lst,ofs,rfl,h1,h2,h4,.inr q⟩
  case post =>
   rintro c st' ⟨rfl,lst,ofs,rfl,h1,h2,h4,h5⟩
   dsimp only
   generalize st'=st at *
   have hl:∀ i,i<hint+lst+1->bey r left key arr base i=true:=fun i hi=>mono (j:=hint+lst) (by lia) (by lia) h4
   have hhi:∀ i,hint+min ofs (n - hint)<=i->i<n->bey r left key arr base i=false:=fun i hi hin=>by
    rcases h5 with h5 | h5
    ·lia
    ·by_cases z:n - hint<=ofs
     ·lia
     ·exact monoF (i:=hint+ofs) (by lia) hin h5
   have hlh:hint+lst+1<=hint+min ofs (n - hint):=by lia
   have hhn:hint+min ofs (n - hint)<=n:=by lia
   generalize hint+lst+1=lo at *
   generalize hint+min ofs (n - hint)=hi at *
   refine wpS_bind (wpS_mono (wpS_forRange (I:=fun x c st'=>st'=st/\∃ l u,c=(none,l,u)/\l<=u/\u<=n/\u - l<=n - x/\(∀ i,i<l->bey r left key arr base i=true)/\(∀ i,u<=i->i<n->bey r left key arr base i=false))
    (Q:=fun c st'=>st'=st/\∃ l,c=(none,l,l)/\l<=n/\(∀ i,i<l->bey r left key arr base i=true)/\(∀ i,l<=i->i<n->bey r left key arr base i=false)) ?stepA ?finA ?initA) ?postA)
   case initA=>exact ⟨rfl,lo,hi,rfl,hlh,hhn,by lia,hl,hhi⟩
   case finA =>
    rintro c st' ⟨rfl,l,u,rfl,h1,h2,h3,h4,h5⟩
    have:l=u:=by lia
    subst this
    exact ⟨rfl,l,rfl,h2,h4,h5⟩
   case stepA =>
    rintro x c st' _ hx ⟨rfl,l,u,rfl,h1,h2,h3,h4,h5⟩
    dsimp only
    by_cases hge:l >= u
    ·rw [if_pos hge]
     have:l=u:=by exact xb7 ‹_› ‹_›
     subst this
     exact wpS_pure ⟨rfl,l,rfl,h2,h4,h5⟩
    ·rw [if_neg hge]
     refine wpS_bind (dX C hk hP hy (by lia) ?_)
     cases q:bey r left key arr base (l+(u - l) / 2) with
     | true =>
      simp only [if_true]
      exact wpS_pure ⟨rfl,_,_,rfl,by lia,by lia,by lia,fun i hi=>mono (j:=l+(u - l) / 2) (by lia) (by lia) q,h5⟩
     | false =>
      simp only [xam,if_false]
      exact wpS_pure ⟨rfl,_,_,rfl,by exact xbK _ _,by lia,by lia,h4,fun i hi hin=>monoF (i:=l+(u - l) / 2) (by lia) hin q⟩
   case postA =>
    rintro c st' ⟨rfl,l,rfl,h2,h4,h5⟩
    exact wpS_pure (h l h2 h4 h5)
 | false =>
  simp only [xam,if_false]
  refine wpS_bind (wpS_mono (wpS_forRange (I:=fun x c st'=>st'=st/\∃ lst ofs,c=(none,lst,ofs)/\lst<ofs/\lst<hint+1/\x+1<=ofs/\bey r left key arr base (hint - lst)=false)
   (Q:=fun c st'=>st'=st/\∃ lst ofs,c=(none,lst,ofs)/\lst<ofs/\lst<hint+1/\bey r left key arr base (hint - lst)=false/\(hint+1<=ofs\/bey r left key arr base (hint - ofs)=true)) ?step2 ?fin2 ?init2) ?post2)
  case init2=>exact ⟨rfl,0,1,rfl,by exact xbb _,by exact xbb _,by exact xbb _,q0⟩
  case fin2 =>
   rintro c st' ⟨rfl,lst,ofs,rfl,h1,h2,h3,h4⟩
   exact ⟨rfl,lst,ofs,rfl,h1,h2,h4,.inl (by walk_at "s2")⟩
  case step2 =>
   rintro x c st' _ hx ⟨rfl,lst,ofs,rfl,h1,h2,h3,h4⟩
   dsimp only
   by_cases hge:ofs >= hint+1
   ·rw [if_pos hge]
    exact wpS_pure ⟨rfl,lst,ofs,rfl,h1,h2,h4,.inl hge⟩
   ·rw [if_neg hge]
    refine wpS_bind (dX C hk hP hy (by lia) ?_)
    cases q:bey r left key arr base (hint - ofs) with
    | true =>
     simp only [if_true]
     exact wpS_pure ⟨rfl,lst,ofs,rfl,h1,h2,h4,.inr q⟩
    | false =>
     simp only [xam,if_false]
     exact wpS_pure ⟨rfl,_,_,rfl,by lia,by exact xbw ‹_›,by lia,q⟩
  case post2 =>
   rintro c st' ⟨rfl,lst,ofs,rfl,h1,h2,h4,h5⟩
   dsimp only
   generalize st'=st at *
   have hl:∀ i,i<hint+1 - min ofs (hint+1)->bey r left key arr base i=true:=fun i hi=>by
    rcases h5 with h5 | h5
    ·lia
    ·by_cases z:hint+1<=ofs
     ·lia
     ·exact mono (j:=hint - ofs) (by lia) (by lia) h5
   have hhi:∀ i,hint - lst<=i->i<n->bey r left key arr base i=false:=fun i hi hin=>monoF (i:=hint - lst) (by lia) hin h4
   have hlh:hint+1 - min ofs (hint+1)<=hint - lst:=by lia
   have hhn:hint - lst<=n:=by lia
   generalize hint+1 - min ofs (hint+1)=lo at *
   generalize hint - lst=hi at *
   refine wpS_bind (wpS_mono (wpS_forRange (I:=fun x c st'=>st'=st/\∃ l u,c=(none,l,u)/\l<=u/\u<=n/\u - l<=n - x/\(∀ i,i<l->bey r left key arr base i=true)/\(∀ i,u<=i->i<n->bey r left key arr base i=false))
    (Q:=fun c st'=>st'=st/\∃ l,c=(none,l,l)/\l<=n/\(∀ i,i<l->bey r left key arr base i=true)/\(∀ i,l<=i->i<n->bey r left key arr base i=false)) ?stepB ?finB ?initB) ?postB)
   case initB=>exact ⟨rfl,lo,hi,rfl,hlh,hhn,by lia,hl,hhi⟩
   case finB =>
    rintro c st' ⟨rfl,l,u,rfl,h1,h2,h3,h4,h5⟩
    have:l=u:=by lia
    subst this
    exact ⟨rfl,l,rfl,h2,h4,h5⟩
   case stepB =>
    rintro x c st' _ hx ⟨rfl,l,u,rfl,h1,h2,h3,h4,h5⟩
    dsimp only
    by_cases hge:l >= u
    ·rw [if_pos hge]
     have:l=u:=by exact xb7 ‹_› ‹_›
     subst this
     exact wpS_pure ⟨rfl,l,rfl,h2,h4,h5⟩
    ·rw [if_neg hge]
     refine wpS_bind (dX C hk hP hy (by lia) ?_)
     cases q:bey r left key arr base (l+(u - l) / 2) with
     | true =>
      simp only [if_true]
      exact wpS_pure ⟨rfl,_,_,rfl,by lia,by lia,by lia,fun i hi=>mono (j:=l+(u - l) / 2) (by lia) (by lia) q,h5⟩
     | false =>
      simp only [xam,if_false]
      exact wpS_pure ⟨rfl,_,_,rfl,by exact xbK _ _,by lia,by lia,h4,fun i hi hin=>monoF (i:=l+(u - l) / 2) (by lia) hin q⟩
   case postB =>
    rintro c st' ⟨rfl,l,rfl,h2,h4,h5⟩
    exact wpS_pure (h l h2 h4 h5)
end
abbrev Le (r:Value->Int) (x y:Keyed):Prop:=r x.1<=r y.1
theorem R_at (e:xs[i]? = some p):R r xs i=r p.1:=by unfold R; rw [e]
theorem Fg (h:i<xs.size):R r xs i=r xs[i].1:=R_at (getElem?_pos xs i h)
structure MI (r:Value->Int) (a b out:Array Keyed) (ia ib:Nat):Prop where
 ha:ia<=a.size
 hb:ib<=b.size
 perm:out.toList.Perm (a.toList.take ia++b.toList.take ib)
 up:out.toList.Pairwise (Le r)
 la:∀ x∈out.toList,∀ i,ia<=i->i<a.size->r x.1<=R r a i
 lb:∀ x∈out.toList,∀ j,ib<=j->j<b.size->r x.1<=R r b j
section
variable {r:Value->Int} {a b out:Array Keyed} {ia ib:Nat}
theorem mR {α:Type} {l:List α} {i:Nat} {x:α} (h:l[i]? = some x):l.take (i+1)=l.take i++[x]:=by
 rw [xbG,h]; rfl
theorem MI.qx (M:MI r a b out ia ib) (hA:Up r a 0 a.size) (hB:Up r b 0 b.size) (e:b[ib]? = some y) (hl:ia<a.size->R r b ib<=R r a ia):MI r a b (out.push y) ia (ib+1):=by
 have hib:ib<b.size:=(xa7.mp e).1
 have ey:=R_at (r:=r) e
 refine ⟨M.ha,hib,?_,?_,?_,?_⟩
 ·rw [xaE,mR (x:=y) (by simpa using e),<- xa6]
  exact M.perm.append_right _
 ·rw [xaE,xbZ]
  refine ⟨M.up,by simp,fun x hx z hz=>?_⟩
  have:z=y:=by simpa using hz
  subst this
  show r x.1<=r z.1
  rw [<- ey]
  exact M.lb x hx ib (xae _) hib
 ·intro x hx i hi hia
  rw [xaE] at hx
  rcases xak.mp hx with hx | hx
  ·exact M.la x hx i hi hia
  ·have:x=y:=by simpa using hx
   subst this
   rw [<- ey]
   exact xa3 (hl (by lia)) (hA ia i (xaq _) hi hia)
 ·intro x hx j hj hjb
  rw [xaE] at hx
  rcases xak.mp hx with hx | hx
  ·exact M.lb x hx j (by lia) hjb
  ·have:x=y:=by simpa using hx
   subst this
   rw [<- ey]
   exact hB ib j (xaq _) (by lia) hjb
theorem MI.qG (M:MI r a b out ia ib) (hA:Up r a 0 a.size) (hB:Up r b 0 b.size) (e:a[ia]? = some y) (hl:ib<b.size->R r a ia<=R r b ib):MI r a b (out.push y) (ia+1) ib:=by
 have hia:ia<a.size:=(xa7.mp e).1
 have ey:=R_at (r:=r) e
 refine ⟨hia,M.hb,?_,?_,?_,?_⟩
 ·rw [xaE,mR (x:=y) (by simpa using e),xa6]
  refine (M.perm.append_right [y]).trans ?_
  rw [xa6]
  exact List.Perm.append_left _ xcf
 ·rw [xaE,xbZ]
  refine ⟨M.up,by simp,fun x hx z hz=>?_⟩
  have:z=y:=by simpa using hz
  subst this
  show r x.1<=r z.1
  rw [<- ey]
  exact M.la x hx ia (xae _) hia
 ·intro x hx i hi hi2
  rw [xaE] at hx
  rcases xak.mp hx with hx | hx
  ·exact M.la x hx i (by lia) hi2
  ·have:x=y:=by simpa using hx
   subst this
   rw [<- ey]
   exact hA ia i (xaq _) (by lia) hi2
 ·intro x hx j hj hjb
  rw [xaE] at hx
  rcases xak.mp hx with hx | hx
  ·exact M.lb x hx j hj hjb
  ·have:x=y:=by simpa using hx
   subst this
   rw [<- ey]
   exact xa3 (hl (by lia)) (hB ib j (xaq _) hj hjb)
theorem fY {xs:Array Keyed} {i k:Nat} (h:i+k<xs.size):xs.extract i (i+(k+1))=(xs.extract i (i+k)).push xs[i+k]:=by
 apply xb2.mp
 rw [xaE]
 simp only [xcr,xb4]
 rw [show i+(k+1) - i=k+1 by exact Nat.add_sub_cancel_left ..,show i+k - i=k by exact Nat.add_sub_cancel_left ..,xbG]
 congr 1
 rw [List.getElem?_drop]
 simp [h]
theorem MI.addA (hA:Up r a 0 a.size) (hB:Up r b 0 b.size):∀ (k:Nat) {out:Array Keyed} {ia:Nat},MI r a b out ia ib->ia+k<=a.size->(ib<b.size->∀ i,i<k->R r a (ia+i)<=R r b ib)->MI r a b (out++a.extract ia (ia+k)) (ia+k) ib
 | 0,out,ia,M,h1,h2=>by
  have:a.extract ia (ia+0) = #[]:=xa8 (by simp only [xbl]; lia)
  rw [this]
  simpa using M
 | k+1,out,ia,M,h1,h2=>by
  have q:=MI.addA hA hB k M (by exact xaL ‹_›) fun hb i hi=>h2 hb i (by exact xaS ‹_›)
  have e:a[ia+k]? = some a[ia+k]:=getElem?_pos a (ia+k) (by assumption)
  have z:=q.qG hA hB e fun hb=>h2 hb k (by exact xae _)
  rw [fY (by assumption),Array.append_push]
  exact z
theorem MI.addB (hA:Up r a 0 a.size) (hB:Up r b 0 b.size):∀ (k:Nat) {out:Array Keyed} {ib:Nat},MI r a b out ia ib->ib+k<=b.size->(ia<a.size->∀ i,i<k->R r b (ib+i)<=R r a ia)->MI r a b (out++b.extract ib (ib+k)) ia (ib+k)
 | 0,out,ib,M,h1,h2=>by
  have:b.extract ib (ib+0) = #[]:=xa8 (by simp only [xbl]; lia)
  rw [this]
  simpa using M
 | k+1,out,ib,M,h1,h2=>by
  have q:=MI.addB hA hB k M (by exact xaL ‹_›) fun ha i hi=>h2 ha i (by exact xaS ‹_›)
  have e:b[ib+k]? = some b[ib+k]:=getElem?_pos b (ib+k) (by assumption)
  have z:=q.qx hA hB e fun ha=>h2 ha k (by exact xae _)
  rw [fY (by assumption),Array.append_push]
  exact z
def cG (r:Value->Int) (a b out:Array Keyed):Prop:=out.toList.Perm (a.toList++b.toList)/\out.toList.Pairwise (Le r)
theorem MI.whole (M:MI r a b out a.size b.size):cG r a b out:=by
 refine ⟨?_,M.up⟩
 have h:=M.perm
 rw [xbg (by simp),xbg (by simp)] at h
 exact h
theorem MI.Gp (M:MI r a b out ia b.size) (hA:Up r a 0 a.size) (hB:Up r b 0 b.size):cG r a b (out++a.extract ia a.size++b.extract b.size b.size):=by
 have e:b.extract b.size b.size = #[]:=by simp
 rw [e,xcD]
 have ha:=M.ha
 have q:=MI.addA hA hB (a.size - ia) M (by lia) fun hb=>absurd hb (xa2 _)
 rw [show ia+(a.size - ia)=a.size by exact xbr ‹_›] at q
 exact q.whole
theorem MI.Hh (M:MI r a b out a.size ib) (hA:Up r a 0 a.size) (hB:Up r b 0 b.size):cG r a b (out++a.extract a.size a.size++b.extract ib b.size):=by
 have e:a.extract a.size a.size = #[]:=by simp
 rw [e,xcD]
 have hb:=M.hb
 have q:=MI.addB hA hB (b.size - ib) M (by lia) fun ha=>absurd ha (xa2 _)
 rw [show ib+(b.size - ib)=b.size by exact xbr ‹_›] at q
 exact q.whole
theorem MI.endB (M:MI r a b out ia ib) (hA:Up r a 0 a.size) (hB:Up r b 0 b.size) (e:ib=b.size):cG r a b (out++a.extract ia a.size++b.extract ib b.size):=by subst e; exact M.Gp hA hB
theorem MI.endA (M:MI r a b out ia ib) (hA:Up r a 0 a.size) (hB:Up r b 0 b.size) (e:ia=a.size):cG r a b (out++a.extract ia a.size++b.extract ib b.size):=by subst e; exact M.Hh hA hB
theorem MI.GF (M:MI r a b out ia ib) (hA:Up r a 0 a.size) (hB:Up r b 0 b.size) (hia:ia+1=a.size) (hg:∀ j,j<b.size->R r b j<=R r a ia):cG r a b (out++b.extract ib b.size++a.extract ia a.size):=by
 have hb:=M.hb
 have q:=MI.addB hA hB (b.size - ib) M (by lia) fun ha i hi=>hg _ (by lia)
 rw [show ib+(b.size - ib)=b.size by exact xbr ‹_›] at q
 have z:=MI.addA hA hB (a.size - ia) q (by lia) fun hb=>absurd hb (xa2 _)
 rw [show ia+(a.size - ia)=a.size by lia] at z
 exact z.whole
theorem MI.start (hA:Up r a 0 a.size) (hB:Up r b 0 b.size):MI r a b #[] 0 0:=⟨xaq _,xaq _,by simp,by simp,fun x hx=>by simp at hx,fun x hx=>by simp at hx⟩
end
def bL:Nat->StateT SortSt Sem Unit:=sortPriv% PySem.Builtin.setMinGallop
def tD:Array Keyed->Array Keyed->StateT SortSt Sem (Array Keyed):=sortPriv% PySem.Builtin.mergeLo
def uq:Array Keyed->Array Keyed->StateT SortSt Sem (Array Keyed):=sortPriv% PySem.Builtin.mergeHi
theorem jC (g:Nat):bL g=modify fun s=>SortSt.mk' (kindOf s) (arrOf s) (pendingOf s) g (failedOf s):=rfl
def Mg (st st':SortSt):Prop:=∃ g,st'=SortSt.mk' (kindOf st) (arrOf st) (pendingOf st) g (failedOf st)
theorem Mg.refl (st:SortSt):Mg st st:=⟨gallopOf st,rfl⟩
theorem Mg.kind {st st':SortSt} (h:Mg st st'):kindOf st'=kindOf st:=by obtain ⟨g,rfl⟩:=h; rfl
theorem Mg.set {st st':SortSt} (h:Mg st st') (g:Nat):Mg st (SortSt.mk' (kindOf st') (arrOf st') (pendingOf st') g (failedOf st')):=by obtain ⟨g',rfl⟩:=h; exact ⟨g,rfl⟩
section
variable {prog:Program} {w:World} {A:Around} {E:Value->Shared->Prop} {s:Shared} {r:Value->Int}
theorem gQ {st:SortSt} {g:Nat} {Q:Unit->SortSt->Prop} (h:Q () (SortSt.mk' (kindOf st) (arrOf st) (pendingOf st) g (failedOf st))):wpS (model prog w) A E s (bL g) Q st:=by
 rw [jC]; exact wpS_modify h
theorem zb (h:bey r false key arr base i=true):R r arr (base+i)<=r key.1:=by
 unfold bey at h; simp only [xam,if_false,xcG,decide_eq_false_iff_not] at h; lia
theorem wI (h:bey r false key arr base i=false):r key.1<R r arr (base+i):=by
 unfold bey at h; simp only [xam,if_false,Bool.not_eq_false',decide_eq_true_eq] at h; exact h
theorem Cr (h:bey r true key arr base i=true):R r arr (base+i)<r key.1:=by
 unfold bey at h; simp only [if_true,decide_eq_true_eq] at h; exact h
theorem uH (h:bey r true key arr base i=false):r key.1<=R r arr (base+i):=by
 unfold bey at h; simp only [if_true,decide_eq_false_iff_not] at h; lia
end
theorem Mg.trans {a b c:SortSt} (h:Mg a b) (g:Mg b c):Mg a c:=by obtain ⟨x,rfl⟩:=h; obtain ⟨y,rfl⟩:=g; exact ⟨y,rfl⟩
theorem Ba {K G:Prop} (pk:K) (h:K->G):G:=h pk
abbrev SM:=StateT SortSt Sem
abbrev L1:=Option (Array Keyed) × Array Keyed × Nat × Nat × Nat
abbrev L2':=Option (Array Keyed) × Array Keyed × Nat × Nat × Nat × Nat
abbrev L3:=Option (Array Keyed) × Array Keyed × Nat × Nat × Nat × Nat × Nat
def loE (a b out:Array Keyed) (ia ib:Nat):Array Keyed:=out++a.extract ia a.size++b.extract ib b.size
def loF (a b out:Array Keyed) (ia ib:Nat):Array Keyed:=out++b.extract ib b.size++a.extract ia a.size
def lo3 (a b:Array Keyed) (mg ac bc ia ib:Nat) (out:Array Keyed):SM (ForInStep L3):=elem' a ia >>= fun p =>
 if (ia+1+1 == a.size)=true then pure (.done (some (loF a b (out.push p) (ia+1) ib),out.push p,ia+1,ib,mg,ac,bc))
 else if (decide (ac<7) && decide (bc<7))=true then pure (.done (none,out.push p,ia+1,ib,mg,ac,bc)) else pure (.yield (none,out.push p,ia+1,ib,mg,ac,bc))
def lo2 (a b:Array Keyed) (mg ac bc ia ib:Nat) (out:Array Keyed):SM (ForInStep L3):=elem' a ia >>= fun p=>kZ true p b ib (b.size - ib) 0 >>= fun x=>match x with
 | some k=>if k>0 then
   if (ib+k == b.size)=true then pure (.done (some (loE a b (out++b.extract ib (ib+k)) ia (ib+k)),out++b.extract ib (ib+k),ia,ib+k,mg,ac,k))
   else lo3 a b mg ac k ia (ib+k) (out++b.extract ib (ib+k))
  else lo3 a b mg ac k ia ib out
 | _=>pure (.done (some (loE a b out ia ib),out,ia,ib,mg,ac,bc))
def lo1 (a b:Array Keyed) (mg ac bc ia ib:Nat) (out:Array Keyed):SM (ForInStep L3):=elem' b ib >>= fun p =>
 if (ib+1 == b.size)=true then pure (.done (some (loE a b (out.push p) ia (ib+1)),out.push p,ia,ib+1,mg,ac,bc)) else lo2 a b mg ac bc ia (ib+1) (out.push p)
def lo0 (a b:Array Keyed) (mg ac bc ia ib:Nat) (out:Array Keyed):SM (ForInStep L3):=bL mg >>= fun _=>elem' b ib >>= fun p=>kZ false p a ia (a.size - ia) 0 >>= fun x=>match x with
 | some k=>if k>0 then
   if (ia+k+1 == a.size)=true then pure (.done (some (loF a b (out++a.extract ia (ia+k)) (ia+k) ib),out++a.extract ia (ia+k),ia+k,ib,mg,k,bc))
   else if (ia+k == a.size)=true then pure (.done (some (loE a b (out++a.extract ia (ia+k)) (ia+k) ib),out++a.extract ia (ia+k),ia+k,ib,mg,k,bc))
   else lo1 a b mg k bc (ia+k) ib (out++a.extract ia (ia+k))
  else lo1 a b mg k bc ia ib out
 | _=>pure (.done (some (loE a b out ia ib),out,ia,ib,mg,ac,bc))
def loG (a b:Array Keyed) (_:Nat) (s:L3):SM (ForInStep L3) :=
 if s.2.2.2.2.1>1 then lo0 a b (s.2.2.2.2.1 - 1) s.2.2.2.2.2.1 s.2.2.2.2.2.2 s.2.2.1 s.2.2.2.1 s.2.1 else lo0 a b s.2.2.2.2.1 s.2.2.2.2.2.1 s.2.2.2.2.2.2 s.2.2.1 s.2.2.2.1 s.2.1
def loA (a b:Array Keyed) (mg bc ia ib:Nat) (out:Array Keyed):SM (ForInStep L2'):=elem' b ib >>= fun p =>
 if (ib+1 == b.size)=true then pure (.done (some (loE a b (out.push p) ia (ib+1)),out.push p,ia,ib+1,0,bc+1))
 else if bc+1 >= mg then pure (.done (none,out.push p,ia,ib+1,0,bc+1)) else pure (.yield (none,out.push p,ia,ib+1,0,bc+1))
def loB (a b:Array Keyed) (mg ac ia ib:Nat) (out:Array Keyed):SM (ForInStep L2'):=elem' a ia >>= fun p =>
 if (ia+1+1 == a.size)=true then pure (.done (some (loF a b (out.push p) (ia+1) ib),out.push p,ia+1,ib,ac+1,0))
 else if ac+1 >= mg then pure (.done (none,out.push p,ia+1,ib,ac+1,0)) else pure (.yield (none,out.push p,ia+1,ib,ac+1,0))
def loI (a b:Array Keyed) (mg:Nat) (_:Nat) (s:L2'):SM (ForInStep L2'):=elem' b s.2.2.2.1 >>= fun pb=>elem' a s.2.2.1 >>= fun pa=>lt' pb pa >>= fun x=>match x with
 | some w=>if w=true then loA a b mg s.2.2.2.2.2 s.2.2.1 s.2.2.2.1 s.2.1 else loB a b mg s.2.2.2.2.1 s.2.2.1 s.2.2.2.1 s.2.1
 | _=>pure (.done (some (loE a b s.2.1 s.2.2.1 s.2.2.2.1),s.2.1,s.2.2.1,s.2.2.2.1,s.2.2.2.2.1,s.2.2.2.2.2))
def loP (a b:Array Keyed) (mg:Nat) (t:L2'):SM (ForInStep L1):=(liftM (rule "list.sort.gallop"):SM Unit) >>= fun _ =>
 forIn [:a.size+b.size] ((none,t.2.1,t.2.2.1,t.2.2.2.1,mg+1,t.2.2.2.2.1,t.2.2.2.2.2):L3) (loG a b) >>= fun u=>match u.1 with
 | some r=>pure (.done (some r,u.2.1,u.2.2.1,u.2.2.2.1,u.2.2.2.2.1))
 | none=>bL (u.2.2.2.2.1+1) >>= fun _=>pure (.yield (none,u.2.1,u.2.2.1,u.2.2.2.1,u.2.2.2.2.1+1))
def loO (a b:Array Keyed) (_:Nat) (s:L1):SM (ForInStep L1):=forIn [:a.size+b.size] ((none,s.2.1,s.2.2.1,s.2.2.2.1,0,0):L2') (loI a b s.2.2.2.2) >>= fun t=>match t.1 with
 | some r=>pure (.done (some r,t.2.1,t.2.2.1,t.2.2.2.1,s.2.2.2.2))
 | none=>loP a b s.2.2.2.2 t
def loM (a b:Array Keyed):SM (Array Keyed):=(liftM (rule "list.sort.merge-lo"):SM Unit) >>= fun _=>elem' b 0 >>= fun y =>
 if (1 == b.size)=true then pure (loE a b #[y] 0 1)
 else if (0+1 == a.size)=true then pure (loF a b #[y] 0 1)
 else get >>= fun st=>forIn [:a.size+b.size] ((none,#[y],0,1,gallopOf st):L1) (loO a b) >>= fun t=>match t.1 with
 | some r=>pure r
 | none=>(liftM (unsupported (α:=Array Keyed) "internal:list.sort.merge-bound"):SM (Array Keyed))
set_option smartUnfolding false in
theorem vy:tD=loM:=rfl
section
variable {prog:Program} {w:World} {A:Around} {E:Value->Shared->Prop} {s:Shared} {κ:SortKind} {r:Value->Int} {P:Value->Prop} {a b out:Array Keyed} {mg ac bc ia ib N:Nat} {st:SortSt}
structure MC (prog:Program) (w:World) (A:Around) (s:Shared) (κ:SortKind) (r:Value->Int) (P:Value->Prop) (a b:Array Keyed):Prop where
 C:Cmp prog w A s κ r P
 pa:AllP P a
 pb:AllP P b
 hA:Up r a 0 a.size
 hB:Up r b 0 b.size
 hl:∀ i,i<a.size->R r b 0<=R r a i
 hg:∀ j,j<b.size->R r b j<=R r a (a.size - 1)
def HS {β:Type} (r:Value->Int) (a b:Array Keyed) (c:Option (Array Keyed) × β):Prop:=∃ out rest,c=(some out,rest)/\cG r a b out
def LY (r:Value->Int) (a b:Array Keyed) (N:Nat) (c:L3):Prop:=∃ out ia ib mg ac bc,c=(none,out,ia,ib,mg,ac,bc)/\MI r a b out ia ib/\ia+1<a.size/\ib<b.size/\N<=ia+ib
def LI (r:Value->Int) (a b:Array Keyed) (N:Nat) (c:L2'):Prop:=∃ out ia ib ac bc,c=(none,out,ia,ib,ac,bc)/\MI r a b out ia ib/\ia+1<a.size/\ib<b.size/\N<=ia+ib
theorem MC.last (c:MC prog w A s κ r P a b) (M:MI r a b out ia ib) (z:ia+1=a.size):cG r a b (loF a b out ia ib):=M.GF c.hA c.hB z fun j hj=>by
 have:=c.hg j hj
 rwa [show a.size - 1=ia by lia] at this
theorem z8 (c:MC prog w A s κ r P a b) (M:MI r a b out ia ib) (h1:ia+1<a.size) (lt:R r a ia<=R r b ib) (h2:ib<b.size) (hN:N<=ia+ib) (D:∀ c,HS r a b c->Q (.done c) st) (Y:∀ c,LY r a b N c->Q (.done c) st/\Q (.yield c) st):wpS (model prog w) A E s (lo3 a b mg ac bc ia ib out) Q st:=by
 refine wpS_bind (aJ (by lia) fun p e=>?_)
 have M2:=M.qG c.hA c.hB e fun _=>lt
 by_cases z:ia+1+1=a.size
 ·rw [if_pos (by simpa using z)]
  exact wpS_pure (D _ ⟨_,_,rfl,c.last M2 z⟩)
 ·rw [if_neg (by simpa using z)]
  have y:=Y _ ⟨_,_,_,mg,ac,bc,rfl,M2,by lia,h2,by lia⟩
  split
  ·exact wpS_pure y.1
  ·exact wpS_pure y.2
theorem DN (c:MC prog w A s κ r P a b) (hk:kindOf st=κ) (M:MI r a b out ia ib) (h1:ia+1<a.size) (h2:ib<b.size) (hN:N<=ia+ib) (D:∀ c,HS r a b c->Q (.done c) st) (Y:∀ c,LY r a b N c->Q (.done c) st/\Q (.yield c) st):wpS (model prog w) A E s (lo2 a b mg ac bc ia ib out) Q st:=by
 refine wpS_bind (aJ (by lia) fun p e=>wpS_bind (di c.C hk c.pb (c.pa.at e) (by lia) (by lia) (fun i j u v w=>c.hB i j (by lia) v (by lia)) fun l hl1 hl2 hl3=>?_))
 have ra:=R_at (r:=r) e
 dsimp only
 have lt:ib+l<b.size->R r a ia<=R r b (ib+l):=fun z=>by have:=uH (hl3 l (xae _) (by lia)); lia
 by_cases l0:l>0
 ·have M5:=MI.addB c.hA c.hB l M (by lia) fun _ i hi=>by have:=Cr (hl2 i hi); lia
  rw [if_pos l0]
  by_cases z:ib+l=b.size
  ·rw [if_pos (by simpa using z)]
   exact wpS_pure (D _ ⟨_,_,rfl,M5.endB c.hA c.hB z⟩)
  ·rw [if_neg (by simpa using z)]
   exact z8 c M5 h1 (lt (by lia)) (by lia) (by lia) D Y
 ·rw [if_neg l0]
  obtain rfl:l=0:=by lia
  exact z8 c M h1 (lt h2) h2 hN D Y
theorem z7 (c:MC prog w A s κ r P a b) (hk:kindOf st=κ) (M:MI r a b out ia ib) (h1:ia+1<a.size) (lt:R r b ib<=R r a ia) (h2:ib<b.size) (hN:N<=ia+ib) (D:∀ c,HS r a b c->Q (.done c) st) (Y:∀ c,LY r a b N c->Q (.done c) st/\Q (.yield c) st):wpS (model prog w) A E s (lo1 a b mg ac bc ia ib out) Q st:=by
 refine wpS_bind (aJ h2 fun p e=>?_)
 have M4:=M.qx c.hA c.hB e fun _=>lt
 by_cases z:ib+1=b.size
 ·rw [if_pos (by simpa using z)]
  exact wpS_pure (D _ ⟨_,_,rfl,M4.endB c.hA c.hB z⟩)
 ·rw [if_neg (by simpa using z)]
  exact DN c hk M4 h1 (by lia) (by lia) D Y
theorem DK (c:MC prog w A s κ r P a b) (hk:kindOf st=κ) (M:MI r a b out ia ib) (h1:ia+1<a.size) (h2:ib<b.size) (hN:N<=ia+ib) (D:∀ st',Mg st st'->∀ c,HS r a b c->Q (.done c) st') (Y:∀ st',Mg st st'->∀ c,LY r a b N c->Q (.done c) st'/\Q (.yield c) st'):wpS (model prog w) A E s (lo0 a b mg ac bc ia ib out) Q st:=by
 have g:=(Mg.refl st).set mg
 refine wpS_bind (gQ ?_)
 refine wpS_bind (aJ h2 fun p e=>wpS_bind (di c.C (g.kind.trans hk) c.pa (c.pb.at e) (by lia) (by lia) (fun i j u v w=>c.hA i j (by lia) v (by lia)) fun k hk1 hk2 hk3=>?_))
 have rb:=R_at (r:=r) e
 dsimp only
 have lt:ia+k<a.size->R r b ib<=R r a (ia+k):=fun z=>by have:=wI (hk3 k (xae _) (by lia)); lia
 by_cases k0:k>0
 ·have M3:=MI.addA c.hA c.hB k M (by lia) fun _ i hi=>by have:=zb (hk2 i hi); lia
  rw [if_pos k0]
  by_cases z:ia+k+1=a.size
  ·rw [if_pos (by simpa using z)]
   exact wpS_pure (D _ g _ ⟨_,_,rfl,c.last M3 z⟩)
  ·rw [if_neg (by simpa using z)]
   by_cases z2:ia+k=a.size
   ·rw [if_pos (by simpa using z2)]
    exact wpS_pure (D _ g _ ⟨_,_,rfl,M3.endA c.hA c.hB z2⟩)
   ·rw [if_neg (by simpa using z2)]
    exact z7 c (g.kind.trans hk) M3 (by lia) (lt (by lia)) h2 (by lia) (D _ g) (Y _ g)
 ·rw [if_neg k0]
  obtain rfl:k=0:=by lia
  exact z7 c (g.kind.trans hk) M h1 (lt (by lia)) h2 hN (D _ g) (Y _ g)
theorem E_ (c:MC prog w A s κ r P a b) (M:MI r a b out ia ib) (h1:ia+1<a.size) (lt:R r b ib<=R r a ia) (h2:ib<b.size) (hN:N<=ia+ib+1) (D:∀ c,HS r a b c->Q (.done c) st) (Y:∀ c,LI r a b N c->Q (.done c) st/\Q (.yield c) st):wpS (model prog w) A E s (loA a b mg bc ia ib out) Q st:=by
 refine wpS_bind (aJ h2 fun p e=>?_)
 have M2:=M.qx c.hA c.hB e fun _=>lt
 by_cases z:ib+1=b.size
 ·rw [if_pos (by simpa using z)]
  exact wpS_pure (D _ ⟨_,_,rfl,M2.endB c.hA c.hB z⟩)
 ·rw [if_neg (by simpa using z)]
  have y:=Y _ ⟨_,_,_,0,bc+1,rfl,M2,h1,by lia,hN⟩
  split
  ·exact wpS_pure y.1
  ·exact wpS_pure y.2
theorem Di (c:MC prog w A s κ r P a b) (M:MI r a b out ia ib) (h1:ia+1<a.size) (lt:R r a ia<=R r b ib) (h2:ib<b.size) (hN:N<=ia+ib+1) (D:∀ c,HS r a b c->Q (.done c) st) (Y:∀ c,LI r a b N c->Q (.done c) st/\Q (.yield c) st):wpS (model prog w) A E s (loB a b mg ac ia ib out) Q st:=by
 refine wpS_bind (aJ (by lia) fun p e=>?_)
 have M2:=M.qG c.hA c.hB e fun _=>lt
 by_cases z:ia+1+1=a.size
 ·rw [if_pos (by simpa using z)]
  exact wpS_pure (D _ ⟨_,_,rfl,c.last M2 z⟩)
 ·rw [if_neg (by simpa using z)]
  have y:=Y _ ⟨_,_,_,ac+1,0,rfl,M2,by lia,h2,by lia⟩
  split
  ·exact wpS_pure y.1
  ·exact wpS_pure y.2
theorem Dm (c:MC prog w A s κ r P a b) (hk:kindOf st=κ) (M:MI r a b out ia ib) (h1:ia+1<a.size) (h2:ib<b.size) (hN:N<=ia+ib+1) (D:∀ c,HS r a b c->Q (.done c) st) (Y:∀ c,LI r a b N c->Q (.done c) st/\Q (.yield c) st):wpS (model prog w) A E s (loI a b mg x (none,out,ia,ib,ac,bc)) Q st:=by
 refine wpS_bind (aJ h2 fun pb eb=>wpS_bind (aJ (show ia<a.size by lia) fun pa ea=>wpS_bind (rA c.C hk (c.pb.at eb) (c.pa.at ea) ?_)))
 have rb:R r b ib=r pb.1:=R_at eb
 have ra:R r a ia=r pa.1:=R_at ea
 dsimp only
 by_cases hw:r pb.1<r pa.1
 ·rw [if_pos (decide_eq_true hw)]
  exact E_ c M h1 (by lia) h2 hN D Y
 ·rw [if_neg (by simpa using hw)]
  exact Di c M h1 (by lia) h2 hN D Y
theorem Fi (c:MC prog w A s κ r P a b) (hk:kindOf st=κ) (M:MI r a b out ia ib) (h1:ia+1<a.size) (h2:ib<b.size) (hN:N<=ia+ib) (D:∀ st',Mg st st'->∀ c,HS r a b c->Q (.done c) st')
  (Y:∀ st',Mg st st'->∀ out ia ib mg,MI r a b out ia ib->ia+1<a.size->ib<b.size->N<=ia+ib->Q (.yield (none,out,ia,ib,mg)) st'):wpS (model prog w) A E s (loP a b mg (none,out,ia,ib,ac,bc)) Q st:=by
 refine wpS_bind (wpS_lift (wpAny_rule ⟨rfl,?_⟩))
 refine wpS_bind (wpS_mono (wpS_forRange (I:=fun _ c st'=>Mg st st'/\LY r a b N c) (Q:=fun c st'=>Mg st st'/\(HS r a b c\/LY r a b N c)) ?step ?fin ⟨.refl st,_,_,_,_,_,_,rfl,M,h1,h2,hN⟩) ?post)
 case fin =>
  rintro c st' ⟨hm,q⟩
  exact ⟨hm,.inr q⟩
 case step =>
  rintro y c1 st1 _ _ ⟨hm,out,ia,ib,mg,ac,bc,rfl,M,h1,h2,hN⟩
  unfold loG
  dsimp only
  split <;> exact DK c (hm.kind.trans hk) M h1 h2 hN (fun st' g c q=>⟨hm.trans g,.inl q⟩) fun st' g c q=>⟨⟨hm.trans g,.inr q⟩,hm.trans g,q⟩
 case post =>
  rintro c st' ⟨hm,⟨o,rest,rfl,hM⟩ | ⟨out,ia,ib,mg,ac,bc,rfl,M,h1,h2,hN⟩⟩
  ·exact wpS_pure (D _ hm _ ⟨_,_,rfl,hM⟩)
  ·exact wpS_bind (gQ (wpS_pure (Y _ (hm.set _) _ _ _ _ M h1 h2 hN)))
theorem DP (c:MC prog w A s κ r P a b) (hk:kindOf st=κ) (M:MI r a b out ia ib) (h1:ia+1<a.size) (h2:ib<b.size) (hN:N<=ia+ib) (D:∀ st',Mg st st'->∀ c,HS r a b c->Q (.done c) st')
  (Y:∀ st',Mg st st'->∀ out ia ib mg,MI r a b out ia ib->ia+1<a.size->ib<b.size->N+1<=ia+ib->Q (.yield (none,out,ia,ib,mg)) st'):wpS (model prog w) A E s (loO a b x (none,out,ia,ib,mg)) Q st:=by
 refine wpS_bind (wpS_mono (wpS_forRange (I:=fun y c st'=>st'=st/\LI r a b (N+y) c) (Q:=fun c st'=>st'=st/\(HS r a b c\/LI r a b (N+1) c)) ?step ?fin ⟨rfl,_,_,_,_,_,rfl,M,h1,h2,hN⟩) ?post)
 case fin =>
  rintro c st' ⟨rfl,o,ia',ib',ac,bc,rfl,M',q1,q2,q3⟩
  exact ⟨rfl,.inr ⟨_,_,_,_,_,rfl,M',q1,q2,by lia⟩⟩
 case step =>
  rintro y c1 st1 _ hy ⟨rfl,o,ia',ib',ac,bc,rfl,M',q1,q2,q3⟩
  exact Dm (N:=N+y+1) c hk M' q1 q2 (by lia) (fun c q=>⟨rfl,.inl q⟩) fun c q=>by
   obtain ⟨o,ia,ib,ac,bc,rfl,M,h1,h2,h3⟩:=q
   exact ⟨⟨rfl,.inr ⟨_,_,_,_,_,rfl,M,h1,h2,by lia⟩⟩,rfl,_,_,_,_,_,rfl,M,h1,h2,by lia⟩
 case post =>
  rintro c1 st' ⟨rfl,⟨o,rest,rfl,hM⟩ | ⟨o,ia,ib,ac,bc,rfl,M',q1,q2,q3⟩⟩
  ·exact wpS_pure (D _ (.refl _) _ ⟨_,_,rfl,hM⟩)
  ·exact Fi c hk M' q1 q2 q3 D Y
theorem rF {st:SortSt} {a b:Array Keyed} {Q:Array Keyed->SortSt->Prop} (C:Cmp prog w A s κ r P) (hk:kindOf st=κ) (hPa:AllP P a) (hPb:AllP P b) (hA:Up r a 0 a.size) (hB:Up r b 0 b.size) (na:1<=a.size) (nb:1<=b.size)
  (h0:R r b 0<=R r a 0) (hg:∀ j,j<b.size->R r b j<=R r a (a.size - 1)) (h:∀ out st',cG r a b out->Mg st st'->Q out st'):wpS (model prog w) A E s (tD a b) Q st:=by
 have c:MC prog w A s κ r P a b:=⟨C,hPa,hPb,hA,hB,fun i hi=>xa3 h0 (hA 0 i (xae _) (xaq _) hi),hg⟩
 rw [vy]
 refine wpS_bind (wpS_lift (wpAny_rule ⟨rfl,?_⟩))
 refine wpS_bind (aJ nb fun y0 e0=>?_)
 have M1:MI r a b #[y0] 0 1:=(MI.start hA hB).qx hA hB e0 fun _=>h0
 by_cases c1:1=b.size
 ·rw [if_pos (by simpa using c1)]
  exact wpS_pure (h _ _ (M1.endB hA hB c1) (.refl st))
 ·rw [if_neg (by simpa using c1)]
  by_cases c2:0+1=a.size
  ·rw [if_pos (by simpa using c2)]
   exact wpS_pure (h _ _ (c.last M1 c2) (.refl st))
  ·rw [if_neg (by simpa using c2)]
   refine wpS_bind (wpS_get ?_)
   refine wpS_bind (wpS_mono (wpS_forRange (I:=fun x c st'=>Mg st st'/\∃ out ia ib mg,c=(none,out,ia,ib,mg)/\MI r a b out ia ib/\ia+1<a.size/\ib<b.size/\x+1<=ia+ib)
    (Q:=fun c st'=>Mg st st'/\HS r a b c) ?step ?fin ⟨.refl st,_,_,_,_,rfl,M1,by lia,by lia,by exact xbb _⟩) ?post)
   case fin =>
    rintro c st' ⟨_,out,ia,ib,mg,rfl,M,h1,h2,h3⟩
    lia
   case post =>
    rintro c st' ⟨hm,out,rest,rfl,hM⟩
    exact wpS_pure (h out st' hM hm)
   case step =>
    rintro x c1 st1 _ hx ⟨hm1,out,ia,ib,mg,rfl,M,h1,h2,h3⟩
    exact DP (N:=x+1) c (hm1.kind.trans hk) M h1 h2 h3 (fun st' g c q=>⟨hm1.trans g,q⟩) fun st' g out ia ib mg M h1 h2 h3=>⟨hm1.trans g,_,_,_,_,rfl,M,h1,h2,h3⟩
end
abbrev Ge (r:Value->Int) (x y:Keyed):Prop:=r y.1<=r x.1
structure MH (r:Value->Int) (a b out:Array Keyed) (na nb:Nat):Prop where
 ha:na<=a.size
 hb:nb<=b.size
 perm:out.toList.Perm (a.toList.drop na++b.toList.drop nb)
 down:out.toList.Pairwise (Ge r)
 ga:∀ x∈out.toList,∀ i,i<na->R r a i<=r x.1
 gb:∀ x∈out.toList,∀ j,j<nb->R r b j<=r x.1
section
variable {r:Value->Int} {a b out:Array Keyed} {na nb:Nat}
theorem qZ {α:Type} {l:List α} {i:Nat} {x:α} (h0:0<i) (h:l[i - 1]? = some x):l.drop (i - 1)=x :: l.drop i:=by
 obtain ⟨hi,e⟩:=xay.mp h
 rw [xba hi,e,show i - 1+1=i by exact Nat.sub_add_cancel ‹_›]
theorem MH.qG (M:MH r a b out na nb) (hA:Up r a 0 a.size) (hB:Up r b 0 b.size) (h0:0<na) (e:a[na - 1]? = some y) (hl:0<nb->R r b (nb - 1)<=R r a (na - 1)):MH r a b (out.push y) (na - 1) nb:=by
 have ey:=R_at (r:=r) e
 have ha:=M.ha
 have hb:=M.hb
 refine ⟨by lia,M.hb,?_,?_,?_,?_⟩
 ·rw [xaE,qZ (x:=y) h0 (by simpa using e)]
  refine (M.perm.append_right [y]).trans ?_
  exact xcf
 ·rw [xaE,xbZ]
  refine ⟨M.down,by simp,fun x hx z hz=>?_⟩
  have:z=y:=by simpa using hz
  subst this
  show r z.1<=r x.1
  rw [<- ey]
  exact M.ga x hx (na - 1) (by lia)
 ·intro x hx i hi
  rw [xaE] at hx
  rcases xak.mp hx with hx | hx
  ·exact M.ga x hx i (by lia)
  ·have:x=y:=by simpa using hx
   subst this
   rw [<- ey]
   exact hA i (na - 1) (xaq _) (by lia) (by lia)
 ·intro x hx j hj
  rw [xaE] at hx
  rcases xak.mp hx with hx | hx
  ·exact M.gb x hx j hj
  ·have:x=y:=by simpa using hx
   subst this
   rw [<- ey]
   exact xa3 (hB j (nb - 1) (xaq _) (by lia) (by lia)) (hl (by lia))
theorem MH.qx (M:MH r a b out na nb) (hA:Up r a 0 a.size) (hB:Up r b 0 b.size) (h0:0<nb) (e:b[nb - 1]? = some y) (hl:0<na->R r a (na - 1)<=R r b (nb - 1)):MH r a b (out.push y) na (nb - 1):=by
 have ey:=R_at (r:=r) e
 have ha:=M.ha
 have hb:=M.hb
 refine ⟨M.ha,by lia,?_,?_,?_,?_⟩
 ·rw [xaE,qZ (x:=y) h0 (by simpa using e)]
  refine (M.perm.append_right [y]).trans ?_
  rw [xa6]
  exact List.Perm.append_left _ xcf
 ·rw [xaE,xbZ]
  refine ⟨M.down,by simp,fun x hx z hz=>?_⟩
  have:z=y:=by simpa using hz
  subst this
  show r z.1<=r x.1
  rw [<- ey]
  exact M.gb x hx (nb - 1) (by lia)
 ·intro x hx i hi
  rw [xaE] at hx
  rcases xak.mp hx with hx | hx
  ·exact M.ga x hx i hi
  ·have:x=y:=by simpa using hx
   subst this
   rw [<- ey]
   exact xa3 (hA i (na - 1) (xaq _) (by lia) (by lia)) (hl (by lia))
 ·intro x hx j hj
  rw [xaE] at hx
  rcases xak.mp hx with hx | hx
  ·exact M.gb x hx j (by lia)
  ·have:x=y:=by simpa using hx
   subst this
   rw [<- ey]
   exact hB j (nb - 1) (xaq _) (by lia) (by lia)
theorem lD {xs:Array Keyed} {i n:Nat} (h:i<n) (hn:n<=xs.size):(xs.extract i n).reverse = #[xs[n - 1]'(by lia)]++(xs.extract i (n - 1)).reverse:=by
 obtain ⟨k,rfl⟩:∃ k,n=i+(k+1):=⟨n - 1 - i,by lia⟩
 have e3:i+(k+1) - 1=i+k:=by rfl
 simp only [e3]
 rw [fY (by assumption),Array.reverse_push]
theorem MH.addA (hA:Up r a 0 a.size) (hB:Up r b 0 b.size):∀ (k:Nat) {out:Array Keyed} {na p:Nat},MH r a b out na nb->p+k=na->(0<nb->∀ i,p<=i->i<na->R r b (nb - 1)<=R r a i)->MH r a b (out++(a.extract p na).reverse) p nb
 | 0,out,na,p,M,h1,h2=>by
  have:a.extract p na = #[]:=xa8 (by simp only [xbl]; lia)
  have e:na=p:=by walk_at "s1"
  subst e
  rw [this]
  simpa using M
 | k+1,out,na,p,M,h1,h2=>by
  have ha:=M.ha
  have e:a[na - 1]? = some (a[na - 1]'(by lia)):=getElem?_pos a (na - 1) (by lia)
  have q:=M.qG hA hB (by lia) e fun hb=>h2 hb _ (by lia) (by lia)
  have z:=MH.addA hA hB k (p:=p) q (by lia) fun hb i hi1 hi2=>h2 hb i hi1 (by walk_at "s4")
  rw [lD (by lia) ha,<- xbC]
  simpa using z
theorem MH.addB (hA:Up r a 0 a.size) (hB:Up r b 0 b.size):∀ (k:Nat) {out:Array Keyed} {nb p:Nat},MH r a b out na nb->p+k=nb->(0<na->∀ i,p<=i->i<nb->R r a (na - 1)<=R r b i)->MH r a b (out++(b.extract p nb).reverse) na p
 | 0,out,nb,p,M,h1,h2=>by
  have:b.extract p nb = #[]:=xa8 (by simp only [xbl]; lia)
  have e:nb=p:=by walk_at "s1"
  subst e
  rw [this]
  simpa using M
 | k+1,out,nb,p,M,h1,h2=>by
  have hb:=M.hb
  have e:b[nb - 1]? = some (b[nb - 1]'(by lia)):=getElem?_pos b (nb - 1) (by lia)
  have q:=M.qx hA hB (by lia) e fun ha=>h2 ha _ (by lia) (by lia)
  have z:=MH.addB hA hB k (p:=p) q (by lia) fun ha i hi1 hi2=>h2 ha i hi1 (by walk_at "s4")
  rw [lD (by lia) hb,<- xbC]
  simpa using z
theorem MH.whole (M:MH r a b out 0 0):cG r a b out.reverse:=by
 refine ⟨?_,?_⟩
 ·have h:=M.perm
  rw [List.drop_zero,List.drop_zero] at h
  rw [Array.toList_reverse]
  exact (List.reverse_perm _).trans h
 ·rw [Array.toList_reverse,List.pairwise_reverse]
  exact M.down
theorem oZ (x y:Array Keyed):(x++y.reverse).reverse=y++x.reverse:=by
 apply xb2.mp
 simp
theorem MH.endA (M:MH r a b out na nb) (hA:Up r a 0 a.size) (hB:Up r b 0 b.size) (e:na=0):cG r a b (a.extract 0 na++b.extract 0 nb++out.reverse):=by
 subst e
 have z:=MH.addB hA hB nb (p:=0) M (by exact xct ..) fun ha=>absurd ha (xa2 _)
 have q:=z.whole
 rw [oZ] at q
 have e2:a.extract 0 0 = #[]:=by simp
 rw [e2,Array.empty_append]
 exact q
theorem MH.endB (M:MH r a b out na nb) (hA:Up r a 0 a.size) (hB:Up r b 0 b.size) (e:nb=0):cG r a b (a.extract 0 na++b.extract 0 nb++out.reverse):=by
 subst e
 have z:=MH.addA hA hB na (p:=0) M (by exact xct ..) fun hb=>absurd hb (xa2 _)
 have q:=z.whole
 rw [oZ] at q
 have e2:b.extract 0 0 = #[]:=by simp
 rw [e2,xcD]
 exact q
theorem MH.uf (M:MH r a b out na nb) (hA:Up r a 0 a.size) (hB:Up r b 0 b.size) (e:nb=1) (hl:∀ i,i<a.size->R r b 0<=R r a i):cG r a b (b.extract 0 nb++a.extract 0 na++out.reverse):=by
 subst e
 have ha:=M.ha
 have z:=MH.addA hA hB na (p:=0) M (by exact xct ..) fun _ i _ hi=>hl i (by walk_at "s1")
 have z2:=MH.addB hA hB 1 (p:=0) z (by exact xct ..) fun h=>absurd h (xa2 _)
 have q:=z2.whole
 rw [oZ,oZ] at q
 rw [xbC]
 exact q
theorem MH.start:MH r a b #[] a.size b.size:=⟨xae _,xae _,by simp,by simp,fun x hx=>by simp at hx,fun x hx=>by simp at hx⟩
end
abbrev S1:=Option (Array Keyed) × Nat × Nat × Array Keyed × Nat
abbrev S2:=Option (Array Keyed) × Nat × Nat × Array Keyed × Nat × Nat
abbrev S3:=Option (Array Keyed) × Nat × Nat × Array Keyed × Nat × Nat × Nat
def hiE (a b out:Array Keyed) (na nb:Nat):Array Keyed:=a.extract 0 na++b.extract 0 nb++out.reverse
def hiF (a b out:Array Keyed) (na nb:Nat):Array Keyed:=b.extract 0 nb++a.extract 0 na++out.reverse
def hi3 (a b:Array Keyed) (mg ac bc na nb:Nat) (out:Array Keyed):SM (ForInStep S3):=elem' a (na - 1) >>= fun p =>
 if (na - 1 == 0)=true then pure (.done (some (hiE a b (out.push p) (na - 1) nb),na - 1,nb,out.push p,mg,ac,bc))
 else if (decide (ac<7) && decide (bc<7))=true then pure (.done (none,na - 1,nb,out.push p,mg,ac,bc)) else pure (.yield (none,na - 1,nb,out.push p,mg,ac,bc))
def hi2 (a b:Array Keyed) (mg ac bc na nb:Nat) (out:Array Keyed):SM (ForInStep S3):=elem' a (na - 1) >>= fun p=>kZ true p b 0 nb (nb - 1) >>= fun x=>match x with
 | some k=>if nb - k>0 then
   if (k == 1)=true then pure (.done (some (hiF a b (out++(b.extract k nb).reverse) na k),na,k,out++(b.extract k nb).reverse,mg,ac,nb - k))
   else if (k == 0)=true then pure (.done (some (hiE a b (out++(b.extract k nb).reverse) na k),na,k,out++(b.extract k nb).reverse,mg,ac,nb - k))
   else hi3 a b mg ac (nb - k) na k (out++(b.extract k nb).reverse)
  else hi3 a b mg ac (nb - k) na nb out
 | _=>pure (.done (some (hiE a b out na nb),na,nb,out,mg,ac,bc))
def hi1 (a b:Array Keyed) (mg ac bc na nb:Nat) (out:Array Keyed):SM (ForInStep S3):=elem' b (nb - 1) >>= fun p =>
 if (nb - 1 == 1)=true then pure (.done (some (hiF a b (out.push p) na (nb - 1)),na,nb - 1,out.push p,mg,ac,bc)) else hi2 a b mg ac bc na (nb - 1) (out.push p)
def hi0 (a b:Array Keyed) (mg ac bc na nb:Nat) (out:Array Keyed):SM (ForInStep S3):=bL mg >>= fun _=>elem' b (nb - 1) >>= fun p=>kZ false p a 0 na (na - 1) >>= fun x=>match x with
 | some k=>if na - k>0 then
   if (k == 0)=true then pure (.done (some (hiE a b (out++(a.extract k na).reverse) k nb),k,nb,out++(a.extract k na).reverse,mg,na - k,bc))
   else hi1 a b mg (na - k) bc k nb (out++(a.extract k na).reverse)
  else hi1 a b mg (na - k) bc na nb out
 | _=>pure (.done (some (hiE a b out na nb),na,nb,out,mg,ac,bc))
def hiG (a b:Array Keyed) (_:Nat) (s:S3):SM (ForInStep S3) :=
 if s.2.2.2.2.1>1 then hi0 a b (s.2.2.2.2.1 - 1) s.2.2.2.2.2.1 s.2.2.2.2.2.2 s.2.1 s.2.2.1 s.2.2.2.1 else hi0 a b s.2.2.2.2.1 s.2.2.2.2.2.1 s.2.2.2.2.2.2 s.2.1 s.2.2.1 s.2.2.2.1
def hiA (a b:Array Keyed) (mg ac na nb:Nat) (out:Array Keyed):SM (ForInStep S2):=elem' a (na - 1) >>= fun p =>
 if (na - 1 == 0)=true then pure (.done (some (hiE a b (out.push p) (na - 1) nb),na - 1,nb,out.push p,ac+1,0))
 else if ac+1 >= mg then pure (.done (none,na - 1,nb,out.push p,ac+1,0)) else pure (.yield (none,na - 1,nb,out.push p,ac+1,0))
def hiB (a b:Array Keyed) (mg bc na nb:Nat) (out:Array Keyed):SM (ForInStep S2):=elem' b (nb - 1) >>= fun p =>
 if (nb - 1 == 1)=true then pure (.done (some (hiF a b (out.push p) na (nb - 1)),na,nb - 1,out.push p,0,bc+1))
 else if bc+1 >= mg then pure (.done (none,na,nb - 1,out.push p,0,bc+1)) else pure (.yield (none,na,nb - 1,out.push p,0,bc+1))
def hiI (a b:Array Keyed) (mg:Nat) (_:Nat) (s:S2):SM (ForInStep S2):=elem' b (s.2.2.1 - 1) >>= fun pb=>elem' a (s.2.1 - 1) >>= fun pa=>lt' pb pa >>= fun x=>match x with
 | some w=>if w=true then hiA a b mg s.2.2.2.2.1 s.2.1 s.2.2.1 s.2.2.2.1 else hiB a b mg s.2.2.2.2.2 s.2.1 s.2.2.1 s.2.2.2.1
 | _=>pure (.done (some (hiE a b s.2.2.2.1 s.2.1 s.2.2.1),s.2.1,s.2.2.1,s.2.2.2.1,s.2.2.2.2.1,s.2.2.2.2.2))
def hiP (a b:Array Keyed) (mg:Nat) (t:S2):SM (ForInStep S1):=(liftM (rule "list.sort.gallop"):SM Unit) >>= fun _ =>
 forIn [:a.size+b.size] ((none,t.2.1,t.2.2.1,t.2.2.2.1,mg+1,t.2.2.2.2.1,t.2.2.2.2.2):S3) (hiG a b) >>= fun u=>match u.1 with
 | some r=>pure (.done (some r,u.2.1,u.2.2.1,u.2.2.2.1,u.2.2.2.2.1))
 | none=>bL (u.2.2.2.2.1+1) >>= fun _=>pure (.yield (none,u.2.1,u.2.2.1,u.2.2.2.1,u.2.2.2.2.1+1))
def hiO (a b:Array Keyed) (_:Nat) (s:S1):SM (ForInStep S1):=forIn [:a.size+b.size] ((none,s.2.1,s.2.2.1,s.2.2.2.1,0,0):S2) (hiI a b s.2.2.2.2) >>= fun t=>match t.1 with
 | some r=>pure (.done (some r,t.2.1,t.2.2.1,t.2.2.2.1,s.2.2.2.2))
 | none=>hiP a b s.2.2.2.2 t
def hiM (a b:Array Keyed):SM (Array Keyed):=(liftM (rule "list.sort.merge-hi"):SM Unit) >>= fun _=>elem' a (a.size - 1) >>= fun y =>
 if (a.size - 1 == 0)=true then pure (hiE a b #[y] (a.size - 1) b.size)
 else if (b.size == 1)=true then pure (hiF a b #[y] (a.size - 1) b.size)
 else get >>= fun st=>forIn [:a.size+b.size] ((none,a.size - 1,b.size,#[y],gallopOf st):S1) (hiO a b) >>= fun t=>match t.1 with
 | some r=>pure r
 | none=>(liftM (unsupported (α:=Array Keyed) "internal:list.sort.merge-bound"):SM (Array Keyed))
set_option smartUnfolding false in
theorem uR:uq=hiM:=rfl
section
variable {prog:Program} {w:World} {A:Around} {E:Value->Shared->Prop} {s:Shared} {κ:SortKind} {r:Value->Int} {P:Value->Prop} {a b out:Array Keyed} {mg ac bc na nb N:Nat} {st:SortSt} {Q:ForInStep S3->SortSt->Prop}
def HD (r:Value->Int) (a b:Array Keyed) (Q:ForInStep S3->SortSt->Prop) (st:SortSt):Prop:=∀ o rest,cG r a b o->Q (.done (some o,rest)) st
def HY (r:Value->Int) (a b:Array Keyed) (N:Nat) (Q:ForInStep S3->SortSt->Prop) (st:SortSt):Prop :=
 ∀ o na nb mg ac bc,MH r a b o na nb->1<=na->2<=nb->na+nb<=N->Q (.done (none,na,nb,o,mg,ac,bc)) st/\Q (.yield (none,na,nb,o,mg,ac,bc)) st
theorem zZ (c:MC prog w A s κ r P a b) (M:MH r a b out na nb) (h1:0<na) (lt:R r b (nb - 1)<=R r a (na - 1)) (h2:2<=nb) (hN:na+nb<=N) (D:HD r a b Q st) (Y:HY r a b N Q st):wpS (model prog w) A E s (hi3 a b mg ac bc na nb out) Q st:=by
 have ha:=M.ha
 refine wpS_bind (aJ (by lia) fun p e=>?_)
 have M2:=M.qG c.hA c.hB h1 e fun _=>lt
 by_cases z:na - 1=0
 ·rw [if_pos (by simpa using z)]
  exact wpS_pure (D _ _ (M2.endA c.hA c.hB z))
 ·rw [if_neg (by simpa using z)]
  have y:=Y _ _ _ mg ac bc M2 (by lia) h2 (by lia)
  split
  ·exact wpS_pure y.1
  ·exact wpS_pure y.2
theorem Dj (c:MC prog w A s κ r P a b) (hk:kindOf st=κ) (M:MH r a b out na nb) (h1:0<na) (h2:2<=nb) (hN:na+nb<=N) (D:HD r a b Q st) (Y:HY r a b N Q st):wpS (model prog w) A E s (hi2 a b mg ac bc na nb out) Q st:=by
 have ha:=M.ha
 have hb:=M.hb
 refine wpS_bind (aJ (by lia) fun p e=>wpS_bind (di c.C hk c.pb (c.pa.at e) (by lia) (by lia) (fun i j u v w=>c.hB i j u v (by lia)) fun l hl1 hl2 hl3=>?_))
 have ra:=R_at (r:=r) e
 dsimp only
 have lt:0<l->R r b (l - 1)<=R r a (na - 1):=fun z=>by have:=Cr (hl2 (l - 1) (by exact xcy ‹_› xcg)); rw [xcv] at this; lia
 by_cases l0:nb - l>0
 ·have M5:=MH.addB c.hA c.hB (nb - l) (p:=l) M (by exact xbr ‹_›) fun _ i hi1 hi2=>by have:=uH (hl3 i hi1 hi2); rw [xcv] at this; lia
  rw [if_pos l0]
  by_cases z4:l=1
  ·rw [if_pos (by simpa using z4)]
   exact wpS_pure (D _ _ (M5.uf c.hA c.hB z4 c.hl))
  ·rw [if_neg (by simpa using z4)]
   by_cases z6:l=0
   ·rw [if_pos (by simpa using z6)]
    exact wpS_pure (D _ _ (M5.endB c.hA c.hB z6))
   ·rw [if_neg (by simpa using z6)]
    exact zZ c M5 h1 (lt (by lia)) (by lia) (by lia) D Y
 ·rw [if_neg l0]
  obtain rfl:l=nb:=by lia
  exact zZ c M h1 (lt (by exact xcb ‹_›)) h2 hN D Y
theorem Ab (c:MC prog w A s κ r P a b) (hk:kindOf st=κ) (M:MH r a b out na nb) (h1:0<na) (h2:2<=nb) (lt:R r a (na - 1)<=R r b (nb - 1)) (hN:na+nb<=N) (D:HD r a b Q st) (Y:HY r a b N Q st):wpS (model prog w) A E s (hi1 a b mg ac bc na nb out) Q st:=by
 have hb:=M.hb
 refine wpS_bind (aJ (by lia) fun p e=>?_)
 have M4:=M.qx c.hA c.hB (by exact xcb ‹_›) e fun _=>lt
 by_cases z:nb - 1=1
 ·rw [if_pos (by simpa using z)]
  exact wpS_pure (D _ _ (M4.uf c.hA c.hB z c.hl))
 ·rw [if_neg (by simpa using z)]
  exact Dj c hk M4 h1 (by lia) (by lia) D Y
theorem Fd (c:MC prog w A s κ r P a b) (hk:kindOf st=κ) (M:MH r a b out na nb) (h1:0<na) (h2:2<=nb) (hN:na+nb<=N) (D:∀ st',Mg st st'->HD r a b Q st') (Y:∀ st',Mg st st'->HY r a b N Q st'):wpS (model prog w) A E s (hi0 a b mg ac bc na nb out) Q st:=by
 have ha:=M.ha
 have hb:=M.hb
 have g:=(Mg.refl st).set mg
 refine wpS_bind (gQ ?_)
 refine wpS_bind (aJ (by lia) fun p e=>wpS_bind (di c.C (g.kind.trans hk) c.pa (c.pb.at e) (by lia) (by exact xcy ‹_› xcg) (fun i j u v w=>c.hA i j u v (by lia)) fun k hk1 hk2 hk3=>?_))
 have rb:=R_at (r:=r) e
 dsimp only
 have lt:0<k->R r a (k - 1)<=R r b (nb - 1):=fun z=>by have:=zb (hk2 (k - 1) (by exact xcy ‹_› xcg)); rw [xcv] at this; lia
 by_cases k0:na - k>0
 ·have M3:=MH.addA c.hA c.hB (na - k) (p:=k) M (by exact xbr ‹_›) fun _ i hi1 hi2=>by have:=wI (hk3 i hi1 hi2); rw [xcv] at this; lia
  rw [if_pos k0]
  by_cases z:k=0
  ·rw [if_pos (by simpa using z)]
   exact wpS_pure (D _ g _ _ (M3.endA c.hA c.hB z))
  ·rw [if_neg (by simpa using z)]
   exact Ab c (g.kind.trans hk) M3 (by lia) h2 (lt (by lia)) (by lia) (D _ g) (Y _ g)
 ·rw [if_neg k0]
  obtain rfl:k=na:=by lia
  exact Ab c (g.kind.trans hk) M h1 h2 (lt h1) hN (D _ g) (Y _ g)
def HI (r:Value->Int) (a b:Array Keyed) (N:Nat) (c:S2):Prop:=∃ na nb out ac bc,c=(none,na,nb,out,ac,bc)/\MH r a b out na nb/\1<=na/\2<=nb/\na+nb<=N
theorem Ez {Q:ForInStep S2->SortSt->Prop} (c:MC prog w A s κ r P a b) (M:MH r a b out na nb) (h1:0<na) (lt:R r b (nb - 1)<=R r a (na - 1)) (h2:2<=nb) (hN:na+nb<=N+1) (D:∀ c,HS r a b c->Q (.done c) st) (Y:∀ c,HI r a b N c->Q (.done c) st/\Q (.yield c) st):wpS (model prog w) A E s (hiA a b mg ac na nb out) Q st:=by
 have ha:=M.ha
 refine wpS_bind (aJ (by lia) fun p e=>?_)
 have M2:=M.qG c.hA c.hB h1 e fun _=>lt
 by_cases z:na - 1=0
 ·rw [if_pos (by simpa using z)]
  exact wpS_pure (D _ ⟨_,_,rfl,M2.endA c.hA c.hB z⟩)
 ·rw [if_neg (by simpa using z)]
  have y:=Y _ ⟨_,_,_,ac+1,0,rfl,M2,by lia,h2,by lia⟩
  split
  ·exact wpS_pure y.1
  ·exact wpS_pure y.2
theorem Dt {Q:ForInStep S2->SortSt->Prop} (c:MC prog w A s κ r P a b) (M:MH r a b out na nb) (h1:0<na) (lt:R r a (na - 1)<=R r b (nb - 1)) (h2:2<=nb) (hN:na+nb<=N+1) (D:∀ c,HS r a b c->Q (.done c) st) (Y:∀ c,HI r a b N c->Q (.done c) st/\Q (.yield c) st):wpS (model prog w) A E s (hiB a b mg bc na nb out) Q st:=by
 have hb:=M.hb
 refine wpS_bind (aJ (by lia) fun p e=>?_)
 have M2:=M.qx c.hA c.hB (by exact xcb ‹_›) e fun _=>lt
 by_cases z:nb - 1=1
 ·rw [if_pos (by simpa using z)]
  exact wpS_pure (D _ ⟨_,_,rfl,M2.uf c.hA c.hB z c.hl⟩)
 ·rw [if_neg (by simpa using z)]
  have y:=Y _ ⟨_,_,_,0,bc+1,rfl,M2,h1,by lia,by lia⟩
  split
  ·exact wpS_pure y.1
  ·exact wpS_pure y.2
theorem DY {Q:ForInStep S2->SortSt->Prop} {x:Nat} (c:MC prog w A s κ r P a b) (hk:kindOf st=κ) (M:MH r a b out na nb) (h1:0<na) (h2:2<=nb) (hN:na+nb<=N+1) (D:∀ c,HS r a b c->Q (.done c) st) (Y:∀ c,HI r a b N c->Q (.done c) st/\Q (.yield c) st):wpS (model prog w) A E s (hiI a b mg x (none,na,nb,out,ac,bc)) Q st:=by
 have ha:=M.ha
 have hb:=M.hb
 refine wpS_bind (aJ (show nb - 1<b.size by lia) fun pb eb=>wpS_bind (aJ (show na - 1<a.size by lia) fun pa ea=>wpS_bind (rA c.C hk (c.pb.at eb) (c.pa.at ea) ?_)))
 have rb:R r b (nb - 1)=r pb.1:=R_at eb
 have ra:R r a (na - 1)=r pa.1:=R_at ea
 dsimp only
 by_cases hw:r pb.1<r pa.1
 ·rw [if_pos (decide_eq_true hw)]
  exact Ez c M h1 (by lia) h2 hN D Y
 ·rw [if_neg (by simpa using hw)]
  exact Dt c M h1 (by lia) h2 hN D Y
theorem Dr {Q:ForInStep S1->SortSt->Prop} (c:MC prog w A s κ r P a b) (hk:kindOf st=κ) (M:MH r a b out na nb) (h1:0<na) (h2:2<=nb) (hN:na+nb<=N) (D:∀ st',Mg st st'->∀ c,HS r a b c->Q (.done c) st')
  (Y:∀ st',Mg st st'->∀ out na nb mg,MH r a b out na nb->1<=na->2<=nb->na+nb<=N->Q (.yield (none,na,nb,out,mg)) st'):wpS (model prog w) A E s (hiP a b mg (none,na,nb,out,ac,bc)) Q st:=by
 refine wpS_bind (wpS_lift (wpAny_rule ⟨rfl,?_⟩))
 refine wpS_bind (wpS_mono (wpS_forRange (I:=fun _ c st'=>Mg st st'/\∃ na nb out mg ac bc,c=(none,na,nb,out,mg,ac,bc)/\MH r a b out na nb/\1<=na/\2<=nb/\na+nb<=N)
  (Q:=fun c st'=>Mg st st'/\(HS r a b c\/∃ na nb out mg ac bc,c=(none,na,nb,out,mg,ac,bc)/\MH r a b out na nb/\1<=na/\2<=nb/\na+nb<=N)) ?step ?fin ⟨.refl st,_,_,_,_,_,_,rfl,M,h1,h2,hN⟩) ?post)
 case fin =>
  rintro c st' ⟨hm,q⟩
  exact ⟨hm,.inr q⟩
 case step =>
  rintro y c1 st1 _ _ ⟨hm,na,nb,out,mg,ac,bc,rfl,M,h1,h2,hN⟩
  unfold hiG
  dsimp only
  split <;> exact Fd c (hm.kind.trans hk) M h1 h2 hN (fun st' g o rest hM=>⟨hm.trans g,.inl ⟨o,rest,rfl,hM⟩⟩) fun st' g o na nb mg ac bc M h1 h2 hN=>⟨⟨hm.trans g,.inr ⟨_,_,_,_,_,_,rfl,M,h1,h2,hN⟩⟩,hm.trans g,_,_,_,_,_,_,rfl,M,h1,h2,hN⟩
 case post =>
  rintro c st' ⟨hm,⟨o,rest,rfl,hM⟩ | ⟨na,nb,out,mg,ac,bc,rfl,M,h1,h2,hN⟩⟩
  ·exact wpS_pure (D _ hm _ ⟨_,_,rfl,hM⟩)
  ·exact wpS_bind (gQ (wpS_pure (Y _ (hm.set _) _ _ _ _ M h1 h2 hN)))
theorem CZ {Q:ForInStep S1->SortSt->Prop} {x:Nat} (c:MC prog w A s κ r P a b) (hk:kindOf st=κ) (M:MH r a b out na nb) (h1:0<na) (h2:2<=nb) (hN:na+nb<=N+1) (D:∀ st',Mg st st'->∀ c,HS r a b c->Q (.done c) st')
  (Y:∀ st',Mg st st'->∀ out na nb mg,MH r a b out na nb->1<=na->2<=nb->na+nb<=N->Q (.yield (none,na,nb,out,mg)) st'):wpS (model prog w) A E s (hiO a b x (none,na,nb,out,mg)) Q st:=by
 have ha:=M.ha
 have hb:=M.hb
 refine wpS_bind (wpS_mono (wpS_forRange (I:=fun y c st'=>st'=st/\HI r a b (N+1 - y) c) (Q:=fun c st'=>st'=st/\(HS r a b c\/HI r a b N c)) ?step ?fin ⟨rfl,_,_,_,_,_,rfl,M,h1,h2,hN⟩) ?post)
 case fin =>
  rintro c st' ⟨rfl,na',nb',o,ac,bc,rfl,M',q1,q2,q3⟩
  exact ⟨rfl,.inr ⟨_,_,_,_,_,rfl,M',q1,q2,by lia⟩⟩
 case step =>
  rintro y c1 st1 _ hy ⟨rfl,na',nb',o,ac,bc,rfl,M',q1,q2,q3⟩
  exact DY (N:=N - y) c hk M' q1 q2 (by lia) (fun c q=>⟨rfl,.inl q⟩) fun c q=>by
   obtain ⟨na,nb,o,ac,bc,rfl,M,h1,h2,h3⟩:=q
   exact ⟨⟨rfl,.inr ⟨_,_,_,_,_,rfl,M,h1,h2,by walk_at "s4"⟩⟩,rfl,_,_,_,_,_,rfl,M,h1,h2,by lia⟩
 case post =>
  rintro c1 st' ⟨rfl,⟨o,rest,rfl,hM⟩ | ⟨na,nb,o,ac,bc,rfl,M',q1,q2,q3⟩⟩
  ·exact wpS_pure (D _ (.refl _) _ ⟨_,_,rfl,hM⟩)
  ·exact Dr c hk M' q1 q2 q3 D Y
theorem su {st:SortSt} {a b:Array Keyed} {Q:Array Keyed->SortSt->Prop} (C:Cmp prog w A s κ r P) (hk:kindOf st=κ) (hPa:AllP P a) (hPb:AllP P b) (hA:Up r a 0 a.size) (hB:Up r b 0 b.size) (na:1<=a.size) (nb:1<=b.size)
  (h0:R r b 0<=R r a 0) (hg:∀ j,j<b.size->R r b j<=R r a (a.size - 1)) (h:∀ out st',cG r a b out->Mg st st'->Q out st'):wpS (model prog w) A E s (uq a b) Q st:=by
 have c:MC prog w A s κ r P a b:=⟨C,hPa,hPb,hA,hB,fun i hi=>xa3 h0 (hA 0 i (xae _) (xaq _) hi),hg⟩
 rw [uR]
 refine wpS_bind (wpS_lift (wpAny_rule ⟨rfl,?_⟩))
 refine wpS_bind (aJ (by exact xcy ‹_› xcg) fun y0 e0=>?_)
 have M1:MH r a b #[y0] (a.size - 1) b.size:=MH.start.qG hA hB na e0 fun _=>hg _ (by exact xcy ‹_› xcg)
 by_cases c1:a.size - 1=0
 ·rw [if_pos (by simpa using c1)]
  exact wpS_pure (h _ _ (M1.endA hA hB c1) (.refl st))
 ·rw [if_neg (by simpa using c1)]
  by_cases c2:b.size=1
  ·rw [if_pos (by simpa using c2)]
   exact wpS_pure (h _ _ (M1.uf hA hB c2 c.hl) (.refl st))
  ·rw [if_neg (by simpa using c2)]
   refine wpS_bind (wpS_get ?_)
   refine wpS_bind (wpS_mono (wpS_forRange (I:=fun x c st'=>Mg st st'/\∃ na nb out mg,c=(none,na,nb,out,mg)/\MH r a b out na nb/\1<=na/\2<=nb/\na+nb<=a.size+b.size - x)
    (Q:=fun c st'=>Mg st st'/\HS r a b c) ?step ?fin ⟨.refl st,_,_,_,_,rfl,M1,by lia,by lia,by lia⟩) ?post)
   case fin =>
    rintro c st' ⟨_,na,nb,out,mg,rfl,M,h1,h2,h3⟩
    lia
   case post =>
    rintro c st' ⟨hm,out,rest,rfl,hM⟩
    exact wpS_pure (h out st' hM hm)
   case step =>
    rintro x c1 st1 _ hx ⟨hm1,na,nb,out,mg,rfl,M,h1,h2,h3⟩
    exact CZ (N:=a.size+b.size - (x+1)) c (hm1.kind.trans hk) M h1 h2 (by lia) (fun st' g c q=>⟨hm1.trans g,q⟩) fun st' g out na nb mg M h1 h2 h3=>⟨hm1.trans g,_,_,_,_,rfl,M,h1,h2,h3⟩
end
def wr (p:Nat) (m:List Keyed) (n:Nat) (xs:Array Keyed):Array Keyed:=(m.zipIdx n).foldl (fun a (q:Keyed × Nat)=>a.setIfInBounds (p+q.2) q.1) xs
theorem xM (p:Nat):∀ (m:List Keyed) (n:Nat) (xs:Array Keyed),p+n+m.length<=xs.size->∀ k:Nat,(wr p m n xs)[k]? = if p+n<=k/\k<p+n+m.length then m[k - (p+n)]? else xs[k]?
 | [],n,xs,h,k=>by
  rw [if_neg (by simp only [List.length_nil]; lia)]; rfl
 | q :: m,n,xs,h,k=>by
  have ih:=xM p m (n+1) (xs.setIfInBounds (p+n) q) (by rw [Array.size_setIfInBounds]; simp only [xa0] at h; lia) k
  have e:wr p (q :: m) n xs=wr p m (n+1) (xs.setIfInBounds (p+n) q):=by unfold wr; rw [List.zipIdx_cons,List.foldl_cons]
  simp only [xa0] at h ⊢
  rw [e,ih]
  by_cases h1:p+(n+1)<=k/\k<p+(n+1)+m.length
  ·rw [if_pos h1,if_pos (by lia),show k - (p+n)=(k - (p+(n+1)))+1 by lia,List.getElem?_cons_succ]
  ·rw [if_neg h1]
   by_cases h2:k=p+n
   ·subst h2
    rw [if_pos (by walk_at "s4"),Nat.sub_self,List.getElem?_cons_zero,Array.getElem?_setIfInBounds_self_of_lt (by lia)]
   ·rw [if_neg (by lia),Array.getElem?_setIfInBounds_ne (by walk_at "s1")]
theorem BL (h:p+m.length<=xs.size):(wr p m 0 xs).toList=xs.toList.take p++m++xs.toList.drop (p+m.length):=by
 have hl:xs.toList.length=xs.size:=by simp
 apply xbV
 intro k
 have e:=xM p m 0 xs h k
 rw [xbY] at e
 rw [xaz,e]
 by_cases h1:k<p
 ·rw [if_neg (by lia),xa6,xa9 (by rw [xat]; lia),List.getElem?_take_of_lt h1,xaz]
 ·by_cases h2:k<p+m.length
  ·rw [if_pos (by lia),xa6,xaI (by rw [xat]; lia),xat,show min p xs.toList.length=p by lia,xa9 (by lia)]
  ·rw [if_neg (by lia),xa6,xaI (by rw [xat]; lia),xat,show min p xs.toList.length=p by lia,xaI (by lia),List.getElem?_drop,
    show p+m.length+(k - p - m.length)=k by lia,xaz]
theorem CW {p q:Nat} {xs:Array Keyed} (h:p<=q) (h2:q<=xs.size):xs.toList=xs.toList.take p++(xs.extract p q).toList++xs.toList.drop q:=by
 rw [xcr,xb4]
 have e1:xs.toList.take p++(xs.toList.drop p).take (q - p)=xs.toList.take q:=by
  rw [<- xbk p (xs.toList.take q),List.take_take,List.drop_take,xbR h]
 rw [e1,xbk]
theorem Cq {p q:Nat} {m:List Keyed} {xs:Array Keyed} (h:p<=q) (h2:q<=xs.size) (hm:m.Perm (xs.extract p q).toList):(wr p m 0 xs).Perm xs:=by
 have hl:m.length=q - p:=by rw [hm.length_eq]; simp; lia
 rw [xb1,BL (by lia),show p+m.length=q by lia]
 have e:=CW (xs:=xs) h h2
 exact (List.Perm.append_right _ (List.Perm.append_left _ hm)).trans (by rw [<- e])
def Runs (r:Value->Int) (xs:Array Keyed):List (Nat × Nat × Nat)->Nat->Nat->Prop
 | [],a,b=>a=b
 | (s,n,_) :: rest,a,b=>s=a/\1<=n/\Up r xs s (s+n)/\Runs r xs rest (s+n) b
section
variable {r:Value->Int} {xs ys:Array Keyed}
theorem Runs.le:∀ {ps:List (Nat × Nat × Nat)} {a b:Nat},Runs r xs ps a b->a+ps.length<=b
 | [],a,b,h=>by simp only [Runs] at h; simp; lia
 | (s,n,p) :: rest,a,b,h=>by
  obtain ⟨rfl,h1,_,h3⟩:=h
  have:=Runs.le h3
  simp only [xa0]; lia
theorem Runs.append:∀ {ps qs:List (Nat × Nat × Nat)} {a b:Nat},Runs r xs (ps++qs) a b↔∃ c,Runs r xs ps a c/\Runs r xs qs c b
 | [],qs,a,b=>by simp [Runs]
 | (s,n,p) :: rest,qs,a,b=>by
  simp only [List.cons_append,Runs]
  constructor
  ·rintro ⟨h1,h2,h3,h4⟩
   obtain ⟨c,h5,h6⟩:=Runs.append.mp h4
   exact ⟨c,⟨h1,h2,h3,h5⟩,h6⟩
  ·rintro ⟨c,⟨h1,h2,h3,h5⟩,h6⟩
   exact ⟨h1,h2,h3,Runs.append.mpr ⟨c,h5,h6⟩⟩
theorem Up.congr (h:Up r xs a b) (e:∀ k,a<=k->k<b->ys[k]? = xs[k]?):Up r ys a b:=fun i j h1 h2 h3=>by
 rw [dB (e i h1 (by lia)),dB (e j (by lia) h3)]; exact h i j h1 h2 h3
theorem Runs.congr:∀ {ps:List (Nat × Nat × Nat)} {a b:Nat},Runs r xs ps a b->(∀ k,a<=k->k<b->ys[k]? = xs[k]?)->Runs r ys ps a b
 | [],a,b,h,_=>h
 | (s,n,p) :: rest,a,b,h,e=>by
  obtain ⟨rfl,h1,h2,h3⟩:=h
  have l:=h3.le
  exact ⟨rfl,h1,h2.congr fun k u v=>e k u (by lia),Runs.congr h3 fun k u v=>e k (by walk_at "s4") v⟩
theorem Up.glue (h1:Up r xs a b) (h2:Up r xs b c) (h:∀ i j,a<=i->i<b->b<=j->j<c->R r xs i<=R r xs j):Up r xs a c:=fun i j u v w=>by
 by_cases hj:j<b
 ·exact h1 i j u v hj
 ·by_cases hi:i<b
  ·exact h i j u hi (by lia) w
  ·exact h2 i j (by lia) v w
end
section
variable {prog:Program} {w:World} {A:Around} {E:Value->Shared->Prop} {s:Shared} {κ:SortKind} {r:Value->Int} {P:Value->Prop}
theorem AllP.extract (h:AllP P xs) (i j:Nat):AllP P (xs.extract i j):=fun p hp=>h p (by
 rw [xcr,xb4] at hp
 exact xbI (xbJ hp))
theorem dW (h:i+k<j) (hj:j<=xs.size):R r (xs.extract i j) k=R r xs (i+k):=by
 apply dB
 rw [xbS,if_pos (by lia)]
theorem Up.extract (h:Up r xs i j) (hij:i<=j) (hj:j<=xs.size):Up r (xs.extract i j) 0 (xs.extract i j).size:=fun a b _ h2 h3=>by
 have e:(xs.extract i j).size=j - i:=by simp only [xbl]; lia
 rw [e] at h3
 rw [dW (by lia) hj,dW (by lia) hj]
 exact h _ _ (by lia) (by lia) (by lia)
theorem vO (hz:sa+na+nb<=xs.size) (hk:k<na) (hnb:nb'<=nb) (hA:Up r xs sa (sa+na)) (hB:Up r xs (sa+na) (sa+na+nb))
  (lo1:∀ i,i<k->R r xs (sa+i)<=R r xs (sa+na)) (lo2:R r xs (sa+na)<R r xs (sa+k)) (hi1:∀ i,i<nb'->R r xs (sa+na+i)<R r xs (sa+na - 1)) (hi2:∀ i,nb'<=i->i<nb->R r xs (sa+na - 1)<=R r xs (sa+na+i))
  (hm:cG r (xs.extract (sa+k) (sa+na)) (xs.extract (sa+na) (sa+na+nb')) m) :
  Up r (wr (sa+k) m.toList 0 xs) sa (sa+na+nb)/\(wr (sa+k) m.toList 0 xs).Perm xs/\∀ j,j<sa\/sa+na+nb<=j->(wr (sa+k) m.toList 0 xs)[j]? = xs[j]? := by
 obtain ⟨mp,mu⟩:=hm
 have eab:(xs.extract (sa+k) (sa+na)).toList++(xs.extract (sa+na) (sa+na+nb')).toList=(xs.extract (sa+k) (sa+na+nb')).toList:=by
  rw [<- Array.toList_append,Array.extract_append_extract,show min (sa+k) (sa+na)=sa+k by lia,show max (sa+na) (sa+na+nb')=sa+na+nb' by lia]
 rw [eab] at mp
 have ml:m.toList.length=na+nb' - k:=by rw [mp.length_eq]; simp; lia
 have hw:sa+k+m.toList.length<=xs.size:=by lia
 have get:=xM (sa+k) m.toList 0 xs (by lia)
 rw [xbY,ml] at get
 -- every merged item is one of the window's
 have mem:∀ (j:Nat) (p:Keyed),m.toList[j]? = some p->∃ i,sa+k<=i/\i<sa+na+nb'/\r p.1=R r xs i:=fun j p e=>by
  have hp:p∈(xs.extract (sa+k) (sa+na+nb')).toList:=mp.mem_iff.mp (xaQ e)
  obtain ⟨i,hi⟩:=List.getElem?_of_mem hp
  rw [xaz,xbS] at hi
  split at hi
  ·exact ⟨sa+k+i,by lia,by lia,(R_at hi).symm⟩
  ·cases hi
 have low:∀ i,sa+k<=i->i<sa+na+nb'->R r xs (sa+na)<=R r xs i:=fun i h1 h2=>by
  by_cases h3:i<sa+na
  ·exact xa3 (xbs lo2) (hA (sa+k) i (by lia) h1 h3)
  ·exact hB (sa+na) i (xae _) (by lia) (by lia)
 have high:∀ i,sa+k<=i->i<sa+na+nb'->R r xs i<=R r xs (sa+na - 1):=fun i h1 h2=>by
  by_cases h3:i<sa+na
  ·exact hA i (sa+na - 1) (by lia) (by lia) (by lia)
  ·have:=hi1 (i - (sa+na)) (by lia)
   rw [show sa+na+(i - (sa+na))=i by lia] at this
   lia
 have Rin:∀ j,j<na+nb' - k->∃ i,sa+k<=i/\i<sa+na+nb'/\R r (wr (sa+k) m.toList 0 xs) (sa+k+j)=R r xs i:=fun j hj=>by
  have e:=get (sa+k+j)
  rw [if_pos (by lia),show sa+k+j - (sa+k)=j by lia] at e
  have hj':j<m.toList.length:=by lia
  obtain ⟨i,h1,h2,h3⟩:=mem j m.toList[j] (xaU hj')
  rw [xaU hj'] at e
  exact ⟨i,h1,h2,(R_at e).trans h3⟩
 have Rout:∀ j,j<sa+k\/sa+na+nb'<=j->(wr (sa+k) m.toList 0 xs)[j]? = xs[j]? := fun j hj=>by
  have e:=get j
  rw [if_neg (by lia)] at e
  exact e
 refine ⟨?_,Cq (by lia) (by lia) mp,fun j hj=>Rout j (by lia)⟩
 have U1:Up r (wr (sa+k) m.toList 0 xs) sa (sa+k):=Up.congr (xs:=xs) (fun i j h1 h2 h3=>hA i j h1 h2 (by lia)) fun j h1 h2=>Rout j (.inl h2)
 have U2:Up r (wr (sa+k) m.toList 0 xs) (sa+k) (sa+na+nb'):=fun i j h1 h2 h3=>by
  have ei:=get i
  have ej:=get j
  rw [if_pos (by lia)] at ei ej
  have li:i - (sa+k)<m.toList.length:=by lia
  have lj:j - (sa+k)<m.toList.length:=by lia
  rw [xaU li] at ei
  rw [xaU lj] at ej
  rw [R_at ei,R_at ej]
  by_cases hij:i=j
  ·subst hij; exact xbj _
  ·exact (xb5.mp mu) _ _ li lj (by lia)
 have U3:Up r (wr (sa+k) m.toList 0 xs) (sa+na+nb') (sa+na+nb):=Up.congr (xs:=xs) (fun i j h1 h2 h3=>hB i j (by lia) h2 h3) fun j h1 h2=>Rout j (.inr h1)
 refine (U1.glue U2 fun i j h1 h2 h3 h4=>?_).glue U3 fun i j h1 h2 h3 h4=>?_
 ·obtain ⟨q,q1,q2,q3⟩:=Rin (j - (sa+k)) (by lia)
  rw [show sa+k+(j - (sa+k))=j by lia] at q3
  rw [q3,dB (Rout i (.inl h2))]
  have:=lo1 (i - sa) (by lia)
  rw [show sa+(i - sa)=i by lia] at this
  exact xa3 this (low q q1 q2)
 ·have e2:=hi2 (j - (sa+na)) (by lia) (by lia)
  rw [show sa+na+(j - (sa+na))=j by lia] at e2
  rw [dB (Rout j (.inr h3))]
  by_cases hi:i<sa+k
  ·rw [dB (Rout i (.inl hi))]
   have:=lo1 (i - sa) (by lia)
   rw [show sa+(i - sa)=i by lia] at this
   have:=low (sa+na - 1) (by lia) (by lia)
   lia
  ·obtain ⟨q,q1,q2,q3⟩:=Rin (i - (sa+k)) (by lia)
   rw [show sa+k+(i - (sa+k))=i by lia] at q3
   rw [q3]
   exact xa3 (high q q1 q2) e2
structure St (r:Value->Int) (κ:SortKind) (a₀:Array Keyed) (st:SortSt) (ps:List (Nat × Nat × Nat)) (lo:Nat):Prop where
 kind:kindOf st=κ
 failed:failedOf st=none
 perm:(arrOf st).Perm a₀
 pend:pendingOf st=ps.toArray
 runs:Runs r (arrOf st) ps 0 lo
theorem St.size {a₀:Array Keyed} {st:SortSt} {ps:List (Nat × Nat × Nat)} {lo:Nat} (h:St r κ a₀ st ps lo):(arrOf st).size=a₀.size:=h.perm.size_eq
theorem yH {ps:List (Nat × Nat × Nat)} (h:i+1<ps.length):∃ pre x y post,ps=pre++x :: y :: post/\pre.length=i:=by
 refine ⟨ps.take i,ps[i],ps[i+1],ps.drop (i+2),?_,by rw [xat]; lia⟩
 rw [<- xba (by lia),<- xba (by lia),xbk]
theorem jZ {st:SortSt} {a₀:Array Keyed} {ps:List (Nat × Nat × Nat)} {lo i:Nat} {Q:Bool->SortSt->Prop} (C:Cmp prog w A s κ r P) (hP:AllP P a₀) (H:St r κ a₀ st ps lo) (hlo:lo<=a₀.size) (hi:i+1<ps.length)
  (h:∀ st' ps',St r κ a₀ st' ps' lo->ps'.length+1=ps.length->ps'≠[]->(∀ k,lo<=k->(arrOf st')[k]? = (arrOf st)[k]?)->Q true st'):wpS (model prog w) A E s (mergeAt' i) Q st:=by
 obtain ⟨pre,⟨sa,na,pa⟩,⟨sb,nb,pb⟩,post,rfl,hpre⟩:=yH hi
 have hz:=H.size
 have hP':AllP P (arrOf st):=hP.perm H.perm
 obtain ⟨c,hr1,hr2⟩:=Runs.append.mp H.runs
 obtain ⟨rfl,n1,u1,rfl,n2,u2,hr3⟩:=hr2
 have le3:=hr3.le
 have le1:=hr1.le
 -- the new pending list
 have epend:((pendingOf st).setIfInBounds i (sa,na+nb,pa)).eraseIdxIfInBounds (i+1)=(pre++(sa,na+nb,pa) :: post).toArray:=by
  rw [H.pend]
  apply xb2.mp
  simp [<- hpre,xcd]
 have new:∀ (xs:Array Keyed) (g:Nat),xs.Perm (arrOf st)->(∀ j,j<sa\/sa+na+nb<=j->xs[j]? = (arrOf st)[j]?)->Up r xs sa (sa+(na+nb)) ->
   St r κ a₀ (SortSt.mk' (kindOf st) xs (pre++(sa,na+nb,pa) :: post).toArray g (failedOf st)) (pre++(sa,na+nb,pa) :: post) lo:=fun xs g hp ho hu =>
  ⟨H.kind,H.failed,hp.trans H.perm,rfl,Runs.append.mpr ⟨sa,hr1.congr fun k _ hk=>ho k (.inl hk),rfl,by walk_at "s4",hu,by
   rw [show sa+(na+nb)=sa+na+nb by exact (xbP ..).symm]
   exact hr3.congr fun k hk _=>ho k (.inr hk)⟩⟩
 have len:(pre++(sa,na+nb,pa) :: post).length+1=(pre++(sa,na,pa) :: (sa+na,nb,pb) :: post).length:=by simp; exact xbP ..
 have e0:(pendingOf st)[i]? = some (sa,na,pa):=by rw [H.pend,<- hpre]; simp
 have e1:(pendingOf st)[i+1]? = some (sa+na,nb,pb):=by rw [H.pend,<- hpre]; simp
 refine wpS_bind (wpS_get ?_)
 rw [e0,e1]
 dsimp only
 refine wpS_bind (wpS_modify (f:=fun _=>SortSt.mk' (kindOf st) (arrOf st) (((pendingOf st).setIfInBounds i (sa,na+nb,pa)).eraseIdxIfInBounds (i+1)) (gallopOf st) (failedOf st)) ?_)
 rw [epend]
 refine wpS_bind (aJ (xs:=arrOf st) (by lia) fun kb ekb=>wpS_bind (di (arr:=arrOf st) C H.kind hP' (hP'.at ekb) (by lia) (by assumption) u1 fun k hk1 hk2 hk3=>?_))
 have rkb:=R_at (r:=r) ekb
 dsimp only
 by_cases z:na - k=0
 ·rw [if_pos (by simpa using z)]
  refine wpS_pure (h _ _ (new (arrOf st) (gallopOf st) (Array.Perm.refl _) (fun _ _=>rfl) ?_) len (by simp) fun _ _=>rfl)
  rw [show sa+(na+nb)=sa+na+nb by exact (xbP ..).symm]
  refine u1.glue u2 fun i j h1 h2 h3 h4=>?_
  have:=zb (hk2 (i - sa) (by lia))
  rw [show sa+(i - sa)=i by exact xbr ‹_›] at this
  have:=u2 (sa+na) j (xae _) h3 h4
  lia
 ·rw [if_neg (by simpa using z)]
  refine wpS_bind (aJ (xs:=arrOf st) (by lia) fun ka eka=>wpS_bind (di (arr:=arrOf st) C H.kind hP' (hP'.at eka) (by lia) (by exact xcy ‹_› xcg) u2 fun l hl1 hl2 hl3=>?_))
  have rka:=R_at (r:=r) eka
  rw [show sa+k+(na - k) - 1=sa+na - 1 by lia] at rka
  dsimp only
  by_cases z2:l=0
  ·rw [if_pos (by simpa using z2)]
   refine wpS_pure (h _ _ (new (arrOf st) (gallopOf st) (Array.Perm.refl _) (fun _ _=>rfl) ?_) len (by simp) fun _ _=>rfl)
   rw [show sa+(na+nb)=sa+na+nb by exact (xbP ..).symm]
   refine u1.glue u2 fun i j h1 h2 h3 h4=>?_
   have:=uH (hl3 (j - (sa+na)) (by lia) (by lia))
   rw [show sa+na+(j - (sa+na))=j by exact xbr ‹_›] at this
   have:=u1 i (sa+na - 1) h1 (by lia) (by lia)
   lia
  ·rw [if_neg (by simpa using z2)]
   have lo1:∀ i,i<k->R r (arrOf st) (sa+i)<=R r (arrOf st) (sa+na):=fun i hi=>by have:=zb (hk2 i hi); lia
   have lo2:R r (arrOf st) (sa+na)<R r (arrOf st) (sa+k):=by have:=wI (hk3 k (xae _) (by lia)); lia
   have hi1:∀ i,i<l->R r (arrOf st) (sa+na+i)<R r (arrOf st) (sa+na - 1):=fun i hi=>by have:=Cr (hl2 i hi); lia
   have hi2:∀ i,l<=i->i<nb->R r (arrOf st) (sa+na - 1)<=R r (arrOf st) (sa+na+i):=fun i h1 h2=>by have:=uH (hl3 i h1 h2); lia
   have sx:((arrOf st).extract (sa+k) (sa+na)).size=na - k:=by simp only [xbl]; lia
   have sy:((arrOf st).extract (sa+na) (sa+na+l)).size=l:=by simp only [xbl]; lia
   have ux:Up r ((arrOf st).extract (sa+k) (sa+na)) 0 ((arrOf st).extract (sa+k) (sa+na)).size:=Up.extract (fun i j h1 h2 h3=>u1 i j (by lia) h2 h3) (by lia) (by lia)
   have uy:Up r ((arrOf st).extract (sa+na) (sa+na+l)) 0 ((arrOf st).extract (sa+na) (sa+na+l)).size:=Up.extract (fun i j h1 h2 h3=>u2 i j h1 h2 (by walk_at "s4")) (by exact xbK _ _) (by lia)
   have h00:R r ((arrOf st).extract (sa+na) (sa+na+l)) 0<=R r ((arrOf st).extract (sa+k) (sa+na)) 0:=by
    rw [dW (by lia) (by lia),dW (by lia) (by lia)]
    exact xbs lo2
   have hgg:∀ j,j<((arrOf st).extract (sa+na) (sa+na+l)).size->R r ((arrOf st).extract (sa+na) (sa+na+l)) j<=R r ((arrOf st).extract (sa+k) (sa+na)) (((arrOf st).extract (sa+k) (sa+na)).size - 1):=fun j hj=>by
    rw [sx,dW (by lia) (by lia),dW (by lia) (by lia),show sa+k+(na - k - 1)=sa+na - 1 by lia]
    exact xbs (hi1 j (by lia))
   have fin:∀ out st',cG r ((arrOf st).extract (sa+k) (sa+na)) ((arrOf st).extract (sa+na) (sa+na+l)) out->Mg (SortSt.mk' (kindOf st) (arrOf st) (pre++(sa,na+nb,pa) :: post).toArray (gallopOf st) (failedOf st)) st' ->
     Q true (SortSt.mk' (kindOf st') (wr (sa+k) out.toList 0 (arrOf st')) (pendingOf st') (gallopOf st') (failedOf st')):=fun out st' hm hg=>by
    obtain ⟨g,rfl⟩:=hg
    obtain ⟨m1,m2,m3⟩:=vO (by lia) (by lia) hl1 u1 u2 lo1 lo2 hi1 hi2 hm
    exact h _ _ (new _ g m2 m3 (by rw [show sa+(na+nb)=sa+na+nb by exact (xbP ..).symm]; exact m1)) len (by simp) fun k hk=>m3 k (.inr (by lia))
   have fin2:∀ out st',cG r ((arrOf st).extract (sa+k) (sa+na)) ((arrOf st).extract (sa+na) (sa+na+l)) out->Mg (SortSt.mk' (kindOf st) (arrOf st) (pre++(sa,na+nb,pa) :: post).toArray (gallopOf st) (failedOf st)) st' ->
     failedOf st'=none:=fun out st' _ hg=>by
    obtain ⟨g,rfl⟩:=hg
    exact H.failed
   by_cases z3:na - k<=l
   ·rw [if_pos z3]
    refine wpS_bind (rF (a:=(arrOf st).extract (sa+k) (sa+na)) (b:=(arrOf st).extract (sa+na) (sa+na+l)) C H.kind (hP'.extract _ _) (hP'.extract _ _) ux uy (by lia) (by lia) h00 hgg fun out st' hm hg=>?_)
    refine wpS_bind (wpS_modify (wpS_bind (wpS_get ?_)))
    have f:=fin out st' hm hg
    have f2:=fin2 out st' hm hg
    refine wpS_pure ?_
    show Q (failedOf st').isNone _
    rw [f2]
    exact f
   ·rw [if_neg z3]
    refine wpS_bind (su (a:=(arrOf st).extract (sa+k) (sa+na)) (b:=(arrOf st).extract (sa+na) (sa+na+l)) C H.kind (hP'.extract _ _) (hP'.extract _ _) ux uy (by lia) (by lia) h00 hgg fun out st' hm hg=>?_)
    refine wpS_bind (wpS_modify (wpS_bind (wpS_get ?_)))
    have f:=fin out st' hm hg
    have f2:=fin2 out st' hm hg
    refine wpS_pure ?_
    show Q (failedOf st').isNone _
    rw [f2]
    exact f
end
section
variable {prog:Program} {w:World} {A:Around} {E:Value->Shared->Prop} {s:Shared} {κ:SortKind} {r:Value->Int} {P:Value->Prop}
theorem Runs.modify (hf:∀ x,(f x).1=x.1/\(f x).2.1=x.2.1):∀ {ps:List (Nat × Nat × Nat)} {i a b:Nat},Runs r xs ps a b->Runs r xs (ps.modify i f) a b
 | [],_,_,_,h=>by simpa using h
 | (s,n,p) :: rest,0,a,b,h=>by
  obtain ⟨h1,h2⟩:=hf (s,n,p)
  rw [List.modify_zero_cons]
  have e:f (s,n,p)=(s,n,(f (s,n,p)).2.2):=Prod.ext h1 (Prod.ext h2 rfl)
  rw [e]
  exact h
 | (s,n,p) :: rest,i+1,a,b,h=>by
  rw [List.modify_succ_cons]
  obtain ⟨h1,h2,h3,h4⟩:=h
  exact ⟨h1,h2,h3,Runs.modify hf h4⟩
theorem St.win {a₀:Array Keyed} {st st':SortSt} {ps:List (Nat × Nat × Nat)} {lo hi:Nat} (H:St r κ a₀ st ps lo) (hw:Win lo hi st st'):St r κ a₀ st' ps lo :=
 ⟨hw.kind.trans H.kind,hw.failed.trans H.failed,hw.perm.trans H.perm,hw.pend.trans H.pend,H.runs.congr fun k _ hk=>hw.out k (.inl hk)⟩
theorem wpS_sortRuns {st:SortSt} {Q:Unit->SortSt->Prop} (C:Cmp prog w A s κ r P) (hk:kindOf st=κ) (hP:AllP P (arrOf st)) (hp:pendingOf st = #[]) (hf:failedOf st=none)
  (h:∀ st',(arrOf st').Perm (arrOf st)->failedOf st'=none->Up r (arrOf st') 0 (arrOf st).size->Q () st'):wpS (model prog w) A E s sortRuns' Q st:=by
 rw [sortRuns'_eq]
 refine wpS_bind (wpS_get ?_)
 dsimp only
 generalize ha:arrOf st=a₀ at *
 have H0:St r κ a₀ st [] 0:=⟨hk,hf,by rw [ha],by rw [hp],rfl⟩
 refine wpS_bind (wpS_mono (wpS_forRange (I:=fun x c st'=>∃ ps lo,c=(none,lo)/\St r κ a₀ st' ps lo/\lo<=a₀.size/\x<=lo)
  (Q:=fun c st'=>∃ ps,c=(none,a₀.size)/\St r κ a₀ st' ps a₀.size) ?step ?fin ⟨[],0,rfl,H0,xaq _,xae _⟩) ?post)
 case fin =>
  rintro c st' ⟨ps,lo,rfl,H,h1,h2⟩
  have:lo=a₀.size:=by lia
  subst this
  exact ⟨ps,rfl,H⟩
 case post =>
  rintro c st' ⟨ps,rfl,H⟩
  dsimp only
  have l0:=H.runs.le
  refine wpS_bind (wpS_mono (wpS_forRange (I:=fun y c st'=>c=(none,())/\∃ ps',St r κ a₀ st' ps' a₀.size/\ps'.length+y<=a₀.size)
   (Q:=fun c st'=>c=(none,())/\∃ ps',St r κ a₀ st' ps' a₀.size/\ps'.length<=1) ?step3 ?fin3 ⟨rfl,ps,H,by lia⟩) ?post3)
  case fin3 =>
   rintro c st' ⟨rfl,ps',H',hl⟩
   exact ⟨rfl,ps',H',by lia⟩
  case post3 =>
   rintro c st' ⟨rfl,ps',H',hl⟩
   refine wpS_pure (h st' H'.perm H'.failed ?_)
   have q:=H'.runs
   match ps',hl,q with
   | [],_,q =>
    have q:0=a₀.size:=q
    intro i j _ _ hj
    lia
   | [(s',n',p')],_,q =>
    obtain ⟨rfl,_,hu,e⟩:=q
    have e:0+n'=a₀.size:=e
    rw [<- e]
    exact hu
  case step3 =>
   rintro y c st1 _ hy ⟨rfl,ps',H',hl⟩
   refine wpS_bind (wpS_get ?_)
   have ep:(pendingOf st1).size=ps'.length:=by rw [H'.pend]; simp
   by_cases z:(pendingOf st1).size<=1
   ·rw [if_pos z]
    exact wpS_pure ⟨rfl,ps',H',by lia⟩
   ·rw [if_neg z]
    refine wpS_bind (jZ C hP H' (xae _) (by (repeat' split) <;> lia) fun st2 ps2 H2 hlen _ _=>?_)
    rw [if_neg (by simp)]
    exact wpS_pure ⟨rfl,ps2,H2,by lia⟩
 case step =>
  rintro x c st1 _ hx ⟨ps,lo,rfl,H,h1,h2⟩
  dsimp only
  by_cases z:lo >= a₀.size
  ·rw [if_pos z]
   have:lo=a₀.size:=by lia
   subst this
   exact wpS_pure ⟨ps,rfl,H⟩
  ·rw [if_neg z]
   have hz:=H.size
   refine wpS_bind (wpS_countRun C H.kind (hP.perm H.perm) (by lia) (by lia) fun m st2 hw hm1 hm2 hu=>?_)
   have H2:=H.win hw
   dsimp only
   refine Ba (K:=?K) ?pk fun key=>?main
   case main =>
    by_cases z2:m<minRun' a₀.size a₀.size 0
    ·rw [if_pos z2]
     refine wpS_bind (wpS_lift (wpAny_rule ⟨rfl,?_⟩))
     refine wpS_bind (wpS_binarySort C H2.kind (hP.perm H2.perm) (by clear key; have:=H2.size; lia) (by clear key; lia) hu fun st3 hw3 hu3=>?_)
     have H3:=H2.win hw3
     rw [if_neg (by simp)]
     have b1:1<=min (a₀.size - lo) (minRun' a₀.size a₀.size 0):=by clear key; lia
     have b2:lo+min (a₀.size - lo) (minRun' a₀.size a₀.size 0)<=a₀.size:=by clear key; lia
     clear hw3
     generalize min (a₀.size - lo) (minRun' a₀.size a₀.size 0)=nn at *
     revert nn st3
     exact key
    ·rw [if_neg z2]
     exact key _ H2 _ hu hm1 (by lia)
   intro st3 H3 nn hu3 b1 b2
   refine wpS_bind (wpS_get ?_)
   have push:∀ (st':SortSt) (ps':List (Nat × Nat × Nat)),St r κ a₀ st' ps' lo->Up r (arrOf st') lo (lo+nn)->∃ ps lo',((none:Option Unit),lo+nn)=(none,lo')/\St r κ a₀ (setPending st' ((pendingOf st').push (lo,nn,0))) ps lo'/\lo'<=a₀.size/\x+1<=lo':=fun st' ps' G u =>
    ⟨ps'++[(lo,nn,0)],lo+nn,rfl,⟨G.kind,G.failed,G.perm,by show (pendingOf st').push _=_; rw [G.pend]; simp,Runs.append.mpr ⟨lo,G.runs,rfl,b1,u,rfl⟩⟩,b2,by lia⟩
   cases hb:(pendingOf st3).back? with
   | none =>
    dsimp only
    exact wpS_bind (wpS_modify (wpS_pure (push st3 ps H3 hu3)))
   | some t =>
    obtain ⟨s1,n1,p1⟩:=t
    dsimp only
    generalize power' a₀.size (2 * s1+n1) (2 * s1+n1+n1+nn) a₀.size=pw
    refine wpS_bind (wpS_mono (wpS_forRange (I:=fun y c st'=>c=(none,())/\∃ ps',St r κ a₀ st' ps' lo/\Up r (arrOf st') lo (lo+nn))
     (Q:=fun c st'=>c=(none,())/\∃ ps',St r κ a₀ st' ps' lo/\Up r (arrOf st') lo (lo+nn)) ?_ (fun _ _ q=>q) ⟨rfl,ps,H3,hu3⟩) ?_)
    ·rintro y c st4 _ hy ⟨rfl,ps',H4,hu4⟩
     refine wpS_bind (wpS_get ?_)
     have ep:(pendingOf st4).size=ps'.length:=by rw [H4.pend]; simp
     by_cases z3:(pendingOf st4).size>1
     ·rw [if_pos z3]
      have e4:(pendingOf st4)[(pendingOf st4).size - 2]? = some ((pendingOf st4)[(pendingOf st4).size - 2]'(by lia)):=getElem?_pos _ _ (by lia)
      rw [e4]
      generalize (pendingOf st4)[(pendingOf st4).size - 2]'(by lia)=tt
      obtain ⟨t1,t2,older⟩:=tt
      dsimp only
      by_cases z4:older<=pw
      ·rw [if_pos z4]
       exact wpS_pure ⟨rfl,ps',H4,hu4⟩
      ·rw [if_neg z4]
       refine wpS_bind (jZ C hP H4 h1 (by lia) fun st5 ps5 H5 hlen _ hout=>?_)
       rw [if_neg (by simp)]
       exact wpS_pure ⟨rfl,ps5,H5,hu4.congr fun k hk _=>hout k hk⟩
     ·rw [if_neg z3]
      exact wpS_pure ⟨rfl,ps',H4,hu4⟩
    ·rintro c st4 ⟨rfl,ps',H4,hu4⟩
     dsimp only
     refine wpS_bind (wpS_modify (wpS_bind (wpS_modify (wpS_pure ?_))))
     refine push _ (ps'.modify (ps'.length - 1) fun x=>(x.1,x.2.1,pw)) ⟨H4.kind,H4.failed,H4.perm,?_,Runs.modify (f:=fun x=>(x.1,x.2.1,pw)) (fun _=>⟨rfl,rfl⟩) H4.runs⟩ hu4
     show (pendingOf st4).modify ((pendingOf st4).size - 1) (fun x=>(x.1,x.2.1,pw))=_
     rw [H4.pend]
     simp
end
section
variable {prog:Program} {w:World} {A:Around} {E:Value->Shared->Prop} {s:Shared} {κ:SortKind} {r:Value->Int} {P:Value->Prop}
def dM (h:Heap) (a:Addr) (vs:List Value):Heap:=((h.update a (Obj.mapSeq fun _=>#[])).push (seqObj "tuple" vs.toArray 0)).push (seqObj "list" #[] 0)
theorem lC (hb:b≠a) (hlt:b<h.objs.size):(dM h a vs).get? b=h.get? b:=by
 unfold dM
 rw [xbH _ _ _ (by rw [size_push',xbM]; exact xar (xaS hlt)),
  xbH _ _ _ (by rw [xbM]; exact xar hlt),Heap.get?_update_ne _ _ _ _ hb]
theorem sG (hp:xs.Perm (pairsOf vs)) (hs:Up r xs 0 vs.length):(xs.map (·.2)).toList.Perm vs/\(xs.map (·.2)).toList.Pairwise fun x y=>r x<=r y:=by
 have hl:xs.toList.Perm (vs.zip vs):=by rw [<- pairsOf_toList]; exact xb1.mp hp
 have hmem:∀ p,p∈xs.toList->p.1=p.2:=fun p hp'=>(mem_zip_self (hl.mem_iff.mp hp')).1
 have e:(xs.map (·.2)).toList=xs.toList.map (·.1):=by
  rw [Array.toList_map]; exact xbu fun p hp'=>(hmem p hp').symm
 have hsz:xs.size=vs.length:=by rw [hp.size_eq,pairsOf_size]
 rw [e]
 refine ⟨?_,?_⟩
 ·have h1:=hl.map (·.1)
  rwa [List.map_fst_zip (xae _)] at h1
 ·rw [xb5]
  intro i j hi hj hij
  have hi':i<xs.size:=by simpa using hi
  have hj':j<xs.size:=by simpa using hj
  have h1:=hs i j (xaq _) (xaL hij) (by lia)
  rw [Fg hi',Fg hj'] at h1
  simpa using h1
theorem jh {F:PySem.Fin->Shared->Prop} (ho:s.heap.get? a=some (seqObj "list" vs.toArray n)) (hsz:vs.length<=sizeLine) (hP:∀ v∈vs,P v)
  (hk:2<=vs.length->∀ (Q:SortKind->Shared->Prop),Q κ { s with heap:=dM s.heap a vs }->wpAny (model prog w) A (keyKind' vs.toArray) Q E { s with heap:=dM s.heap a vs })
  (C:2<=vs.length->Cmp prog w A { s with heap:=dM s.heap a vs } κ r P)
  (h:∀ out:Array Value,out.toList.Perm vs->(out.toList.Pairwise fun x y=>r x<=r y)->F (.done (.ret .none)) { s with heap:=sortedHeap s.heap a vs out }) :
  wpAny (model prog w) A (Builtin.«list.sort» ⟨[.ref a],[]⟩) F E s:=by
 rw [list_sort_plain]
 have ha:a<s.heap.objs.size:=xal ho
 refine xaa (listItems_at ho rfl ?_)
 refine xaa (listUpdate_at ho rfl ?_ (by simpa using hsz) (xaq _))
 obtain ⟨e1,ho1⟩:∃ e1,(s.heap.update a (Obj.mapSeq fun _=>#[])).get? a=some (seqObj "list" #[] e1):=⟨_,get?_update_seq ho (fun _=>#[])⟩
 refine xaa (seqEpoch_at ho1 rfl ?_)
 refine xaa (wpAny_newTuple ?_ (by simpa using hsz))
 refine xaa (wpAny_newList ?_ (xaq _))
 refine wpAny_holding ?_
 have ho6:(dM s.heap a vs).get? a=some (seqObj "list" #[] e1):=by
  unfold dM
  rw [xbH _ _ _ (by rw [size_push',xbM]; exact xar (xaS ha)),xbH _ _ _ (by rw [xbM]; exact xar ha)]
  exact ho1
 show wpAny (model prog w) A _ F E { s with heap:=dM s.heap a vs }
 dsimp only
 have hvz:vs.toArray.size=vs.length:=by simp
 have fin:∀ st':SortSt,(arrOf st').Perm (pairsOf vs)->Up r (arrOf st') 0 vs.length->F (.done (.ret .none)) { s with heap:=sortedHeap s.heap a vs ((arrOf st').map (·.2)) }:=by
  intro st' hp hs
  obtain ⟨h1,h2⟩:=sG hp hs
  exact h _ h1 h2
 by_cases h2:vs.toArray.size<2
 ·rw [if_pos h2,if_pos h2]
  refine xaa (xab ?_)
  rw [StateT.run_pure]
  refine xaa (xab ?_)
  dsimp only
  refine xaa (seqEpoch_at ho6 rfl ?_)
  refine xaa (listUpdate_at ho6 rfl ?_ (xaq _) (by rw [Array.size_map]; show (pairsOf vs).size<=_; rw [pairsOf_size]; lia))
  simp only [bne_self_eq_false,xam,if_false]
  refine xab (fin (SortSt.mk' general' (vs.toArray.zip vs.toArray) #[] 7 none) (Array.Perm.refl _) ?_)
  intro i j _ hij hj
  have:i=j:=by lia
  subst this; exact xbj _
 ·rw [if_neg h2,if_neg h2]
  refine xaa (hk (by lia) _ ?_)
  refine xaa (xaZ (wpS_sortRuns (st:=SortSt.mk' κ (vs.toArray.zip vs.toArray) #[] 7 none)
   (Q:=fun _ st'=>(arrOf st').Perm (pairsOf vs)/\failedOf st'=none/\Up r (arrOf st') 0 vs.length)
   (C (by lia)) rfl (fun p hp=>?_) rfl rfl fun st' a1 a2 a3=>⟨a1,a2,?_⟩) ?_ fun _ _ e=>e)
  ·have hp':p∈(pairsOf vs).toList:=hp
   rw [pairsOf_toList] at hp'
   exact hP _ (mem_zip_self hp').2
  ·have e:(arrOf (SortSt.mk' κ (vs.toArray.zip vs.toArray) #[] 7 none)).size=vs.length:=pairsOf_size vs
   rw [e] at a3
   exact a3
  ·rintro ⟨⟨⟩,st'⟩ s' ⟨rfl,hp,hf,hs⟩
   dsimp only
   refine xaa (seqEpoch_at ho6 rfl ?_)
   refine xaa (listUpdate_at ho6 rfl ?_ (xaq _) (by refine xaB (xcO ((Array.size_map ..).trans (hp.size_eq.trans (pairsOf_size _)))) ?_; lia))
   rw [hf]
   simp only [bne_self_eq_false,xam,if_false]
   exact xab (fin st' hp hs)
def gA (h:Heap) (vs:List Value):Heap:=((h.push (seqObj "list" #[] 0)).update h.objs.size (Obj.mapSeq (· ++ vs.toArray))).push (seqObj "list" vs.toArray 0)
theorem jY (hb:h.get? b=some o):(dM (gA h vs) (h.objs.size+1) vs).get? b=some o:=by
 have hlt:b<h.objs.size:=xal hb
 have e:(gA h vs).get? b=some o:=by
  unfold gA
  rw [xbH _ _ _ (by rw [xbM,size_push']; exact xar (xaS hlt)),Heap.get?_update_ne _ _ _ _ (xar hlt),xbH _ _ _ (xar hlt)]
  exact hb
 rw [lC (xar (xaS hlt)) (xal e)]
 exact e
theorem yo (hl:s.heap.IsList l vs.toArray) (hsz:vs.length<=sizeLine) (hP:∀ v∈vs,P v)
  (hk:2<=vs.length->∀ (A':Around) (E':Value->Shared->Prop) (s':Shared),(∀ b o,s.heap.get? b=some o->s'.heap.get? b=some o)->∀ (Q:SortKind->Shared->Prop),Q κ s'->wpAny (model prog w) A' (keyKind' vs.toArray) Q E' s')
  (C:2<=vs.length->∀ (s':Shared),(∀ b o,s.heap.get? b=some o->s'.heap.get? b=some o)->Cmp prog w A.in1.in1 s' κ r P)
  (h:∀ (h':Heap) (out:List Value) (n:Nat),out.Perm vs->(out.Pairwise fun x y=>r x<=r y)->(∀ b o,s.heap.get? b=some o->h'.get? b=some o)->h'.get? (s.heap.objs.size+1)=some (seqObj "list" out.toArray n)->Q (.ref (s.heap.objs.size+1)) { s with heap:=h' }) :
  wpAny (model prog w) A (call (.builtin "sorted") [.ref l]) Q E s:=by
 refine Calls.call_function_entry kind_sorted plain_sorted entry_sorted (args_sorted1 _) ?_
 unfold Builtin.«sorted»
 refine xaa (m:=checkCount "sorted" 1 1 _) (xab ?_)
 refine xaa (collect_list hl ?_ hsz)
 refine xaa (wpAny_newList ?_ (by simpa using hsz))
 have hsz2:((s.heap.push (seqObj "list" #[] 0)).update s.heap.objs.size (Obj.mapSeq (· ++ vs.toArray))).objs.size=s.heap.objs.size+1:=by
  rw [xbM,size_push']
 have hoL:(gA s.heap vs).get? (s.heap.objs.size+1)=some (seqObj "list" vs.toArray 0):=by
  unfold gA
  rw [<- hsz2]; exact xao _ rfl
 show wpAny _ _ _ _ _ { s with heap:=gA s.heap vs }
 rw [hsz2]
 refine xaa (wpAny_holding (wpAny_call_entry slot_list_sort ⟨_,hoL,rfl⟩ entry_list_sort (jh (r:=r) (s:={ s with heap:=gA s.heap vs }) hoL hsz hP
  (fun h2=>hk h2 _ _ _ fun b o e=>jY e) (fun h2=>?_) fun out a1 a2=>⟨_,rfl,?_⟩) (args_list_sort _)))
 ·exact C h2 _ fun b o e=>jY e
 ·obtain ⟨n,e⟩:=sortedAll_at s.heap vs out
  refine xab ⟨_,rfl,h (sortedAll s.heap vs out) out.toList n a1 a2 (fun b o e=>sortedAll_old e) (by rw [xcq]; exact e)⟩
end
end Tim
namespace L2
open PySem PySem.Spec PyProof.Rows
def lt1:Key->Key->Bool
 | .inl i,.inl j=>decide (i<j)
 | .inr x,.inr y=>ltS x y
 | _,_=>false
def ltK:List Key->List Key->Bool
 | a :: as,b :: bs=>if a=b then ltK as bs else lt1 a b
 | _,_=>false
def isI:Key->Bool
 | .inl _=>true
 | .inr _=>false
def shOf (k:List Key):List Bool:=k.map isI
theorem Bk (x:Str):ltS x x=false:=by unfold ltS; simp [List.lt_irrefl]
theorem Eb (h:ltS x y=true) (g:ltS y z=true):ltS x z=true:=by
 unfold ltS at *
 simp only [decide_eq_true_eq] at *
 exact List.lt_trans h g
theorem xu {x y:Str} (h:x.cps.toList=y.cps.toList):x=y:=by
 cases x; cases y
 simp only at h
 rw [xb2.mp h]
theorem Ak {x y:Str} (h:ltS x y=false) (g:ltS y x=false):x=y:=by
 unfold ltS at *
 simp only [decide_eq_false_iff_not] at *
 apply xu
 exact List.le_antisymm (List.not_lt.mp g) (List.not_lt.mp h)
theorem xU (a:Key):lt1 a a=false:=by cases a with | inl i=>simp [lt1] | inr x=>exact Bk x
theorem Eh (h:lt1 a b=true) (g:lt1 b c=true):lt1 a c=true:=by
 cases a <;> cases b <;> cases c <;> simp only [lt1,decide_eq_true_eq] at * <;> first | lia | contradiction | exact Eb h g
theorem Bg (e:isI a=isI b) (h:lt1 a b=false) (g:lt1 b a=false):a=b:=by
 cases a <;> cases b <;> simp only [lt1,isI,decide_eq_false_iff_not] at *
 ·congr 1; lia
 ·cases e
 ·cases e
 ·congr 1; exact Ak h g
theorem wJ:∀ a:List Key,ltK a a=false
 | []=>rfl
 | a :: as=>by unfold ltK; rw [if_pos rfl]; exact wJ as
theorem wO:∀ {a b c:List Key},ltK a b=true->ltK b c=true->ltK a c=true
 | [],_,_,h,_=>by simp [ltK] at h
 | _ :: _,[],_,h,_=>by simp [ltK] at h
 | _ :: _,_ :: _,[],_,g=>by simp [ltK] at g
 | a :: as,b :: bs,c :: cs,h,g=>by
  unfold ltK at h g ⊢
  by_cases e1:a=b
  ·subst e1
   rw [if_pos rfl] at h
   by_cases e2:a=c
   ·subst e2
    rw [if_pos rfl] at g ⊢
    exact wO h g
   ·rw [if_neg e2] at g ⊢
    exact g
  ·rw [if_neg e1] at h
   by_cases e2:b=c
   ·subst e2
    rw [if_neg e1]
    exact h
   ·rw [if_neg e2] at g
    have t:=Eh h g
    have ne:a≠c:=fun e=>by subst e; rw [xU] at t; cases t
    rw [if_neg ne]
    exact t
theorem pH:∀ {a b:List Key},shOf a=shOf b->ltK a b=false->ltK b a=false->a=b
 | [],[],_,_,_=>rfl
 | [],_ :: _,e,_,_=>by simp [shOf] at e
 | _ :: _,[],e,_,_=>by simp [shOf] at e
 | a :: as,b :: bs,e,h,g=>by
  simp only [shOf,xas,List.cons.injEq] at e
  unfold ltK at h g
  by_cases e1:a=b
  ·subst e1
   rw [if_pos rfl] at h g
   rw [pH (show shOf as=shOf bs from e.2) h g]
  ·rw [if_neg e1] at h
   rw [if_neg (Ne.symm e1)] at g
   exact absurd (Bg e.1 h g) e1
theorem count_le {α:Type} (p q:α->Bool):∀ (l:List α),(∀ x∈l,p x=true->q x=true)->l.countP p<=l.countP q
 | [],_=>xae _
 | x :: l,h=>by
  have ih:=count_le p q l fun y hy=>h y (xaf _ hy)
  have h1:=h x xah
  rw [xci,xci]
  cases hp:p x <;> cases hq:q x <;> simp_all <;> exact Nat.le_succ_of_le ‹_›
theorem tM {α:Type} (p q:α->Bool) (a:α) (ha:p a=false) (hb:q a=true):∀ (l:List α),a∈l->(∀ x∈l,p x=true->q x=true)->l.countP p<l.countP q
 | [],m,_=>by cases m
 | x :: l,m,h=>by
  rw [xci,xci]
  rcases xaj.mp m with rfl | m
  ·have:=count_le p q l fun y hy=>h y (xaf _ hy)
   rw [ha,hb]; simp; exact xbe ‹_›
  ·have ih:=tM p q a ha hb l m fun y hy=>h y (xaf _ hy)
   have h1:=h x xah
   cases hp:p x <;> cases hq:q x <;> simp_all <;> exact xaS ‹_›
def rkK (L:List (List Key)) (k:List Key):Int:=(L.countP fun j=>ltK j k:Nat)
theorem qj (e:shOf a=shOf b) (ma:a∈L):decide (rkK L a<rkK L b)=ltK a b:=by
 unfold rkK
 cases h:ltK a b with
 | true =>
  have:=tM (fun j=>ltK j a) (fun j=>ltK j b) a (wJ a) h L ma fun x _ hx=>wO hx h
  exact decide_eq_true (by lia)
 | false =>
  apply decide_eq_false
  cases g:ltK b a with
  | false=>rw [pH e h g]; lia
  | true =>
   have:=count_le (fun j=>ltK j b) (fun j=>ltK j a) L fun x _ hx=>wO hx g
   lia
def unV:V->Option Key
 | .int i=>some (.inl i)
 | .str x=>some (.inr x)
 | _=>none
theorem Gi (k:Key):unV (kV k)=some k:=by cases k <;> rfl
theorem zQ:∀ k:List Key,(k.map kV).filterMap unV=k
 | []=>rfl
 | a :: as=>by rw [xas,xa5,Gi,zQ as]
def lR (H:Hp):Value->List Key
 | .ref b=>match H b with
  | some (.tup xs)=>xs.filterMap unV
  | _=>[]
 | _=>[]
theorem cR (h:H b=some (.tup (k.map kV))):lR H (.ref b)=k:=by
 simp only [lR,h]; exact zQ k
section
variable {prog:Program} {w:World} {A:Around} {E:Value->Shared->Prop} {s:Shared} {Q:Bool->Shared->Prop}
theorem Ek (ru:RelV (kV a) u) (rv:RelV (kV b) v) (e:isI a=isI b) (q:Q (lt1 a b) s):wpAny (model prog w) A (oneLt' false u v) Q E s:=by
 refine PySem.W.kat_one u v ?_
 cases a with
 | inl i =>
  cases b with
  | inr x=>cases e
  | inl j =>
   obtain ⟨t,rfl⟩:=ru
   obtain ⟨t',rfl⟩:=rv
   exact lt_int q
 | inr x =>
  cases b with
  | inl j=>cases e
  | inr y =>
   obtain ⟨t,rfl⟩:=ru
   obtain ⟨t',rfl⟩:=rv
   exact PySem.P.lt_str q
theorem DX (ru:RelV (kV a) u) (rv:RelV (kV b) v) (e:isI a=isI b) (q:Q (decide (a=b)) s):wpAny (model prog w) A (eqBool u v) Q E s:=by
 cases a with
 | inl i =>
  cases b with
  | inr x=>cases e
  | inl j =>
   obtain ⟨t,rfl⟩:=ru
   obtain ⟨t',rfl⟩:=rv
   refine wpAny_eqBool_int ?_
   rw [<- key_ll]; exact q
 | inr x =>
  cases b with
  | inl j=>cases e
  | inr y =>
   obtain ⟨t,rfl⟩:=ru
   obtain ⟨t',rfl⟩:=rv
   refine wpAny_eqBool_str ?_
   rw [<- key_rr]; exact q
theorem yQ (k m:List Key) (us vs:List Value) (i:Nat) (ha:Vals (k.map kV) us) (hb:Vals (m.map kV) vs) (e:shOf k=shOf m) (hf:fin=false) (q:Q (ltK k m) s) :
  PySem.W.KatLex prog w A true fin Q (us.zip vs) i s:=by
 induction k generalizing m us vs i with
 | nil =>
  cases m with
  | cons b m=>simp [shOf] at e
  | nil =>
   rw [Paired.n0 ha,Paired.n0 hb]
   subst hf
   exact PySem.W.kat_nil q
 | cons a k ih =>
  cases m with
  | nil=>simp [shOf] at e
  | cons b m =>
   obtain ⟨u,us,rfl,ra,rk⟩:=Paired.c ha
   obtain ⟨v,vs,rfl,rb,rm⟩:=Paired.c hb
   simp only [shOf,xas,List.cons.injEq] at e
   rw [xcE]
   refine PySem.W.kat_cons (DX ra rb e.1 (PySem.W.kat_go (fun h=>PySem.W.kat_yes ?_) (fun h=>PySem.W.kat_no ?_)))
   ·have h:=of_decide_eq_true h
    subst h
    unfold ltK at q
    rw [if_pos rfl] at q
    exact ih m _ _ (i+1) rk rm e.2 q
   ·have h:=of_decide_eq_false h
    unfold ltK at q
    rw [if_neg h] at q
    by_cases h0:i=0
    ·subst h0
     cases a with
     | inr x =>
      cases b with
      | inl j=>cases e.1
      | inr y =>
       obtain ⟨t,rfl⟩:=ra
       obtain ⟨t',rfl⟩:=rb
       exact oneLt_str q
     | inl i =>
      cases b with
      | inr x=>cases e.1
      | inl j =>
       obtain ⟨t,rfl⟩:=ra
       obtain ⟨t',rfl⟩:=rb
       exact oneLt_int q
    ·rw [show (true && i == 0)=false by simp [h0]]
     exact Ek ra rb e.1 q
end
section
variable {X:Cx} {pins:List (Addr × Obj)} {σ:St} {H:Hp} {s:Shared}
theorem Inv.tup (I:Inv X pins σ H s) (h:H b=some (.tup xs)):∃ its:List Value,Vals xs its/\IsTup s.heap b its.toArray:=(I.hok b _ h).2
theorem tX (I:Inv X pins σ H s) (kp:∀ b o,s.heap.get? b=some o->s'.heap.get? b=some o) :
  Tim.Cmp X.prog X.w A s' (tuples' true) (fun v=>rkK L (lR H v)) (fun v=>∃ b k,v=.ref b/\H b=some (.tup (k.map kV))/\shOf k=b0 :: sh/\k∈L):=by
 rintro x y ⟨b,k,rfl,hb,hk,mk⟩ ⟨c,m,rfl,hc,hm,mm⟩ Q E q
 obtain ⟨us,ru,o,e1,c1,n1,d1⟩:=I.tup hb
 obtain ⟨vs,rv,o',e2,c2,n2,d2⟩:=I.tup hc
 have sh':shOf k=shOf m:=hk.trans hm.symm
 simp only [cR hb,cR hc] at q
 rw [qj sh' mk] at q
 refine PySem.W.kat_lt (kp _ _ e1) d1 (kp _ _ e2) d2 (yQ k m us vs 0 ru rv sh' ?_ q)
 ·have h1:=ru.length
  have h2:=rv.length
  have h3:k.length=m.length:=by
   have:=congrArg List.length sh'
   simpa [shOf] using this
  simp only [xac] at h1 h2
  exact decide_eq_false (by simp only [xan]; lia)
theorem kat_tups (I:Inv X pins σ H s) {s':Shared} (kp:∀ b o,s.heap.get? b=some o->s'.heap.get? b=some o) {b0:Bool} {sh:List Bool} {ys:List V} {ks:List (List Key)} {vs:List Value} (ht:cz H ys ks) (hv:Vals ys vs) (hs:∀ k∈ks,shOf k=b0 :: sh) :
  ∃ fs:List Value,PySem.W.KatTups s'.heap vs fs/\fs.length=vs.length/\∀ f∈fs,(b0=true->∃ i t,f=Value.int i t)/\(b0=false->∃ x t,f=Value.str x t):=by
 induction ys generalizing ks vs with
 | nil =>
  rw [Paired.n0 hv]
  exact ⟨[],.nil,rfl,by simp⟩
 | cons y ys ih =>
  obtain ⟨k,ks,rfl,⟨b,rfl,hb⟩,t⟩:=Paired.c ht
  obtain ⟨v,vs,rfl,rfl,rs⟩:=Paired.c hv
  obtain ⟨fs,f1,f2,f3⟩:=ih t rs fun j hj=>hs j (xaf _ hj)
  have hk:=hs k xah
  obtain ⟨us,ru,o,e1,c1,n1,d1⟩:=I.tup hb
  cases k with
  | nil=>simp [shOf] at hk
  | cons a k =>
   obtain ⟨u,us,rfl,ra,rr⟩:=Paired.c ru
   simp only [shOf,xas,List.cons.injEq] at hk
   refine ⟨u :: fs,.cons (kp _ _ e1) c1 d1 rfl f1,by simp [f2],fun f hf=>?_⟩
   rcases xaj.mp hf with rfl | hf
   ·cases a with
    | inr x =>
     obtain ⟨tk,rfl⟩:=ra
     exact ⟨(fun z=>by rw [<- hk.1] at z; cases z),fun _=>⟨_,_,rfl⟩⟩
    | inl i =>
     obtain ⟨tk,rfl⟩:=ra
     exact ⟨fun _=>⟨_,_,rfl⟩,fun z=>by rw [<- hk.1] at z; cases z⟩
   ·exact f3 f hf
end
def uD (K:PySem.W.Frag):List V->Hp->VK->Prop:=fun xs H Q=>match xs with
 | [.ref p]=>∃ ys ks sh,SqL K H p ys/\cz H ys ks/\(∀ k∈ks,shOf k=true :: sh) /\
   ∀ zs ms l,cz H zs ms->ms.Perm ks->(ms.Pairwise fun a b=>ltK b a=false)->H l=none->Q (.ref l) (upd H l (.lst zs))
 | _=>False
theorem cz.mem (h:cz H ys ks) (y:V) (hy:y∈ys):∃ b k,y=.ref b/\H b=some (.tup (k.map kV))/\k∈ks:=by
 induction ys generalizing ks with
 | nil=>cases hy
 | cons z ys ih =>
  obtain ⟨k,ks,rfl,⟨b,rfl,g⟩,t⟩:=Paired.c h
  rcases xaj.mp hy with rfl | hy
  ·exact ⟨b,_,rfl,g,xah⟩
  ·obtain ⟨b,k,e,g,m⟩:=ih t hy
   exact ⟨b,k,e,g,xaf _ m⟩
theorem cz.keys (h:cz H ys ks) (hv:Vals ys vs):vs.map (lR H)=ks/\∀ v∈vs,∃ b k,v=.ref b/\H b=some (.tup (k.map kV))/\k∈ks:=by
 induction ys generalizing ks vs with
 | nil=>rw [Paired.n0 hv,show ks=[] from Paired.n0 h]; exact ⟨rfl,by simp⟩
 | cons y ys ih =>
  obtain ⟨k,ks,rfl,⟨b,rfl,g⟩,t⟩:=Paired.c h
  obtain ⟨v,vs,rfl,rfl,rs⟩:=Paired.c hv
  obtain ⟨e,m⟩:=ih t rs
  refine ⟨by rw [xas,cR g,e],fun v hv=>?_⟩
  rcases xaj.mp hv with rfl | hv
  ·exact ⟨b,k,rfl,g,xah⟩
  ·obtain ⟨b',k',e1,e2,e3⟩:=m v hv
   exact ⟨b',k',e1,e2,xaf _ e3⟩
theorem cz.of {H:Hp} {ks:List (List Key)} (vs:List Value) (h:∀ v∈vs,∃ b k,v=Value.ref b/\H b=some (.tup (k.map kV))/\k∈ks):∃ zs,cz H zs (vs.map (lR H))/\Vals zs vs:=by
 induction vs with
 | nil=>exact ⟨[],.nil,.nil⟩
 | cons v vs ih =>
  obtain ⟨zs,a,c⟩:=ih fun u hu=>h u (xaf _ hu)
  obtain ⟨b,k,rfl,e,_⟩:=h v xah
  exact ⟨.ref b :: zs,.cons ⟨b,rfl,by rw [cR e]; exact e⟩ a,.cons rfl c⟩
section
variable {X:Cx}
theorem vg:CallR X (.builtin "sorted") (uD X.K):=by
 intro pins s σ H xs us Q I r h
 unfold uD at h
 split at h
 ·rename_i p
  obtain ⟨ys,ks,sh,hl,ht,hs,q⟩:=h
  obtain ⟨u,rfl,ru⟩:=Vals.one r
  cases ru
  obtain ⟨vs,rv,pl,hz⟩:=I.list hl
  obtain ⟨ek,mem⟩:=ht.keys rv
  have hlen:=rv.length
  refine Tim.yo (κ:=tuples' true) (r:=fun v=>rkK ks (lR H v)) (P:=fun v=>∃ b k,v=.ref b/\H b=some (.tup (k.map kV))/\shOf k=true :: sh/\k∈ks) pl.isList (by lia) (fun v hv=>?_) (fun h2 A' E' s' kp Q' q'=>?_) (fun h2 s' kp=>tX I kp) fun h' out n pm pw kp eo=>?_
  ·obtain ⟨b,k,e1,e2,e3⟩:=mem v hv
   exact ⟨b,k,e1,e2,hs k e3,e3⟩
  ·obtain ⟨fs,f1,f2,f3⟩:=kat_tups I kp ht rv hs
   refine PySem.W.kat_kind (T:=.type "int") f1 (by lia) (fun f hf=>?_) (by decide) q'
   obtain ⟨i,t,rfl⟩:=(f3 f hf).1 rfl
   exact .now
  ·obtain ⟨zs,z1,z2⟩:=cz.of (H:=H) (ks:=ks) out fun v hv=>mem v (pm.mem_iff.mp hv)
   have zl:=z2.length
   have ol:=pm.length_eq
   have pms:(out.map (lR H)).Perm ks:=by rw [<- ek]; exact pm.map _
   refine ⟨.ref (s.heap.objs.size+1),_,I.laid (a:=s.heap.objs.size+1) (t':=s.toks) kp (Nat.le_succ _) (show ObjOk X.prog X.w _ h' _ (.lst zs) from ⟨by lia,out,n,z2,eo⟩),rfl,
    q zs _ _ z1 pms ?_ (I.hok.fresh (Nat.le_succ _))⟩
   rw [xaG]
   refine pw.imp_of_mem fun {x y} mx my hle=>?_
   obtain ⟨b,k,rfl,hb,kk⟩:=mem x (pm.mem_iff.mp mx)
   obtain ⟨c,m,rfl,hc,km⟩:=mem y (pm.mem_iff.mp my)
   rw [cR hb,cR hc] at *
   have:=qj (L:=ks) ((hs m km).trans (hs k kk).symm) km
   rw [<- this]
   exact decide_eq_false (by lia)
 ·exact h.elim
end
end L2
namespace Tim
open PySem PyProof.Rows
end Tim
namespace L2
open PySem PySem.Spec PyProof.Rows
def jt:Value->List Key
 | .int i _=>[.inl i]
 | .str x _=>[.inr x]
 | _=>[]
theorem lr (h:RelV (kV k) v):jt v=[k]:=by
 cases k with
 | inl i=>obtain ⟨t,rfl⟩:=h; rfl
 | inr x=>obtain ⟨t,rfl⟩:=h; rfl
theorem wM:ltK [a] [b]=lt1 a b:=by
 unfold ltK
 by_cases e:a=b
 ·subst e; rw [if_pos rfl,xU]; rfl
 ·rw [if_neg e]
theorem yW {prog:Program} {w:World} {A:Around} {s:Shared} {b:Bool} {L:List Key} :
  Tim.Cmp prog w A s oneType' (fun v=>rkK (L.map fun k=>[k]) (jt v)) (fun v=>∃ k,RelV (kV k) v/\isI k=b/\k∈L):=by
 rintro x y ⟨k,rk,ik,mk⟩ ⟨m,rm,im,mm⟩ Q E q
 simp only [lr rk,lr rm] at q
 rw [qj (by simp [shOf,ik,im]) (xai.mpr ⟨k,mk,rfl⟩),wM] at q
 rw [keyLt'_oneType]
 cases k with
 | inl i =>
  cases m with
  | inr y=>rw [<- im] at ik; cases ik
  | inl j =>
   obtain ⟨t,rfl⟩:=rk
   obtain ⟨u,rfl⟩:=rm
   exact oneLt_int q
 | inr x =>
  cases m with
  | inl y=>rw [<- im] at ik; cases ik
  | inr j =>
   obtain ⟨t,rfl⟩:=rk
   obtain ⟨u,rfl⟩:=rm
   exact oneLt_str q
theorem ints_of {ks:List Key} {vs:List Value} (r:Vals (ks.map kV) vs) (h:∀ k∈ks,isI k=true):∃ ns,IntsAre vs ns:=by
 induction ks generalizing vs with
 | nil=>rw [Paired.n0 r]; exact ⟨[],.nil⟩
 | cons k ks ih =>
  obtain ⟨v,vs,rfl,r,rs⟩:=Paired.c r
  obtain ⟨ns,q⟩:=ih rs fun j hj=>h j (xaf _ hj)
  have:=h k xah
  cases k with
  | inr x=>cases this
  | inl i=>obtain ⟨t,rfl⟩:=r; exact ⟨_,.cons i t q⟩
theorem A_ {ks:List Key} {vs:List Value} (r:Vals (ks.map kV) vs) (h:∀ k∈ks,isI k=false):∃ ns,StrsAre vs ns:=by
 induction ks generalizing vs with
 | nil=>rw [Paired.n0 r]; exact ⟨[],.nil⟩
 | cons k ks ih =>
  obtain ⟨v,vs,rfl,r,rs⟩:=Paired.c r
  obtain ⟨ns,q⟩:=ih rs fun j hj=>h j (xaf _ hj)
  have:=h k xah
  cases k with
  | inl x=>cases this
  | inr i=>obtain ⟨t,rfl⟩:=r; exact ⟨_,.cons i t q⟩
theorem wz {prog:Program} {w:World} {A:Around} {E:Value->Shared->Prop} {s:Shared} {b:Bool} {ks:List Key} {vs:List Value} (r:Vals (ks.map kV) vs) (h:∀ k∈ks,isI k=b) (h2:2<=vs.length) {Q:SortKind->Shared->Prop} (q:Q oneType' s) :
  wpAny (model prog w) A (keyKind' vs.toArray) Q E s:=by
 match vs,h2 with
 | v1 :: v2 :: vs,_ =>
  cases b with
  | true=>obtain ⟨ns,hI⟩:=ints_of r h; rw [keyKind_ints hI]; exact xab q
  | false=>obtain ⟨ns,hI⟩:=A_ r h; rw [keyKind_strs hI]; exact xab q
theorem keys_map {ks:List Key} {vs:List Value} (r:Vals (ks.map kV) vs):vs.map jt=ks.map fun k=>[k]:=by
 induction ks generalizing vs with
 | nil=>rw [Paired.n0 r]; rfl
 | cons k ks ih =>
  obtain ⟨u,vs,rfl,r,rs⟩:=Paired.c r
  rw [xas,xas,lr r,ih rs]
theorem qW {ks:List Key} (vs:List Value) (h:∀ v∈vs,∃ k,RelV (kV k) v/\k∈ks):∃ ms:List Key,Vals (ms.map kV) vs:=by
 induction vs with
 | nil=>exact ⟨[],.nil⟩
 | cons v vs ih =>
  obtain ⟨ms,r⟩:=ih fun u hu=>h u (xaf _ hu)
  obtain ⟨k,rk,_⟩:=h v xah
  exact ⟨k :: ms,.cons rk r⟩
theorem wA:∀ {ms ks:List Key},(ms.map fun k=>[k]).Perm (ks.map fun k=>[k])->ms.Perm ks:=fun {ms ks} h=>by
 have:=h.map (fun l:List Key=>l.head?)
 simp only [xaw] at this
 have e:∀ l:List Key,l.map ((fun l:List Key=>l.head?) ∘ fun k=>[k])=l.map some:=fun l=>xbu fun _ _=>rfl
 rw [e,e] at this
 have:=this.filterMap id
 simpa using this
end L2
namespace L2.Q
open PySem PySem.Spec PyProof.Rows
inductive D where
 | non | bl (b:Bool) | int (i:Int) | str (x:Str)
 | list (xs:List D) | tup (xs:List D) | dK (kvs:List (Key × D)) | dT (kvs:List (List Key × D))
mutual
/-- nothing in it can be changed -/
def D.flat:D->Bool
 | .list _=>false
 | .dK _=>false
 | .dT _=>false
 | .tup xs=>flats xs
 | _=>true
def flats:List D->Bool
 | []=>true
 | x :: xs=>x.flat && flats xs
end
theorem lu:∀ {xs:List D},flats xs=true↔∀ x∈xs,x.flat=true
 | []=>by simp [flats]
 | x :: xs=>by simp [flats,lu (xs:=xs)]
theorem jj:flats (xs++ys)=(flats xs && flats ys):=by
 induction xs with
 | nil=>simp [flats]
 | cons x xs ih=>simp [flats,ih,Bool.and_assoc]
def kOk:Key->Bool
 | .inl _=>true
 | .inr x=>decide (x.length<=sizeLine)
def KsOk (kvs:List (Key × D)):Prop:=kvs.length<=sizeLine/\∀ p∈kvs,kOk p.1=true
def KtOk (kvs:List (List Key × D)):Prop:=kvs.length<=sizeLine/\∀ p∈kvs,p.1.length<=sizeLine/\∀ k∈p.1,kOk k=true
mutual
inductive Rep (K:PySem.W.Frag) (H:Hp):D->V->Prop
 | non:Rep K H .non .non
 | bl (b:Bool):Rep K H (.bl b) (.bl b)
 | int (i:Int):Rep K H (.int i) (.int i)
 | str {x:Str}:x.length<=sizeLine->Rep K H (.str x) (.str x)
 | list {a:Addr} {vs:List V} {ds:List D}:vs.length<=sizeLine->SqL K H a vs->Reps K H ds vs->Rep K H (.list ds) (.ref a)
 | tup {a:Addr} {vs:List V} {ds:List D}:vs.length<=sizeLine->H a=some (.tup vs)->Reps K H ds vs->Rep K H (.tup ds) (.ref a)
 | dK {a:Addr} {vs:List V} {kvs:List (Key × D)}:KsOk kvs->Rd H a (.dK ((kvs.map (·.1)).zip vs))->Reps K H (kvs.map (·.2)) vs->Rep K H (.dK kvs) (.ref a)
 | dT {a:Addr} {vs:List V} {kvs:List (List Key × D)}:KtOk kvs->Rd H a (.dT ((kvs.map (·.1)).zip vs))->Reps K H (kvs.map (·.2)) vs->Rep K H (.dT kvs) (.ref a)
inductive Reps (K:PySem.W.Frag) (H:Hp):List D->List V->Prop
 | nil:Reps K H [] []
 | cons {d:D} {v:V} {ds:List D} {vs:List V}:Rep K H d v->Reps K H ds vs->Reps K H (d :: ds) (v :: vs)
end
theorem Rep.ind {K:PySem.W.Frag} {H:Hp} {m1:D->V->Prop} {m2:List D->List V->Prop} (h0:m1 .non .non) (hb:∀ b,m1 (.bl b) (.bl b)) (hi:∀ i,m1 (.int i) (.int i)) (hs:∀ x,x.length<=sizeLine->m1 (.str x) (.str x))
  (hl:∀ a vs ds,vs.length<=sizeLine->SqL K H a vs->Reps K H ds vs->m2 ds vs->m1 (.list ds) (.ref a)) (ht:∀ a vs ds,vs.length<=sizeLine->H a=some (.tup vs)->Reps K H ds vs->m2 ds vs->m1 (.tup ds) (.ref a))
  (hk:∀ a vs kvs,KsOk kvs->Rd H a (.dK ((kvs.map (·.1)).zip vs))->Reps K H (kvs.map (·.2)) vs->m2 (kvs.map (·.2)) vs->m1 (.dK kvs) (.ref a)) (hT:∀ a vs kvs,KtOk kvs->Rd H a (.dT ((kvs.map (·.1)).zip vs))->Reps K H (kvs.map (·.2)) vs->m2 (kvs.map (·.2)) vs->m1 (.dT kvs) (.ref a))
  (hn:m2 [] []) (hc:∀ d v ds vs,Rep K H d v->Reps K H ds vs->m1 d v->m2 ds vs->m2 (d :: ds) (v :: vs)):(∀ {d v},Rep K H d v->m1 d v)/\∀ {ds vs},Reps K H ds vs->m2 ds vs :=
 ⟨fun r=>Rep.rec (motive_1:=fun d v _=>m1 d v) (motive_2:=fun ds vs _=>m2 ds vs) h0 hb hi (fun h=>hs _ h) (fun z s r ih=>hl _ _ _ z s r ih) (fun z s r ih=>ht _ _ _ z s r ih) (fun z s r ih=>hk _ _ _ z s r ih) (fun z s r ih=>hT _ _ _ z s r ih) hn (fun r s a b=>hc _ _ _ _ r s a b) r,
  fun r=>Reps.rec (motive_1:=fun d v _=>m1 d v) (motive_2:=fun ds vs _=>m2 ds vs) h0 hb hi (fun h=>hs _ h) (fun z s r ih=>hl _ _ _ z s r ih) (fun z s r ih=>ht _ _ _ z s r ih) (fun z s r ih=>hk _ _ _ z s r ih) (fun z s r ih=>hT _ _ _ z s r ih) hn (fun r s a b=>hc _ _ _ _ r s a b) r⟩
theorem DGet.k' (e:Rd H a (.dK kvs)):DGet H a (kV k) (valV kvs k):=.inl ⟨kvs,k,e,rfl,rfl⟩
theorem DGet.t' (e:Rd H a (.dT kvs)) (eb:H b=some (.tup (k.map kV))):DGet H a (.ref b) (valV kvs k):=.inr ⟨kvs,k,b,e,rfl,eb,rfl⟩
theorem Same.rd (s:Same H H') (h:Rd H a u):Rd H' a u:=h.imp (s _ _) fun ⟨o,e⟩=>⟨o,s _ _ e⟩
theorem Rep.Et {K:PySem.W.Frag} (s:Same H H'):(∀ {d:D} {v:V},Rep K H d v->Rep K H' d v)/\∀ {ds:List D} {vs:List V},Reps K H ds vs->Reps K H' ds vs :=
 Rep.ind .non .bl .int (fun _ h=>.str h) (fun _ _ _ z h _ ih=>.list z (s.lst h) ih) (fun _ _ _ z h _ ih=>.tup z (s _ _ h) ih) (fun _ _ _ kk h _ ih=>.dK kk (Same.rd s h) ih) (fun _ _ _ kk h _ ih=>.dT kk (Same.rd s h) ih) .nil fun _ _ _ _ _ _ a b=>.cons a b
theorem Rep.same {K:PySem.W.Frag} (s:Same H H') (r:Rep K H d v):Rep K H' d v:=(Rep.Et s).1 r
theorem Reps.same {K:PySem.W.Frag} (s:Same H H') (r:Reps K H ds vs):Reps K H' ds vs:=(Rep.Et s).2 r
theorem Reps.ind {K:PySem.W.Frag} {H:Hp} {m:List D->List V->Prop} (hn:m [] []) (hc:∀ d v ds vs,Rep K H d v->Reps K H ds vs->m ds vs->m (d :: ds) (v :: vs)):∀ {ds vs},Reps K H ds vs->m ds vs :=
 fun r=>(Rep.ind (m1:=fun _ _=>True) (m2:=m) trivial (fun _=>trivial) (fun _=>trivial) (fun _ _=>trivial) (fun _ _ _ _ _ _ _=>trivial) (fun _ _ _ _ _ _ _=>trivial) (fun _ _ _ _ _ _ _=>trivial) (fun _ _ _ _ _ _ _=>trivial) hn fun d v ds vs r s _ b=>hc d v ds vs r s b).2 r
theorem Reps.length {K:PySem.W.Frag} (r:Reps K H ds vs):ds.length=vs.length :=
 Reps.ind (m:=fun ds vs=>ds.length=vs.length) rfl (fun _ _ _ _ _ _ ih=>by rw [xa0,xa0,ih]) r
theorem Reps.append {K:PySem.W.Frag} (r:Reps K H ds vs) (t:Reps K H es ws):Reps K H (ds++es) (vs++ws) :=
 Reps.ind (m:=fun ds vs=>Reps K H (ds++es) (vs++ws)) t (fun _ _ _ _ h _ ih=>.cons h ih) r
theorem Reps.get {K:PySem.W.Frag} {H:Hp} {ds:List D} {vs:List V} {i:Nat} {d:D} (r:Reps K H ds vs) (e:ds[i]? = some d):∃ v,vs[i]? = some v/\Rep K H d v :=
 Reps.ind (m:=fun ds vs=>∀ i d,ds[i]? = some d->∃ v,vs[i]? = some v/\Rep K H d v) (fun i d e=>by simp at e) (fun _ _ _ _ h _ ih i d e=>by
  cases i with
  | zero=>simp at e; subst e; exact ⟨_,rfl,h⟩
  | succ i =>
   obtain ⟨v,e1,r⟩:=ih i d (by simpa using e)
   exact ⟨v,by simpa using e1,r⟩) r i d e
theorem Reps.getV {K:PySem.W.Frag} {H:Hp} {ds:List D} {vs:List V} {i:Nat} {v:V} (r:Reps K H ds vs) (e:vs[i]? = some v):∃ d,ds[i]? = some d/\Rep K H d v :=
 Reps.ind (m:=fun ds vs=>∀ i v,vs[i]? = some v->∃ d,ds[i]? = some d/\Rep K H d v) (fun i d e=>by simp at e) (fun _ _ _ _ h _ ih i d e=>by
  cases i with
  | zero=>simp at e; subst e; exact ⟨_,rfl,h⟩
  | succ i =>
   obtain ⟨v,e1,r⟩:=ih i d (by simpa using e)
   exact ⟨v,by simpa using e1,r⟩) r i v e
theorem Reps.drop {K:PySem.W.Frag} (n:Nat) (r:Reps K H ds vs):Reps K H (ds.drop n) (vs.drop n) :=
 Reps.ind (m:=fun ds vs=>∀ n,Reps K H (ds.drop n) (vs.drop n)) (fun n=>by rw [List.drop_nil,List.drop_nil]; exact .nil) (fun _ _ _ _ h hs ih n=>by
  cases n with
  | zero=>exact .cons h hs
  | succ n=>exact ih n) r n
theorem Reps.n0 {K:PySem.W.Frag} (h:Reps K H [] vs):vs=[]:=by cases h; rfl
theorem Reps.c {K:PySem.W.Frag} (h:Reps K H (d :: ds) vs):∃ u us,vs=u :: us/\Rep K H d u/\Reps K H ds us:=by
 cases h with
 | cons r rs=>exact ⟨_,_,rfl,r,rs⟩
theorem Reps.take {K:PySem.W.Frag} (n:Nat) (r:Reps K H ds vs):Reps K H (ds.take n) (vs.take n) :=
 Reps.ind (m:=fun ds vs=>∀ n,Reps K H (ds.take n) (vs.take n)) (fun n=>by rw [List.take_nil,List.take_nil]; exact .nil) (fun _ _ _ _ h hs ih n=>by
  cases n with
  | zero=>exact .nil
  | succ n=>exact .cons h (ih n)) r n
mutual
/-- what is owned: a tree whose lists and dicts stand at As,nobody else's; its leaves shared (fl: and flat) -/
inductive RepO (K:PySem.W.Frag) (Hs H:Hp) (fl:Bool):D->V->List Addr->Prop
 | sh {d:D} {v:V}:(fl=true->d.flat=true)->Rep K Hs d v->RepO K Hs H fl d v []
 | list {a:Addr} {vs:List V} {ds:List D} {As:List Addr}:vs.length<=sizeLine->H a=some (.lst vs)->aA K Hs H fl ds vs As->RepO K Hs H fl (.list ds) (.ref a) (a :: As)
 | tup {a:Addr} {vs:List V} {ds:List D} {As:List Addr}:vs.length<=sizeLine->Hs a=some (.tup vs)->flats ds=false->aA K Hs H fl ds vs As->RepO K Hs H fl (.tup ds) (.ref a) As
 | dK {a:Addr} {vs:List V} {kvs:List (Key × D)} {As:List Addr}:KsOk kvs->H a=some (.dK ((kvs.map (·.1)).zip vs))->aA K Hs H fl (kvs.map (·.2)) vs As->RepO K Hs H fl (.dK kvs) (.ref a) (a :: As)
 | dT {a:Addr} {vs:List V} {kvs:List (List Key × D)} {As:List Addr}:KtOk kvs->H a=some (.dT ((kvs.map (·.1)).zip vs))->aA K Hs H fl (kvs.map (·.2)) vs As->RepO K Hs H fl (.dT kvs) (.ref a) (a :: As)
inductive aA (K:PySem.W.Frag) (Hs H:Hp) (fl:Bool):List D->List V->List Addr->Prop
 | nil:aA K Hs H fl [] [] []
 | cons {d:D} {v:V} {ds:List D} {vs:List V} {As Bs:List Addr}:RepO K Hs H fl d v As->aA K Hs H fl ds vs Bs->aA K Hs H fl (d :: ds) (v :: vs) (As++Bs)
end
def Own (H:Hp) (a:Addr):Prop:=(∃ vs,H a=some (.lst vs))\/(∃ kvs,H a=some (.dK kvs))\/∃ kvs,H a=some (.dT kvs)
section
variable {K:PySem.W.Frag} {Hs Hs' H H':Hp} {fl:Bool}
theorem Own.ne (h:Own H a):H a≠none:=by
 rcases h with ⟨_,e⟩ | ⟨_,e⟩ | ⟨_,e⟩ <;> rw [e] <;> exact fun z=>nomatch z
theorem Own.zP (h:Own H a):H a≠some (.tup vs):=by
 rcases h with ⟨_,e⟩ | ⟨_,e⟩ | ⟨_,e⟩ <;> rw [e] <;> exact fun z=>nomatch z
theorem RepO.ind {m1:D->V->List Addr->Prop} {m2:List D->List V->List Addr->Prop} (hs:∀ d v,(fl=true->d.flat=true)->Rep K Hs d v->m1 d v [])
  (hl:∀ a vs ds As,vs.length<=sizeLine->H a=some (.lst vs)->aA K Hs H fl ds vs As->m2 ds vs As->m1 (.list ds) (.ref a) (a :: As)) (ht:∀ a vs ds As,vs.length<=sizeLine->Hs a=some (.tup vs)->flats ds=false->aA K Hs H fl ds vs As->m2 ds vs As->m1 (.tup ds) (.ref a) As)
  (hk:∀ a vs kvs As,KsOk kvs->H a=some (.dK ((kvs.map (·.1)).zip vs))->aA K Hs H fl (kvs.map (·.2)) vs As->m2 (kvs.map (·.2)) vs As->m1 (.dK kvs) (.ref a) (a :: As)) (hT:∀ a vs kvs As,KtOk kvs->H a=some (.dT ((kvs.map (·.1)).zip vs))->aA K Hs H fl (kvs.map (·.2)) vs As->m2 (kvs.map (·.2)) vs As->m1 (.dT kvs) (.ref a) (a :: As))
  (hn:m2 [] [] []) (hc:∀ d v ds vs As Bs,RepO K Hs H fl d v As->aA K Hs H fl ds vs Bs->m1 d v As->m2 ds vs Bs->m2 (d :: ds) (v :: vs) (As++Bs)):(∀ {d v As},RepO K Hs H fl d v As->m1 d v As)/\∀ {ds vs As},aA K Hs H fl ds vs As->m2 ds vs As :=
 ⟨fun r=>RepO.rec (motive_1:=fun d v As _=>m1 d v As) (motive_2:=fun ds vs As _=>m2 ds vs As) (fun f r=>hs _ _ f r) (fun z s r ih=>hl _ _ _ _ z s r ih) (fun z s n r ih=>ht _ _ _ _ z s n r ih) (fun z s r ih=>hk _ _ _ _ z s r ih) (fun z s r ih=>hT _ _ _ _ z s r ih) hn (fun r s a b=>hc _ _ _ _ _ _ r s a b) r,
  fun r=>aA.rec (motive_1:=fun d v As _=>m1 d v As) (motive_2:=fun ds vs As _=>m2 ds vs As) (fun f r=>hs _ _ f r) (fun z s r ih=>hl _ _ _ _ z s r ih) (fun z s n r ih=>ht _ _ _ _ z s n r ih) (fun z s r ih=>hk _ _ _ _ z s r ih) (fun z s r ih=>hT _ _ _ _ z s r ih) hn (fun r s a b=>hc _ _ _ _ _ _ r s a b) r⟩
theorem mem0 {a:Addr} {p:Prop} (h:a∈([]:List Addr)):p:=absurd h xby
theorem RepO.own2:(∀ {d:D} {v:V} {As:List Addr},RepO K Hs H fl d v As->∀ a∈As,Own H a)/\∀ {ds:List D} {vs:List V} {As:List Addr},aA K Hs H fl ds vs As->∀ a∈As,Own H a :=
 RepO.ind (m1:=fun _ _ As=>∀ a∈As,Own H a) (m2:=fun _ _ As=>∀ a∈As,Own H a) (fun _ _ _ _ a h=>mem0 h) (fun _ _ _ _ _ e _ ih a h=>(xaj.mp h).elim (fun z=>z ▸ .inl ⟨_,e⟩) (ih a)) (fun _ _ _ _ _ _ _ _ ih=>ih)
  (fun _ _ _ _ _ e _ ih a h=>(xaj.mp h).elim (fun z=>z ▸ .inr (.inl ⟨_,e⟩)) (ih a)) (fun _ _ _ _ _ e _ ih a h=>(xaj.mp h).elim (fun z=>z ▸ .inr (.inr ⟨_,e⟩)) (ih a)) (fun a h=>mem0 h) fun _ _ _ _ _ _ _ _ i1 i2 a h=>(xak.mp h).elim (i1 a) (i2 a)
theorem RepO.own (r:RepO K Hs H fl d v As):∀ a∈As,Own H a:=RepO.own2.1 r
theorem aA.own (r:aA K Hs H fl ds vs As):∀ a∈As,Own H a:=RepO.own2.2 r
theorem RepO.Df (s:Same Hs Hs'):(∀ {d:D} {v:V} {As:List Addr},RepO K Hs H fl d v As->(∀ a∈As,H' a=H a)->RepO K Hs' H' fl d v As)/\∀ {ds:List D} {vs:List V} {As:List Addr},aA K Hs H fl ds vs As->(∀ a∈As,H' a=H a)->aA K Hs' H' fl ds vs As :=
 RepO.ind (m1:=fun d v As=>(∀ a∈As,H' a=H a)->RepO K Hs' H' fl d v As) (m2:=fun ds vs As=>(∀ a∈As,H' a=H a)->aA K Hs' H' fl ds vs As) (fun _ _ f r _=>.sh f (r.same s))
  (fun _ _ _ _ z e _ ih k=>.list z ((k _ xah).trans e) (ih fun a h=>k a (xaf _ h))) (fun _ _ _ _ z e n _ ih k=>.tup z (s _ _ e) n (ih k)) (fun _ _ _ _ z e _ ih k=>.dK z ((k _ xah).trans e) (ih fun a h=>k a (xaf _ h)))
  (fun _ _ _ _ z e _ ih k=>.dT z ((k _ xah).trans e) (ih fun a h=>k a (xaf _ h))) (fun _=>.nil) fun _ _ _ _ _ _ _ _ i1 i2 k=>.cons (i1 fun a h=>k a (xav _ h)) (i2 fun a h=>k a (xag _ h))
theorem RepO.stay (s:Same Hs Hs') (r:RepO K Hs H fl d v As) (k:∀ a∈As,H' a=H a):RepO K Hs' H' fl d v As:=(RepO.Df s).1 r k
theorem aA.stay (s:Same Hs Hs') (r:aA K Hs H fl ds vs As) (k:∀ a∈As,H' a=H a):aA K Hs' H' fl ds vs As:=(RepO.Df s).2 r k
theorem RepO.grow (s:Same Hs Hs') (t:Same H H') (r:RepO K Hs H fl d v As):RepO K Hs' H' fl d v As :=
 r.stay s fun a h=>by
  cases e:H a with
  | none=>exact absurd e (r.own a h).ne
  | some o=>exact t a o e
theorem aA.grow (s:Same Hs Hs') (t:Same H H') (r:aA K Hs H fl ds vs As):aA K Hs' H' fl ds vs As :=
 r.stay s fun a h=>by
  cases e:H a with
  | none=>exact absurd e (r.own a h).ne
  | some o=>exact t a o e
theorem RepO.rep2 {G:Hp} (s:Same Hs G):(∀ {d:D} {v:V} {As:List Addr},RepO K Hs H fl d v As->(∀ a∈As,G a=H a)->Rep K G d v)/\∀ {ds:List D} {vs:List V} {As:List Addr},aA K Hs H fl ds vs As->(∀ a∈As,G a=H a)->Reps K G ds vs :=
 RepO.ind (m1:=fun d v As=>(∀ a∈As,G a=H a)->Rep K G d v) (m2:=fun ds vs As=>(∀ a∈As,G a=H a)->Reps K G ds vs) (fun _ _ _ r _=>r.same s)
  (fun _ _ _ _ z e _ ih k=>.list z (.inl (.inl ((k _ xah).trans e))) (ih fun a h=>k a (xaf _ h))) (fun _ _ _ _ z e n _ ih k=>.tup z (s _ _ e) (ih k)) (fun _ _ _ _ z e _ ih k=>.dK z (.inl ((k _ xah).trans e)) (ih fun a h=>k a (xaf _ h)))
  (fun _ _ _ _ z e _ ih k=>.dT z (.inl ((k _ xah).trans e)) (ih fun a h=>k a (xaf _ h))) (fun _=>.nil) fun _ _ _ _ _ _ _ _ i1 i2 k=>.cons (i1 fun a h=>k a (xav _ h)) (i2 fun a h=>k a (xag _ h))
theorem RepO.rep (s:Same Hs G) (r:RepO K Hs H fl d v As) (k:∀ a∈As,G a=H a):Rep K G d v:=(RepO.rep2 s).1 r k
theorem aA.reps (s:Same Hs G) (r:aA K Hs H fl ds vs As) (k:∀ a∈As,G a=H a):Reps K G ds vs:=(RepO.rep2 s).2 r k
theorem Rep.wL (t:∀ a vs,H a=some (.tup vs)->G a=some (.tup vs)):(∀ {d:D} {v:V},Rep K H d v->d.flat=true->Rep K G d v)/\∀ {ds:List D} {vs:List V},Reps K H ds vs->flats ds=true->Reps K G ds vs :=
 Rep.ind (m1:=fun d v=>d.flat=true->Rep K G d v) (m2:=fun ds vs=>flats ds=true->Reps K G ds vs) (fun _=>.non) (fun b _=>.bl b) (fun i _=>.int i) (fun _ h _=>.str h) (fun _ _ _ _ _ _ _ f=>by simp [D.flat] at f) (fun _ _ _ z e _ ih f=>.tup z (t _ _ e) (ih (by simpa [D.flat] using f)))
  (fun _ _ _ _ _ _ _ f=>by simp [D.flat] at f) (fun _ _ _ _ _ _ _ f=>by simp [D.flat] at f) (fun _=>.nil) fun _ _ _ _ _ _ i1 i2 f=>by
   simp only [flats,xaC] at f
   exact .cons (i1 f.1) (i2 f.2)
theorem Rep.jk (t:∀ a vs,H a=some (.tup vs)->G a=some (.tup vs)) (r:Rep K H d v) (f:d.flat=true):Rep K G d v:=(Rep.wL t).1 r f
theorem Reps.jk (t:∀ a vs,H a=some (.tup vs)->G a=some (.tup vs)) (r:Reps K H ds vs) (f:flats ds=true):Reps K G ds vs:=(Rep.wL t).2 r f
theorem Reps.owned (r:Reps K Hs ds vs) (f:flats ds=true):aA K Hs H fl ds vs [] :=
 Reps.ind (m:=fun ds vs=>flats ds=true->aA K Hs H fl ds vs []) (fun _=>.nil) (fun _ _ _ _ h _ ih f=>by
  simp only [flats,xaC] at f
  exact .cons (As:=[]) (.sh (fun _=>f.1) h) (ih f.2)) r f
theorem Reps.Fy (r:Reps K Hs ds vs):aA K Hs H false ds vs [] :=
 Reps.ind (m:=fun ds vs=>aA K Hs H false ds vs []) .nil (fun _ _ _ _ h _ ih=>.cons (As:=[]) (.sh (fun z=>Bool.noConfusion z) h) ih) r
theorem RepO.fls2:(∀ {d:D} {v:V} {As:List Addr},RepO K Hs H fl d v As->RepO K Hs H false d v As)/\∀ {ds:List D} {vs:List V} {As:List Addr},aA K Hs H fl ds vs As->aA K Hs H false ds vs As :=
 RepO.ind (fun _ _ _ r=>.sh (fun z=>Bool.noConfusion z) r) (fun _ _ _ _ z e _ ih=>.list z e ih) (fun _ _ _ _ z e n _ ih=>.tup z e n ih) (fun _ _ _ _ z e _ ih=>.dK z e ih) (fun _ _ _ _ z e _ ih=>.dT z e ih) .nil fun _ _ _ _ _ _ _ _ a b=>.cons a b
theorem RepO.fls (r:RepO K Hs H fl d v As):RepO K Hs H false d v As:=RepO.fls2.1 r
theorem aA.fls (r:aA K Hs H fl ds vs As):aA K Hs H false ds vs As:=RepO.fls2.2 r
theorem RepO.Av (t:∀ a vs,Hs a=some (.tup vs)->G a=some (.tup vs)):(∀ {d:D} {v:V} {As:List Addr},RepO K Hs H true d v As->RepO K G H true d v As)/\∀ {ds:List D} {vs:List V} {As:List Addr},aA K Hs H true ds vs As->aA K G H true ds vs As :=
 RepO.ind (fun _ _ f r=>.sh f (r.jk t (f rfl))) (fun _ _ _ _ z e _ ih=>.list z e ih) (fun _ _ _ _ z e n _ ih=>.tup z (t _ _ e) n ih) (fun _ _ _ _ z e _ ih=>.dK z e ih) (fun _ _ _ _ z e _ ih=>.dT z e ih) .nil fun _ _ _ _ _ _ _ _ a b=>.cons a b
theorem RepO.leaves (t:∀ a vs,Hs a=some (.tup vs)->G a=some (.tup vs)) (r:RepO K Hs H true d v As):RepO K G H true d v As:=(RepO.Av t).1 r
theorem aA.ind {m:List D->List V->List Addr->Prop} (hn:m [] [] []) (hc:∀ d v ds vs As Bs,RepO K Hs H fl d v As->aA K Hs H fl ds vs Bs->m ds vs Bs->m (d :: ds) (v :: vs) (As++Bs)):∀ {ds vs As},aA K Hs H fl ds vs As->m ds vs As :=
 fun r=>(RepO.ind (m1:=fun _ _ _=>True) (m2:=m) (fun _ _ _ _=>trivial) (fun _ _ _ _ _ _ _ _=>trivial) (fun _ _ _ _ _ _ _ _ _=>trivial) (fun _ _ _ _ _ _ _ _=>trivial) (fun _ _ _ _ _ _ _ _=>trivial) hn fun d v ds vs As Bs r s _ b=>hc d v ds vs As Bs r s b).2 r
theorem aA.append (r:aA K Hs H fl ds vs As) (t:aA K Hs H fl es ws Bs):aA K Hs H fl (ds++es) (vs++ws) (As++Bs) :=
 aA.ind (m:=fun ds vs As=>aA K Hs H fl (ds++es) (vs++ws) (As++Bs)) t (fun _ _ _ _ _ _ h _ ih=>by
  rw [xa6]
  exact .cons h ih) r
theorem aA.n0 (h:aA K Hs H fl [] vs As):vs=[]/\As=[]:=by cases h; exact ⟨rfl,rfl⟩
theorem aA.c (h:aA K Hs H fl (d :: ds) vs As):∃ u us A B,vs=u :: us/\As=A++B/\RepO K Hs H fl d u A/\aA K Hs H fl ds us B:=by
 cases h with
 | cons r rs=>exact ⟨_,_,_,_,rfl,rfl,r,rs⟩
theorem aA.length (r:aA K Hs H fl ds vs As):ds.length=vs.length :=
 aA.ind (m:=fun ds vs _=>ds.length=vs.length) rfl (fun _ _ _ _ _ _ _ _ ih=>by rw [xa0,xa0,ih]) r
end
inductive Sl where
 /-- shared; owned; owned and walked by a loop just now (at a) -/
 | sh (d:D) | ow (fl:Bool) (d:D) | lk (a:Addr) (fl:Bool) (d:D)
 /-- an exception,at a -/
 | xc (a:Addr)
abbrev Env:=List (Option Sl)
inductive SR (K:PySem.W.Frag) (Hs H:Hp):Env->St->List Addr->Prop
 | nil:SR K Hs H [] [] []
 | non {ρ:Env} {σ:St} {tot:List Addr} {o:Option V}:SR K Hs H ρ σ tot->SR K Hs H (none :: ρ) (o :: σ) tot
 | sh {ρ:Env} {σ:St} {tot:List Addr} {d:D} {v:V}:Rep K Hs d v->SR K Hs H ρ σ tot->SR K Hs H (some (.sh d) :: ρ) (some v :: σ) tot
 | xc {ρ:Env} {σ:St} {tot:List Addr} {a:Addr}:SR K Hs H ρ σ tot->SR K Hs H (some (.xc a) :: ρ) (some (.ref a) :: σ) tot
 | ow {ρ:Env} {σ:St} {tot As:List Addr} {fl:Bool} {d:D} {v:V}:As≠[]->RepO K Hs H fl d v As->SR K Hs H ρ σ tot->SR K Hs H (some (.ow fl d) :: ρ) (some v :: σ) (As++tot)
 | lk {ρ:Env} {σ:St} {tot As:List Addr} {a:Addr} {fl:Bool} {d:D}:As≠[]->RepO K Hs H fl d (.ref a) As->SR K Hs H ρ σ tot->SR K Hs H (some (.lk a fl d) :: ρ) (some (.ref a) :: σ) (As++tot)
structure Wf (Hs H:Hp):Prop where
 sub:Same Hs H
 tups:∀ a vs,H a=some (.tup vs)->Hs a=some (.tup vs)
structure SRel (K:PySem.W.Frag) (Hs:Hp) (ρ:Env) (σ:St) (H:Hp) (tot:List Addr):Prop where
 sr:SR K Hs H ρ σ tot
 wf:Wf Hs H
 nod:tot.Nodup
 own:∀ a∈tot,Hs a=none
structure Grow (Hs H Hs' H':Hp):Prop where
 all:Same H H'
 sh:Same Hs Hs'
 wf:Wf Hs' H'
 new:∀ a,Hs' a≠none->Hs a≠none\/H a=none
section
variable {K:PySem.W.Frag} {Hs H Hs' H' Hs'' H'':Hp}
theorem Grow.refl (w:Wf Hs H):Grow Hs H Hs H:=⟨Same.refl _,Same.refl _,w,fun _ h=>.inl h⟩
theorem Grow.trans (a:Grow Hs H Hs' H') (b:Grow Hs' H' Hs'' H''):Grow Hs H Hs'' H'' :=
 ⟨a.all.trans b.all,a.sh.trans b.sh,b.wf,fun c h=>by
  rcases b.new c h with h | h
  ·exact a.new c h
  ·exact .inr (a.all.free h)⟩
theorem Grow.hsn (g:Grow Hs H Hs' H') (h:Hs a=none) (h':H a≠none):Hs' a=none:=by
 cases e:Hs' a with
 | none=>rfl
 | some o =>
  rcases g.new a (by rw [e]; exact fun z=>nomatch z) with z | z
  ·exact absurd h z
  ·exact absurd z h'
theorem SR.own {ρ:Env} {σ:St} {tot:List Addr} (s:SR K Hs H ρ σ tot):∀ a∈tot,Own H a:=by
 induction s with
 | nil=>exact fun a h=>mem0 h
 | non _ ih=>exact ih
 | sh _ _ ih=>exact ih
 | xc _ ih=>exact ih
 | ow _ r _ ih=>exact fun a h=>(xak.mp h).elim (r.own a) (ih a)
 | lk _ r _ ih=>exact fun a h=>(xak.mp h).elim (r.own a) (ih a)
theorem SR.stay (s:Same Hs Hs') (r:SR K Hs H ρ σ tot):(∀ a∈tot,H' a=H a)->SR K Hs' H' ρ σ tot:=by
 induction r with
 | nil=>exact fun _=>.nil
 | non _ ih=>exact fun k=>.non (ih k)
 | sh h _ ih=>exact fun k=>.sh (h.same s) (ih k)
 | xc _ ih=>exact fun k=>.xc (ih k)
 | ow ne h _ ih=>exact fun k=>.ow ne (h.stay s fun a m=>k a (xav _ m)) (ih fun a m=>k a (xag _ m))
 | lk ne h _ ih=>exact fun k=>.lk ne (h.stay s fun a m=>k a (xav _ m)) (ih fun a m=>k a (xag _ m))
theorem SRel.grow (r:SRel K Hs ρ σ H tot) (g:Grow Hs H Hs' H'):SRel K Hs' ρ σ H' tot :=
 ⟨r.sr.stay g.sh fun a h=>by
  cases e:H a with
  | none=>exact absurd e (r.sr.own a h).ne
  | some o=>exact g.all a o e,g.wf,r.nod,fun a h=>g.hsn (r.own a h) (r.sr.own a h).ne⟩
theorem SR.length (s:SR K Hs H ρ σ tot):ρ.length=σ.length:=by
 induction s with
 | nil=>rfl
 | non _ ih=>exact congrArg (· + 1) ih
 | sh _ _ ih=>exact congrArg (· + 1) ih
 | xc _ ih=>exact congrArg (· + 1) ih
 | ow _ _ _ ih=>exact congrArg (· + 1) ih
 | lk _ _ _ ih=>exact congrArg (· + 1) ih
def yV (K:PySem.W.Frag) (Hs H:Hp) (tot:List Addr) (sl:Sl) (v:V):Prop:=match sl with
 | .sh d=>Rep K Hs d v
 | .ow fl d=>∃ As,As≠[]/\RepO K Hs H fl d v As/\∀ a∈As,a∈tot
 | .lk a fl d=>∃ As,As≠[]/\RepO K Hs H fl d v As/\v=.ref a/\∀ a∈As,a∈tot
 | .xc a=>v=.ref a
theorem yV.mono (h:yV K Hs H tot sl v) (m:∀ a∈tot,a∈tot'):yV K Hs H tot' sl v:=by
 cases sl with
 | sh d=>exact h
 | xc a=>exact h
 | ow fl d =>
  obtain ⟨As,ne,r,q⟩:=h
  exact ⟨As,ne,r,fun a ha=>m a (q a ha)⟩
 | lk a fl d =>
  obtain ⟨As,ne,r,e,q⟩:=h
  exact ⟨As,ne,r,e,fun a ha=>m a (q a ha)⟩
theorem SR.get {ρ:Env} {σ:St} {tot:List Addr} {i:Nat} {sl:Sl} (s:SR K Hs H ρ σ tot) (e:ρ[i]? = some (some sl)):∃ v,σ[i]? = some (some v)/\yV K Hs H tot sl v:=by
 induction s generalizing i with
 | nil=>simp at e
 | non s ih =>
  cases i with
  | zero=>simp at e
  | succ i=>exact ih e
 | sh r s ih =>
  cases i with
  | zero=>simp at e; subst e; exact ⟨_,rfl,r⟩
  | succ i=>exact ih e
 | xc s ih =>
  cases i with
  | zero=>simp at e; subst e; exact ⟨_,rfl,rfl⟩
  | succ i=>exact ih e
 | ow ne r s ih =>
  cases i with
  | zero=>simp at e; subst e; exact ⟨_,rfl,_,ne,r,fun a m=>xav _ m⟩
  | succ i =>
   obtain ⟨v,e1,h⟩:=ih e
   exact ⟨v,e1,h.mono fun a m=>xag _ m⟩
 | lk ne r s ih =>
  cases i with
  | zero=>simp at e; subst e; exact ⟨_,rfl,_,ne,r,rfl,fun a m=>xav _ m⟩
  | succ i =>
   obtain ⟨v,e1,h⟩:=ih e
   exact ⟨v,e1,h.mono fun a m=>xag _ m⟩
end
inductive Md where
 | sh | ow (fl:Bool) | bo
def RM (K:PySem.W.Frag) (Hs H:Hp):Md->D->V->List Addr->Prop
 | .sh,d,v,As=>As=[]/\Rep K Hs d v
 | .ow fl,d,v,As=>RepO K Hs H fl d v As/\As≠[]
 | .bo,d,v,As=>As=[]/\Rep K H d v
inductive RMs (K:PySem.W.Frag) (Hs H:Hp):List (Md × D)->List V->List Addr->Prop
 | nil:RMs K Hs H [] [] []
 | cons {m:Md} {d:D} {v:V} {ps:List (Md × D)} {vs:List V} {As Bs:List Addr}:RM K Hs H m d v As->RMs K Hs H ps vs Bs->RMs K Hs H ((m,d) :: ps) (v :: vs) (As++Bs)
section
variable {K:PySem.W.Frag} {Hs H Hs' H':Hp}
theorem RM.own {m:Md} {d:D} {v:V} {As:List Addr} (r:RM K Hs H m d v As):∀ a∈As,Own H a:=by
 cases m with
 | sh=>obtain ⟨rfl,_⟩:=r; exact fun a h=>mem0 h
 | ow fl=>exact RepO.own r.1
 | bo=>obtain ⟨rfl,_⟩:=r; exact fun a h=>mem0 h
theorem RM.grow (r:RM K Hs H m d v As) (g:Grow Hs H Hs' H'):RM K Hs' H' m d v As:=by
 cases m with
 | sh=>exact ⟨r.1,r.2.same g.sh⟩
 | ow fl=>exact ⟨RepO.grow g.sh g.all r.1,r.2⟩
 | bo=>exact ⟨r.1,r.2.same g.all⟩
theorem RM.rep (w:Wf Hs H) (r:RM K Hs H m d v As):Rep K H d v:=by
 cases m with
 | sh=>exact r.2.same w.sub
 | ow fl=>exact RepO.rep w.sub r.1 fun _ _=>rfl
 | bo=>exact r.2
theorem RM.flat (w:Wf Hs H) (r:RM K Hs H m d v As) (f:d.flat=true):Rep K Hs d v:=(r.rep w).jk w.tups f
theorem RMs.own {ps:List (Md × D)} {vs:List V} {As:List Addr} (r:RMs K Hs H ps vs As):∀ a∈As,Own H a:=by
 induction r with
 | nil=>exact fun a h=>mem0 h
 | cons r _ ih=>exact fun a h=>(xak.mp h).elim (r.own a) (ih a)
theorem RMs.grow (g:Grow Hs H Hs' H') {ps:List (Md × D)} (r:RMs K Hs H ps vs As):RMs K Hs' H' ps vs As:=by
 induction r with
 | nil=>exact .nil
 | cons r _ ih=>exact .cons (r.grow g) ih
theorem RMs.reps (w:Wf Hs H) {ps:List (Md × D)} (r:RMs K Hs H ps vs As):Reps K H (ps.map (·.2)) vs:=by
 induction r with
 | nil=>exact .nil
 | cons r _ ih=>exact .cons (r.rep w) ih
end
abbrev WE:=Env->(Md->D->Prop)->Prop
abbrev WT:=Env->(Bool->Prop)->Prop
abbrev WA:=Env->(List (Md × D)->Prop)->Prop
structure rD where
 nx:Env->Prop
 rt:Md->D->Prop
 bk:Env->Prop:=fun _=>False
 ct:Env->Prop:=fun _=>False
abbrev WS:=rD->Env->Prop
def cV (Hs' H:Hp) (As:List Addr):Prop:=As.Nodup/\∀ a∈As,Hs' a=none/\H a=none
def tpE (K:PySem.W.Frag) (t:WE):TE:=fun σ H Qv=>∃ Hs ρ tot Q,SRel K Hs ρ σ H tot/\t ρ Q /\
 ∀ v H' Hs' m d As,Grow Hs H Hs' H'->RM K Hs' H' m d v As->cV Hs' H As->Q m d->Qv v H'
def tpT (K:PySem.W.Frag) (t:WT):TT:=fun σ H Qv=>∃ Hs ρ tot Q,SRel K Hs ρ σ H tot/\t ρ Q/\∀ b H' Hs',Grow Hs H Hs' H'->Q b->Qv b H'
def tpA (K:PySem.W.Frag) (t:WA):TA:=fun σ H Qv=>∃ Hs ρ tot Q,SRel K Hs ρ σ H tot/\t ρ Q /\
 ∀ vs H' Hs' ps As,Grow Hs H Hs' H'->RMs K Hs' H' ps vs As->cV Hs' H As->Q ps->Qv vs H'
def tpS (K:PySem.W.Frag) (L:Str->Hp->Prop) (t:WS):TS:=fun D σ H=>∃ Hs ρ tot E,SRel K Hs ρ σ H tot/\t E ρ /\
 (∀ σ' H' Hs' ρ' tot',Same Hs Hs'->SRel K Hs' ρ' σ' H' tot'->E.nx ρ'->D.nx σ' H') /\
 (∀ σ' H' Hs' ρ' tot',Same Hs Hs'->SRel K Hs' ρ' σ' H' tot'->E.bk ρ'->D.bk σ' H') /\
 (∀ σ' H' Hs' ρ' tot',Same Hs Hs'->SRel K Hs' ρ' σ' H' tot'->E.ct ρ'->D.ct σ' H') /\
 (∀ v H' Hs' m d As,Same Hs Hs'->Wf Hs' H'->RM K Hs' H' m d v As->As.Nodup->(∀ a∈As,Hs' a=none)->E.rt m d->D.rt v H') /\
 ∀ n H',Same Hs H'->E.rt (.ow false) (.str n)->L n H'
theorem jP {K:PySem.W.Frag} {L:Str->Hp->Prop} {t:WS} {D:Ends} {σ:St} {H:Hp} {G:Prop} (x:tpS K L t D σ H) (k:∀ Hs ρ tot E,SRel K Hs ρ σ H tot->t E ρ ->
 (∀ σ' H' Hs' ρ' tot',Same Hs Hs'->SRel K Hs' ρ' σ' H' tot'->E.nx ρ'->D.nx σ' H') ->
 (∀ σ' H' Hs' ρ' tot',Same Hs Hs'->SRel K Hs' ρ' σ' H' tot'->E.bk ρ'->D.bk σ' H') ->
 (∀ σ' H' Hs' ρ' tot',Same Hs Hs'->SRel K Hs' ρ' σ' H' tot'->E.ct ρ'->D.ct σ' H') ->
 (∀ v H' Hs' m d As,Same Hs Hs'->Wf Hs' H'->RM K Hs' H' m d v As->As.Nodup->(∀ a∈As,Hs' a=none)->E.rt m d->D.rt v H') ->
 (∀ n H',Same Hs H'->E.rt (.ow false) (.str n)->L n H')->G):G :=
 by
 obtain ⟨Hs,ρ,tot,E,sr,h,k1,k2,k3,k4,kx⟩:=x
 exact k Hs ρ tot E sr h k1 k2 k3 k4 kx
theorem iI {K:PySem.W.Frag} {L:Str->Hp->Prop} {t:WS} {D:Ends} {σ:St} {H:Hp} {G:Prop} (x:tpS K L t D σ H) (k:∀ Hs ρ tot E,SRel K Hs ρ σ H tot->t E ρ ->
 (∀ σ' H' Hs' ρ' tot',Same Hs Hs'->SRel K Hs' ρ' σ' H' tot'->E.nx ρ'->D.nx σ' H') ->
 (∀ σ' H' Hs' ρ' tot',Same Hs Hs'->SRel K Hs' ρ' σ' H' tot'->E.bk ρ'->D.bk σ' H') ->
 (∀ σ' H' Hs' ρ' tot',Same Hs Hs'->SRel K Hs' ρ' σ' H' tot'->E.ct ρ'->D.ct σ' H') ->
 (∀ v H' Hs' m d As,Same Hs Hs'->Wf Hs' H'->RM K Hs' H' m d v As->As.Nodup->(∀ a∈As,Hs' a=none)->E.rt m d->D.rt v H')->G):G :=
 jP x fun Hs ρ tot E sr h k1 k2 k3 k4 _=>k Hs ρ tot E sr h k1 k2 k3 k4
theorem ex4 {α β γ δ:Type _} {A B C:α->β->γ->δ->Prop} {G:Prop} (x:∃ a b c d,A a b c d/\B a b c d/\C a b c d) (k:∀ a b c d,A a b c d->B a b c d->C a b c d->G):G :=
 by
 obtain ⟨a,b,c,d,p,q,r⟩:=x
 exact k a b c d p q r
abbrev QE (X:Cx) (K:PySem.W.Frag) (e:Expr) (t:WE):Prop:=PE X e (tpE K t)
abbrev QT (X:Cx) (K:PySem.W.Frag) (e:Expr) (t:WT):Prop:=PT X e (tpT K t)
abbrev QW (X:Cx) (K:PySem.W.Frag) (e:Expr) (t:WT):Prop:=PW X e (tpT K t)
abbrev QA (X:Cx) (K:PySem.W.Frag) (es:List Expr) (t:WA):Prop:=PA X es (tpA K t)
abbrev QS (X:Cx) (K:PySem.W.Frag) (L:Str->Hp->Prop) (st:Stmt) (t:WS):Prop:=PS X st (tpS K L t)
abbrev QSs (X:Cx) (K:PySem.W.Frag) (L:Str->Hp->Prop) (st:List Stmt) (t:WS):Prop:=PSs X st (tpS K L t)
abbrev L0:Str->Hp->Prop:=fun _ _=>True
end L2.Q
namespace L2.Q
open PySem PySem.Spec PyProof.Rows
structure Kt {α:Type} (f:α->Prop):Type where
def onK {α:Type} (a:α) {f:α->Prop} (_:Kt f):Prop:=f a
mutual
def D.py:D->PyData
 | .non=>.none
 | .bl b=>.bool b
 | .int i=>.int i
 | .str x=>.str x
 | .list xs=>.list (pys xs)
 | .tup xs=>.tuple (pys xs)
 | .dK _=>.none
 | .dT _=>.none
def pys:List D->List PyData
 | []=>[]
 | x :: xs=>x.py :: pys xs
end
def okD:Nat->D->Bool
 | _,.non=>true
 | _,.bl _=>true
 | _,.int _=>true
 | _,.str x=>PyData.strOk x
 | n+1,.list xs=>xs.all (okD n)
 | n+1,.tup xs=>xs.all (okD n)
 | _,_=>false
def eqD (x y:D):Bool:=PyData.eqv x.py y.py
def D.ty:D->String
 | .non => "NoneType"
 | .bl _ => "bool"
 | .int _ => "int"
 | .str _ => "str"
 | .list _ => "list"
 | .tup _ => "tuple"
 | .dK _ => "dict"
 | .dT _ => "dict"
def D.key1:D->Option Key
 | .int i=>some (.inl i)
 | .str x=>some (.inr x)
 | _=>none
def mF:List D->Option (List Key)
 | []=>some []
 | x :: xs=>match x.key1,mF xs with
  | some k,some ks=>some (k :: ks)
  | _,_=>none
section
variable {κ:Type} [DecidableEq κ] {β:Type}
def getG (kvs:List (κ × β)) (k:κ):Option β:=(kvs.find? fun kv=>decide (kv.1=k)).map (·.2)
def putG (kvs:List (κ × β)) (k:κ) (v:β):List (κ × β) :=
 if (kvs.any fun kv=>decide (kv.1=k))=true then kvs.map (fun kv=>if kv.1=k then (kv.1,v) else kv) else kvs++[(k,v)]
end
theorem Rep.l22 {K:PySem.W.Frag}:(∀ {d:D} {v:V},Rep K H d v->∀ n,okD n d=true->L2.Rep K H d.py v)/\∀ {ds:List D} {vs:List V},Reps K H ds vs->∀ n,(∀ d∈ds,okD n d=true)->L2.Reps K H (pys ds) vs :=
 Rep.ind (m1:=fun d v=>∀ n,okD n d=true->L2.Rep K H d.py v) (m2:=fun ds vs=>∀ n,(∀ d∈ds,okD n d=true)->L2.Reps K H (pys ds) vs) (fun _ _=>.none) (fun b _ _=>.bool b) (fun i _ _=>.int i) (fun _ _ _ _=>.str _)
  (fun _ _ _ _ h _ ih n o=>by
   cases n with
   | zero=>simp [okD] at o
   | succ n=>exact .list h (ih n (by simpa [okD] using o)))
  (fun _ _ _ _ h _ ih n o=>by
   cases n with
   | zero=>simp [okD] at o
   | succ n=>exact .tuple (.inl (.inl h)) (ih n (by simpa [okD] using o)))
  (fun _ _ _ _ _ _ _ n o=>by cases n <;> simp [okD] at o) (fun _ _ _ _ _ _ _ n o=>by cases n <;> simp [okD] at o) (fun _ _=>.nil)
  fun _ _ _ _ _ _ i1 i2 n o=>.cons (i1 n (o _ xah)) (i2 n fun d m=>o d (xaf _ m))
theorem Rep.l2 {K:PySem.W.Frag} (r:Rep K H d v) (o:okD n d=true):L2.Rep K H d.py v:=Rep.l22.1 r n o
theorem ym (ih:∀ d,okD n d=true->d.py.canLay0=true/\d.py.depth<=n) (xs:List D) (h:∀ x∈xs,okD n x=true):PyData.canLayAll0 (pys xs)=true/\PyData.depthAll (pys xs)<=n:=by
 induction xs with
 | nil=>exact ⟨rfl,xaq _⟩
 | cons x xs ih2 =>
  have h1:=ih x (h x xah)
  have h2:=ih2 fun y hy=>h y (xaf _ hy)
  simp only [pys,PyData.canLayAll0,PyData.depthAll,h1.1,h2.1,Bool.and_self,true_and]
  lia
theorem uB (n:Nat):∀ (d:D),okD n d=true->d.py.canLay0=true/\d.py.depth<=n:=by
 have st:∀ (n:Nat) (x:Str),okD n (.str x)=true->(D.str x).py.canLay0=true/\(D.str x).py.depth<=n:=fun n x h=>by
  have h:PyData.strOk x=true:=by cases n <;> simpa [okD] using h
  exact ⟨by simpa [D.py,PyData.canLay0] using h,xaq _⟩
 induction n with
 | zero =>
  intro d h
  cases d with
  | str x=>exact st _ x h
  | non=>exact ⟨rfl,xaq _⟩
  | bl _=>exact ⟨rfl,xaq _⟩
  | int _=>exact ⟨rfl,xaq _⟩
  | _=>simp [okD] at h
 | succ n ih =>
  intro d h
  cases d with
  | str x=>exact st _ x h
  | non=>exact ⟨rfl,xaq _⟩
  | bl _=>exact ⟨rfl,xaq _⟩
  | int _=>exact ⟨rfl,xaq _⟩
  | list xs =>
   have h:∀ x∈xs,okD n x=true:=by simpa [okD] using h
   have:=ym ih xs h
   simp only [D.py,PyData.canLay0,PyData.depth]
   exact ⟨this.1,by lia⟩
  | tup xs =>
   have h:∀ x∈xs,okD n x=true:=by simpa [okD] using h
   have:=ym ih xs h
   simp only [D.py,PyData.canLay0,PyData.depth]
   exact ⟨this.1,by lia⟩
  | dK _=>simp [okD] at h
  | dT _=>simp [okD] at h
mutual
def D.nb:D->Bool
 | .bl _=>false
 | .list xs=>nbs xs
 | .tup xs=>nbs xs
 | .dK _=>false
 | .dT _=>false
 | _=>true
def nbs:List D->Bool
 | []=>true
 | x :: xs=>x.nb && nbs xs
end
mutual
theorem pN:∀ (x y:D),x.nb=true->y.nb=true->(eqD x y=true↔x=y)
 | .non,y,_,hy=>by cases y <;> simp_all [eqD,D.py,PyData.eqv,D.nb]
 | .bl _,y,hx,_=>by simp [D.nb] at hx
 | .int i,y,_,hy=>by cases y <;> simp_all [eqD,D.py,PyData.eqv,D.nb]
 | .str i,y,_,hy=>by cases y <;> simp_all [eqD,D.py,PyData.eqv,D.nb]
 | .dK _,y,hx,_=>by simp [D.nb] at hx
 | .dT _,y,hx,_=>by simp [D.nb] at hx
 | .list xs,y,hx,hy=>by
  cases y with
  | list ys =>
   have:=oH xs ys (by simpa [D.nb] using hx) (by simpa [D.nb] using hy)
   simp only [eqD,D.py,PyData.eqv,D.list.injEq]
   exact this
  | _=>simp_all [eqD,D.py,PyData.eqv,D.nb]
 | .tup xs,y,hx,hy=>by
  cases y with
  | tup ys =>
   have:=oH xs ys (by simpa [D.nb] using hx) (by simpa [D.nb] using hy)
   simp only [eqD,D.py,PyData.eqv,D.tup.injEq]
   exact this
  | _=>simp_all [eqD,D.py,PyData.eqv,D.nb]
theorem oH:∀ (xs ys:List D),nbs xs=true->nbs ys=true->(PyData.eqvAll (pys xs) (pys ys)=true↔xs=ys)
 | [],[],_,_=>by simp [pys,PyData.eqvAll]
 | [],_ :: _,_,_=>by simp [pys,PyData.eqvAll]
 | _ :: _,[],_,_=>by simp [pys,PyData.eqvAll]
 | x :: xs,y :: ys,hx,hy=>by
  simp only [nbs,xaC] at hx hy
  have h1:=pN x y hx.1 hy.1
  have h2:=oH xs ys hx.2 hy.2
  simp only [pys,PyData.eqvAll,xaC,List.cons.injEq]
  exact and_congr h1 h2
end
section
variable {K:PySem.W.Frag} {H:Hp}
theorem Rep.key (r:Rep K H d v) (h:d.key1=some k):v=kV k:=by
 cases r <;> simp [D.key1] at h <;> subst h <;> rfl
theorem Reps.keys (r:Reps K H ds vs) (h:mF ds=some ks):vs=ks.map kV:=by
 induction ds generalizing vs ks with
 | nil=>simp [mF] at h; subst h; exact r.n0
 | cons d ds ih =>
  obtain ⟨u,us,rfl,r,rs⟩:=r.c
  unfold mF at h
  cases e1:d.key1 with
  | none=>rw [e1] at h; simp at h
  | some k =>
   cases e2:mF ds with
   | none=>rw [e1,e2] at h; simp at h
   | some ks' =>
    rw [e1,e2] at h
    simp at h
    subst h
    rw [xas,r.key e1,ih rs e2]
theorem Rep.keyT (r:Rep K H (.tup ds) v) (h:mF ds=some ks):∃ b,v=.ref b/\H b=some (.tup (ks.map kV)):=by
 cases r with
 | tup _ e rs=>exact ⟨_,rfl,by rw [e,rs.keys h]⟩
end
section
variable {κ:Type} [DecidableEq κ] {K:PySem.W.Frag} {H:Hp}
theorem zip_get {k:κ} {kvs:List (κ × D)} {vs:List V} (h:Reps K H (kvs.map (·.2)) vs):match getG kvs k with
  | some d=>∃ v,valV ((kvs.map (·.1)).zip vs) k=some v/\Rep K H d v
  | none=>valV ((kvs.map (·.1)).zip vs) k=none:=by
 induction kvs generalizing vs with
 | nil=>rfl
 | cons p kvs ih =>
  obtain ⟨u,us,rfl,r,rs⟩:=Reps.c (d:=p.2) h
  by_cases e:p.1=k
  ·have e1:getG (p :: kvs) k=some p.2:=by simp [getG,e]
   rw [e1]
   exact ⟨_,by simp only [xas,xcE]; exact valV_pos e,r⟩
  ·have e1:getG (p :: kvs) k=getG kvs k:=by simp [getG,e]
   rw [e1]
   have:=ih rs
   simp only [xas,xcE,valV_neg (p:=(p.1,_)) e]
   exact this
end
section
variable {K:PySem.W.Frag} {Hs H:Hp}
theorem newL (w:Wf Hs H) (hp:H p=none) (ho:∀ vs,o≠.tup vs):Grow Hs H Hs (upd H p o) :=
 ⟨(Same.refl H).upd hp,Same.refl _,⟨w.sub.upd hp,fun a vs e=>by
  by_cases h:a=p
  ·subst h; rw [upd_same] at e; exact absurd (Option.some.inj e) (ho vs)
  ·rw [upd_ne h] at e; exact w.tups a vs e⟩,fun _ h=>.inl h⟩
theorem newT (w:Wf Hs H) (hp:H p=none):Grow Hs H (upd Hs p (.tup vs)) (upd H p (.tup vs)) :=
 ⟨(Same.refl H).upd hp,(Same.refl Hs).upd (w.sub.free hp),⟨fun a o e=>by
  by_cases h:a=p
  ·subst h; rw [upd_same] at e ⊢; exact e
  ·rw [upd_ne h] at e ⊢; exact w.sub a o e,fun a vs e=>by
  by_cases h:a=p
  ·subst h; rw [upd_same] at e ⊢; exact e
  ·rw [upd_ne h] at e ⊢; exact w.tups a vs e⟩,fun a h=>by
  by_cases e:a=p
  ·subst e; exact .inr hp
  ·rw [upd_ne e] at h; exact .inl h⟩
theorem cV.nil:cV Hs H []:=⟨xaX,fun a h=>nomatch h⟩
theorem cV.of (s:Same H H') (f:cV Hs H' As):cV Hs H As:=⟨f.1,fun a h=>⟨(f.2 a h).1,s.free (f.2 a h).2⟩⟩
abbrev Fin (K:PySem.W.Frag) (Hs H:Hp) (Qd:Md->D->Prop) (Qv:VK):Prop:=∀ v H' Hs' m d As,Grow Hs H Hs' H'->RM K Hs' H' m d v As->cV Hs' H As->Qd m d->Qv v H'
theorem Fin.after (f:Fin K Hs H Qd Qv) (g:Grow Hs H Hs' H'):Fin K Hs' H' Qd Qv:=fun v H2 Hs2 m d As g2 r fr q=>f v H2 Hs2 m d As (g.trans g2) r (fr.of g.all) q
theorem Fin.sh (f:Fin K Hs H Qd Qv) (w:Wf Hs H) (r:Rep K Hs d v) (q:Qd .sh d):Qv v H:=f v H Hs .sh d [] (Grow.refl w) ⟨rfl,r⟩ cV.nil q
theorem Fin.flat (f:Fin K Hs H Qd Qv) (w:Wf Hs H) (r:Rep K H d v) (hf:d.flat=true) (q:Qd .sh d):Qv v H:=f.sh w (r.jk w.tups hf) q
theorem Fin.bo (f:Fin K Hs H Qd Qv) (w:Wf Hs H) (r:Rep K H d v) (q:Qd .bo d):Qv v H:=f v H Hs .bo d [] (Grow.refl w) ⟨rfl,r⟩ cV.nil q
def itm (m:Md) (d:D):Md:=match m with
 | .sh=>.sh
 | _=>bif d.flat then .sh else .bo
theorem Fin.itm (f:Fin K Hs H Qd Qv) (w:Wf Hs H) (r:Rep K H d v) (rs:m=.sh->Rep K Hs d v) (q:Qd (itm m d) d):Qv v H:=by
 cases m with
 | sh=>exact f.sh w (rs rfl) q
 | ow fl =>
  cases hf:d.flat with
  | true=>exact f.flat w r hf (by simpa [Q.itm,hf] using q)
  | false=>exact f.bo w r (by simpa [Q.itm,hf] using q)
 | bo =>
  cases hf:d.flat with
  | true=>exact f.flat w r hf (by simpa [Q.itm,hf] using q)
  | false=>exact f.bo w r (by simpa [Q.itm,hf] using q)
theorem Fin.lst (f:Fin K Hs H Qd Qv) (w:Wf Hs H) (hz:ds.length<=sizeLine) (r:Reps K H ds vs) (hf:flats ds=true) (q:Qd (.ow true) (.list ds)):∀ p,H p=none->Qv (.ref p) (upd H p (.lst vs)):=fun p hp =>
 f _ _ Hs (.ow true) (.list ds) [p] (newL w hp fun _ z=>nomatch z) ⟨.list (by rw [<- r.length]; exact hz) upd_same ((r.jk w.tups hf).owned hf),by simp⟩ ⟨by simp,fun a h=>by
  obtain rfl:a=p:=by simpa using h
  exact ⟨w.sub.free hp,hp⟩⟩ q
theorem Fin.lstS (f:Fin K Hs H Qd Qv) (w:Wf Hs H) (hz:ds.length<=sizeLine) (r:Reps K Hs ds vs) (q:Qd (.ow false) (.list ds)):∀ p,H p=none->Qv (.ref p) (upd H p (.lst vs)):=fun p hp =>
 f _ _ Hs (.ow false) (.list ds) [p] (newL w hp fun _ z=>nomatch z) ⟨.list (by rw [<- r.length]; exact hz) upd_same r.Fy,by simp⟩ ⟨by simp,fun a h=>by
  obtain rfl:a=p:=by simpa using h
  exact ⟨w.sub.free hp,hp⟩⟩ q
theorem Fin.tup (f:Fin K Hs H Qd Qv) (w:Wf Hs H) (hz:ds.length<=sizeLine) (r:Reps K H ds vs) (hf:flats ds=true) (q:Qd .sh (.tup ds)):∀ p,H p=none->Qv (.ref p) (upd H p (.tup vs)):=fun p hp =>
 f _ _ (upd Hs p (.tup vs)) .sh (.tup ds) [] (newT w hp) ⟨rfl,.tup (by rw [<- r.length]; exact hz) upd_same ((r.jk w.tups hf).same ((Same.refl Hs).upd (w.sub.free hp)))⟩ cV.nil q
end
section
variable {X:Cx} {K:PySem.W.Frag}
theorem PE.imp (h:PE X e te) (i:∀ σ H Q,te' σ H Q->te σ H Q):PE X e te':=fun pins s σ H Q I q=>h pins s σ H Q I (i σ H Q q)
theorem PT.imp (h:PT X e te) (i:∀ σ H Q,te' σ H Q->te σ H Q):PT X e te':=fun pins s σ H Q I q=>h pins s σ H Q I (i σ H Q q)
theorem PW.imp (h:PW X e te) (i:∀ σ H Q,te' σ H Q->te σ H Q):PW X e te':=fun wh pins s σ H Q I q=>h wh pins s σ H Q I (i σ H Q q)
theorem PA.imp (h:PA X e te) (i:∀ σ H Q,te' σ H Q->te σ H Q):PA X e te':=fun p pins s σ H Q I q=>h p pins s σ H Q I (i σ H Q q)
def useS:Option (Option Sl)->(Md->D->Prop)->Prop
 | some (some (.sh d)),Q=>Q .sh d
 | some (some (.ow _ d)),Q=>Q .bo d
 | some (some (.lk _ _ d)),Q=>Q .bo d
 | _,_=>False
def wVar (i:Nat):WE:=fun ρ Q=>useS ρ[i]? Q
theorem Gj (h:PE X e (tVar i)):QE X K e (wVar i):=by
 refine PE.imp h fun σ H Qv hx=>ex4 hx fun Hs ρ tot Q sr h f=>?_
 unfold wVar at h
 cases e:ρ[i]? with
 | none=>rw [e] at h; exact h.elim
 | some o =>
  cases o with
  | none=>rw [e] at h; exact h.elim
  | some sl =>
   obtain ⟨v,e1,r⟩:=sr.sr.get e
   rw [e] at h
   cases sl with
   | sh d=>exact ⟨v,e1,Fin.sh f sr.wf r h⟩
   | xc a=>exact h.elim
   | ow fl d =>
    obtain ⟨As,_,r,_⟩:=r
    exact ⟨v,e1,Fin.bo f sr.wf (r.rep sr.wf.sub fun _ _=>rfl) h⟩
   | lk a fl d =>
    obtain ⟨As,_,r,_⟩:=r
    exact ⟨v,e1,Fin.bo f sr.wf (r.rep sr.wf.sub fun _ _=>rfl) h⟩
theorem qv (i:Nat) (hN:X.N[i]? = some x:=by rfl) (hv:Vis X.env.scope x:=by first | exact Or.inl rfl | exact Or.inr (Or.inl rfl) | exact Or.inr (Or.inr rfl)) (hd:(x == ("__debug__" : Str))=false:=by decide)
  (hcd:(x == ("__classdict__" : Str))=false:=by decide):QE X K (.Name x pos) (wVar i):=Gj (pe_var hN hv hd hcd)
def wC (d:D):WE:=fun _ Q=>Q .sh d
theorem vD (h:PE X e (tC v)) (r:∀ H,Rep K H d v):QE X K e (wC d) :=
 PE.imp h fun σ H Qv hx=>ex4 hx fun Hs ρ tot Q sr h f=>Fin.sh f sr.wf (r _) h
theorem ao {i j pos}:QE X K (.Constant (.int i) j pos) (wC (.int i)):=vD pe_int fun _=>.int i
theorem cO {i j pos} (h:i.length<=sizeLine:=by decide):QE X K (.Constant (.str i) j pos) (wC (.str i)):=vD pe_str fun _=>.str h
theorem q_bl {i j pos}:QE X K (.Constant (.bool i) j pos) (wC (.bl i)):=vD pe_bl fun _=>.bl i
theorem vI {j pos}:QE X K (.Constant .none j pos) (wC .non):=vD pe_non fun _=>.non
theorem q_gs (h:GlS X.mg x z) (hg:Gl X x:=by rfl) (hd:(x == ("__debug__" : Str))=false:=by decide) (hz:z.length<=sizeLine:=by decide):QE X K (.Name x pos) (wC (.str z)):=vD (GQ h hg hd) fun _=>.str hz
theorem q_gi (h:GlI X.mg x i) (hg:Gl X x:=by rfl) (hd:(x == ("__debug__" : Str))=false:=by decide):QE X K (.Name x pos) (wC (.int i)):=vD (Gv h hg hd) fun _=>.int i
abbrev W2:=Md->D->Md->D->(Md->D->Prop)->Prop
abbrev W1:=Md->D->(Md->D->Prop)->Prop
def Br2 (K:PySem.W.Frag) (r:R2) (f:W2):Prop:=∀ Hs H m x v As n y u Bs Qd Qv,Wf Hs H->RM K Hs H m x v As->RM K Hs H n y u Bs->f m x n y Qd->Fin K Hs H Qd Qv->r v u H Qv
def Br1 (K:PySem.W.Frag) (r:V->Hp->VK->Prop) (f:W1):Prop:=∀ Hs H m x v As Qd Qv,Wf Hs H->RM K Hs H m x v As->f m x Qd->Fin K Hs H Qd Qv->r v H Qv
def wOp (f:W2) (ta tb:WE):WE:=fun ρ Q=>ta ρ fun m x=>tb ρ fun n y=>f m x n y Q
def wUn (f:W1) (ta:WE):WE:=fun ρ Q=>ta ρ fun m x=>f m x Q
variable {a b:Expr} {ta tb tc:WE} {pos:Pos}
theorem oY (br:Br2 K r f) (σ:St) (H:Hp) (Qv:VK) (h:tpE K (wOp f ta tb) σ H Qv):tOp r (tpE K ta) (tpE K tb) σ H Qv:=by
 obtain ⟨Hs,ρ,tot,Q,sr,h,fin⟩:=h
 refine ⟨Hs,ρ,tot,_,sr,h,fun v H1 Hs1 m x As g1 r1 f1 q1=>⟨Hs1,ρ,tot,_,sr.grow g1,q1,fun u H2 Hs2 n y Bs g2 r2 f2 q2=>?_⟩⟩
 exact br Hs2 H2 m x v As n y u Bs Q Qv g2.wf (r1.grow g2) r2 q2 (Fin.after fin (g1.trans g2))
theorem q_op (ho:OpR X (binaryOp op) r) (br:Br2 K r f) (ha:QE X K a ta) (hb:QE X K b tb):QE X K (.BinOp a op b pos) (wOp f ta tb):=PE.imp (pe_op ho ha hb) (oY br)
theorem ou (ho:OpR X (compareOp op) r) (br:Br2 K r f) (ha:QE X K a ta) (hb:QE X K b tb) (hm:behindInMarks op b=false):QE X K (.Compare a [op] [b] pos) (wOp f ta tb):=PE.imp (pe_cmpR ho ha hb hm) (oY br)
def wB (t:WE):WT:=fun ρ Q=>t ρ fun _ x=>match x with
 | .bl b=>Q b
 | _=>False
theorem zm (σ:St) (H:Hp) (Qv:Bool->Hp->Prop) (h:tpT K (wB t) σ H Qv):tTest (tpE K t) σ H Qv:=by
 obtain ⟨Hs,ρ,tot,Q,sr,h,fin⟩:=h
 refine ⟨Hs,ρ,tot,_,sr,h,fun v H1 Hs1 m x As g1 r1 f1 q1=>?_⟩
 have r:=r1.rep g1.wf
 cases r with
 | bl b=>exact ⟨b,rfl,fin b H1 Hs1 g1 q1⟩
 | _=>exact q1.elim
theorem bz (ho:OpR X (compareOp op) r) (br:Br2 K r f) (ha:QE X K a ta) (hb:QE X K b tb) (hm:behindInMarks op b=false):QT X K (.Compare a [op] [b] pos) (wB (wOp f ta tb)):=by
 refine PT.imp (pt_cmpR ho ha hb hm) fun σ H Qv h=>?_
 obtain ⟨Hs,ρ,tot,Q,sr,h,fin⟩:=h
 refine oY br σ H _ ⟨Hs,ρ,tot,_,sr,h,fun v H1 Hs1 m x As g1 r1 f1 q1=>?_⟩
 have r:=r1.rep g1.wf
 cases r with
 | bl b=>exact ⟨b,rfl,fin b H1 Hs1 g1 q1⟩
 | _=>exact q1.elim
theorem eX (h:QE X K a t) (he:∀ whole,isTrue a X.env whole=(do let v <- whole; standAt a.pos; holding [v] (truthy v)):=by intro _; rfl):QT X K a (wB t):=PT.imp (pt_val h he) zm
def qg (f g:W2) (ta tb tc:WE):WE:=fun ρ Q=>ta ρ fun m x=>tb ρ fun n y=>f m x n y fun _ z=>match z with
 | .bl k=>if k=true then tc ρ fun l w=>g n y l w Q else Q .sh (.bl false)
 | _=>False
end
end L2.Q
namespace L2.Q
open PySem PySem.Spec PyProof.Rows
section
variable {X:Cx} {K:PySem.W.Frag} {a b c:Expr} {ta tb tc:WE} {pos:Pos}
theorem vp (br:Br2 K r f) (br':Br2 K r' g) (σ:St) (H:Hp) (Qv:VK) (h:tpE K (qg f g ta tb tc) σ H Qv):tChain r r' (tpE K ta) (tpE K tb) (tpE K tc) σ H Qv:=by
 obtain ⟨Hs,ρ,tot,Q,sr,h,fin⟩:=h
 refine ⟨Hs,ρ,tot,_,sr,h,fun v H1 Hs1 m x As g1 r1 f1 q1=>⟨Hs1,ρ,tot,_,sr.grow g1,q1,fun u H2 Hs2 n y Bs g2 r2 f2 q2=>?_⟩⟩
 refine br Hs2 H2 m x v As n y u Bs _ _ g2.wf (r1.grow g2) r2 q2 fun z H3 Hs3 m3 d3 As3 g3 r3 f3 q3=>?_
 have rr:=r3.rep g3.wf
 cases rr with
 | bl k =>
  refine ⟨k,rfl,?_⟩
  have fin3:Fin K Hs3 H3 Q Qv:=Fin.after fin ((g1.trans g2).trans g3)
  cases k with
  | false=>exact fin3.sh g3.wf (.bl false) q3
  | true =>
   refine ⟨Hs3,ρ,tot,_,((sr.grow g1).grow g2).grow g3,q3,fun w H4 Hs4 l z As4 g4 r4 f4 q4=>?_⟩
   exact br' Hs4 H4 n y u Bs l z w As4 Q Qv g4.wf ((r2.grow g3).grow g4) r4 q4 (Fin.after fin3 g4)
 | _=>exact q3.elim
theorem yu (ho:OpR X (compareOp op) r) (ho':OpR X (compareOp op') r') (br:Br2 K r f) (br':Br2 K r' g) (ha:QE X K a ta) (hb:QE X K b tb) (hc:QE X K c tc)
  (hm:lastMarks [op,op'] [b,c]=false:=by with_unfolding_all rfl):QT X K (.Compare a [op,op'] [b,c] pos) (wB (qg f g ta tb tc)):=by
 refine PT.imp (pt_chain ho ho' ha hb hc hm) fun σ H Qv h=>?_
 obtain ⟨Hs,ρ,tot,Q,sr,h,fin⟩:=h
 refine vp br br' σ H _ ⟨Hs,ρ,tot,_,sr,h,fun v H1 Hs1 m x As g1 r1 f1 q1=>?_⟩
 have r:=r1.rep g1.wf
 cases r with
 | bl b=>exact ⟨b,rfl,fin b H1 Hs1 g1 q1⟩
 | _=>exact q1.elim
def wOr (t u:WT):WT:=fun ρ Q=>t ρ fun c=>if c=true then Q true else u ρ Q
def wNot (t:WT):WT:=fun ρ Q=>t ρ fun c=>Q (!c)
variable {tA tB:WT} {rest:List Expr}
theorem uG {t u:WT} {f:Bool->TT} {σ:St} {H:Hp} {Qv:Bool->Hp->Prop} {G:Bool->(Bool->Prop)->Env->Prop}
  (h:tpT K (fun ρ Q=>t ρ fun c=>G c Q ρ) σ H Qv)
  (i:∀ c H1 Hs1 ρ tot Q,SRel K Hs1 ρ σ H1 tot->G c Q ρ->(∀ b H' Hs',Grow Hs1 H1 Hs' H'->Q b->Qv b H')->f c σ H1 Qv):tpT K t σ H fun c H1=>f c σ H1 Qv:=by
 obtain ⟨Hs,ρ,tot,Q,sr,h,fin⟩:=h
 exact ⟨Hs,ρ,tot,_,sr,h,fun c H1 Hs1 g1 q1=>i c H1 Hs1 ρ tot Q (sr.grow g1) q1 fun b H' Hs' g2=>fin b H' Hs' (g1.trans g2)⟩
theorem kI (ha:QT X K a tA):QW X K (.BoolOp .Or [a] pos) tA:=pw_or1 ha
theorem pK (ha:QT X K a tA) (hb:QW X K (.BoolOp .Or (b :: rest) pos) tB):QW X K (.BoolOp .Or (a :: b :: rest) pos) (wOr tA tB):=by
 refine PW.imp (pw_or ha hb) fun σ H Qv h=>?_
 refine uG (u:=tB) (f:=fun c σ H1 Q=>if c=true then Q true H1 else tpT K tB σ H1 Q) h fun c H1 Hs1 ρ tot Q sr q fin=>?_
 cases c with
 | true=>exact fin true H1 Hs1 (Grow.refl sr.wf) q
 | false=>exact ⟨Hs1,ρ,tot,Q,sr,q,fin⟩
theorem qt_w (h:QW X K a tA):QT X K a tA:=h _
theorem eV (ha:QT X K a tA):QT X K (.UnaryOp .Not a pos) (wNot tA):=by
 refine PT.imp (pt_not ha) fun σ H Qv h=>?_
 exact uG (u:=tA) (f:=fun c σ H1 Q=>Q (!c) H1) h fun c H1 Hs1 ρ tot Q sr q fin=>fin _ H1 Hs1 (Grow.refl sr.wf) q
def nU (ta tb:WE):WE:=fun ρ Q=>ta ρ fun _ x=>match x with
 | .bl c=>if c=true then tb ρ Q else Q .sh (.bl false)
 | _=>False
def yp (ta:WE):WE:=fun ρ Q=>ta ρ fun _ x=>match x with
 | .bl c=>Q .sh (.bl (!c))
 | _=>False
theorem zM {op} (h:QE X K a ta):QE X K (.BoolOp op [a] pos) ta:=pe_one h
theorem uO (ha:QE X K a ta) (hb:QE X K (.BoolOp .And (b :: rest) pos) tb):QE X K (.BoolOp .And (a :: b :: rest) pos) (nU ta tb):=by
 refine PE.imp (pe_and ha hb) fun σ H Qv hx=>ex4 hx fun Hs ρ tot Q sr h fin=>?_
 refine ⟨Hs,ρ,tot,_,sr,h,fun v H1 Hs1 m x As g1 r1 f1 q1=>?_⟩
 have r:=r1.rep g1.wf
 cases r with
 | bl c =>
  refine ⟨c,rfl,?_⟩
  cases c with
  | true=>exact ⟨Hs1,ρ,tot,Q,sr.grow g1,q1,Fin.after fin g1⟩
  | false=>exact Fin.sh (Fin.after fin g1) g1.wf (.bl false) q1
 | _=>exact q1.elim
theorem GJ (ha:QE X K a ta):QE X K (.UnaryOp .Not a pos) (yp ta):=by
 refine PE.imp (pe_not ha) fun σ H Qv hx=>ex4 hx fun Hs ρ tot Q sr h fin=>?_
 refine ⟨Hs,ρ,tot,_,sr,h,fun v H1 Hs1 m x As g1 r1 f1 q1=>?_⟩
 have r:=r1.rep g1.wf
 cases r with
 | bl c=>exact ⟨c,rfl,Fin.sh (Fin.after fin g1) g1.wf (.bl _) q1⟩
 | _=>exact q1.elim
def truD:D->Option Bool
 | .non=>some false
 | .bl b=>some b
 | .int i=>some (i != 0)
 | .str x=>some ((x.length:Int) != 0)
 | .list xs=>some !xs.isEmpty
 | .tup xs=>some !xs.isEmpty
 | .dK kvs=>none
 | .dT kvs=>none
end
def fAdd:W2:=fun m x n y Q=>match x,y with
 | .int i,.int j=>Q .sh (.int (i+j))
 | .str i,.str j=>i.length+j.length<=sizeLine/\Q .sh (.str (i++j))
 | .list xs,.list ys=>xs.length+ys.length<=sizeLine/\((flats xs=true/\flats ys=true/\Q (.ow true) (.list (xs++ys)))\/(m=.sh/\n=.sh/\Q (.ow false) (.list (xs++ys))))
 | .tup xs,.tup ys=>xs≠[]/\xs.length+ys.length<=sizeLine/\flats xs=true/\flats ys=true/\Q .sh (.tup (xs++ys))
 | _,_=>False
def int2 (P:Int->Int->(Md->D->Prop)->Prop):W2:=fun _ x _ y Q=>match x,y with
 | .int i,.int j=>P i j Q
 | _,_=>False
def is2 (P:Int->Int->(Md->D->Prop)->Prop) (S:Str->Str->(Md->D->Prop)->Prop):W2:=fun _ x _ y Q=>match x,y with
 | .int i,.int j=>P i j Q
 | .str i,.str j=>S i j Q
 | _,_=>False
def fMul:W2:=int2 fun i j Q=>CMul i j/\Q .sh (.int (i * j))
def fDiv:W2:=int2 fun i j Q=>(0<j/\j<1073741824)/\Q .sh (.int (i / j))
def fMod:W2:=int2 fun i j Q=>0<j/\Q .sh (.int (i % j))
def fLt:W2:=is2 (fun i j Q=>Q .sh (.bl (decide (i<j)))) fun i j Q=>Q .sh (.bl (ltS i j))
def fLe:W2:=is2 (fun i j Q=>Q .sh (.bl (decide (i<=j)))) fun i j Q=>Q .sh (.bl (!ltS j i))
def fGt:W2:=int2 fun i j Q=>Q .sh (.bl (decide (j<i)))
def fEq:W2:=fun _ x _ y Q=>match x,y with
 | .int i,.int j=>Q .sh (.bl (decide (i=j)))
 | .str i,.str j=>Q .sh (.bl (decide (i=j)))
 | .bl i,.bl j=>Q .sh (.bl (decide (i=j)))
 | _,_=>okD 12 x=true/\okD 12 y=true/\Q .sh (.bl (eqD x y))
def fNe:W2:=fun _ x _ y Q=>match x,y with
 | .int i,.int j=>Q .sh (.bl (!decide (i=j)))
 | .str i,.str j=>Q .sh (.bl (!decide (i=j)))
 | .bl i,.bl j=>Q .sh (.bl (!decide (i=j)))
 | _,_=>okD 12 x=true/\okD 12 y=true/\Q .sh (.bl (!eqD x y))
def D.isN:D->Bool
 | .non=>true
 | _=>false
def fX:D->Bool
 | .non=>true
 | .bl _=>true
 | .int _=>true
 | .str _=>true
 | _=>false
def inD (x:D) (ys:List D):Bool:=ys.any fun y=>eqD y x
def fIn (neg:Bool):W2:=fun _ x _ y Q=>match y with
 | .str j=>match x with
  | .str i=>Q .sh (.bl (if neg then !inS i j else inS i j))
  | _=>False
 | .list ys=>fX x=true/\ys.all fX=true/\Q .sh (.bl (if neg then !inD x ys else inD x ys))
 | .tup ys=>fX x=true/\ys.all fX=true/\Q .sh (.bl (if neg then !inD x ys else inD x ys))
 | .dK kvs=>∃ k,x.key1=some k/\Q .sh (.bl (if neg then !(getG kvs k).isSome else (getG kvs k).isSome))
 | .dT kvs=>match x with
  | .tup xs=>∃ ks,mF xs=some ks/\Q .sh (.bl (if neg then !(getG kvs ks).isSome else (getG kvs ks).isSome))
  | _=>False
 | _=>False
section
variable {K:PySem.W.Frag}
theorem Br2.flatV (h:∀ Hs H m x v As n y u Bs Qd Qv,Wf Hs H->RM K Hs H m x v As->RM K Hs H n y u Bs->f m x n y Qd->Fin K Hs H Qd Qv->r v u H Qv):Br2 K r f:=h
theorem xg (f:Fin K Hs H Qd Qv) (w:Wf Hs H) (h:x.length<=sizeLine) (q:Qd .sh (.str x)):Qv (.str x) H:=f.sh w (.str h) q
theorem b_ (i j:Str):(i++j).length=i.length+j.length:=by
 show ((i++j).cps.size)=_
 show (i.cps++j.cps).size=_
 simp [Str.length]
theorem Dd:Br2 K (fun x y H Q=>zf K x y H Q\/rCatT K x y H Q) fAdd:=by
 intro Hs H m x v As n y u Bs Qd Qv w rx ry h f
 have r1:=rx.rep w
 have r2:=ry.rep w
 unfold fAdd at h
 cases r1 with
 | int i=>cases r2 with
  | int j=>exact .inl (f.sh w (.int _) h)
  | _=>exact h.elim
 | str hi=>cases r2 with
  | str hj=>exact .inl ⟨h.1,xg f w (by rw [b_]; exact h.1) h.2⟩
  | _=>exact h.elim
 | list z1 s1 q1=>cases r2 with
  | list z2 s2 q2 =>
   have l1:=q1.length
   have l2:=q2.length
   have hz:=h.1
   rcases h.2 with ⟨f1,f2,q⟩ | ⟨rfl,rfl,q⟩
   ·refine .inl ⟨_,_,s1,s2,by lia,?_⟩
    exact f.lst w (by rw [xaD]; exact hz) (q1.append q2) (by rw [jj,f1,f2]; rfl) q
   ·obtain ⟨_,rx⟩:=rx
    obtain ⟨_,ry⟩:=ry
    cases rx with
    | list z1' s1' q1'=>cases ry with
     | list z2' s2' q2' =>
      have l1:=q1'.length
      have l2:=q2'.length
      refine .inl ⟨_,_,Same.seq w.sub s1',Same.seq w.sub s2',by lia,?_⟩
      exact f.lstS w (by rw [xaD]; exact hz) (q1'.append q2') q
  | _=>exact h.elim
 | tup t1 s1 q1=>cases r2 with
  | tup t2 s2 q2 =>
   have l1:=q1.length
   have l2:=q2.length
   obtain ⟨hne,hz,f1,f2,q⟩:=h
   refine .inr ⟨_,_,_,_,rfl,rfl,.inl (.inl s1),.inl (.inl s2),?_,by lia,?_⟩
   ·intro e
    subst e
    exact hne (xbO.mp l1)
   ·refine ⟨fun e=>?_,fun _=>f.tup w (by rw [xaD]; exact hz) (q1.append q2) (by rw [jj,f1,f2]; rfl) q⟩
    subst e
    cases q2
    rw [xaF] at q
    exact f.flat w (.tup t1 s1 q1) (by simpa [D.flat] using f1) q
  | _=>exact h.elim
 | _=>exact h.elim
theorem z9 {H:Hp} {x y:D} {v u:V} {m n:Md} {P:Int->Int->(Md->D->Prop)->Prop} {S:Str->Str->(Md->D->Prop)->Prop} {Q:Md->D->Prop} {G:Prop} (r1:Rep K H x v) (r2:Rep K H y u) (h:is2 P S m x n y Q) (k:∀ i j,v=.int i->u=.int j->P i j Q->G) (ks:∀ i j,v=.str i->u=.str j->S i j Q->G):G:=by
 cases r1 with
 | int i=>cases r2 with
  | int j=>exact k i j rfl rfl h
  | _=>exact h.elim
 | str hi=>cases r2 with
  | str hj=>exact ks _ _ rfl rfl h
  | _=>exact h.elim
 | _=>exact h.elim
theorem nF {H:Hp} {x y:D} {v u:V} {m n:Md} {P:Int->Int->(Md->D->Prop)->Prop} {Q:Md->D->Prop} {G:Prop} (r1:Rep K H x v) (r2:Rep K H y u) (h:int2 P m x n y Q) (k:∀ i j,v=.int i->u=.int j->P i j Q->G):G:=by
 cases r1 with
 | int i=>cases r2 with
  | int j=>exact k i j rfl rfl h
  | _=>exact h.elim
 | _=>exact h.elim
theorem Fq:Br2 K Aq fMul:=by
 intro Hs H m x v As n y u Bs Qd Qv w rx ry h f
 exact nF (rx.rep w) (ry.rep w) h fun i j e1 e2 q=>by
  subst e1 e2
  exact ⟨q.1,f.sh w (.int _) q.2⟩
theorem Dh:Br2 K BJ fDiv:=by
 intro Hs H m x v As n y u Bs Qd Qv w rx ry h f
 exact nF (rx.rep w) (ry.rep w) h fun i j e1 e2 q=>by
  subst e1 e2
  exact ⟨q.1,f.sh w (.int _) q.2⟩
theorem Fj:Br2 K Br fMod:=by
 intro Hs H m x v As n y u Bs Qd Qv w rx ry h f
 exact nF (rx.rep w) (ry.rep w) h fun i j e1 e2 q=>by
  subst e1 e2
  exact ⟨q.1,f.sh w (.int _) q.2⟩
theorem Be:Br2 K rGtU fGt:=by
 intro Hs H m x v As n y u Bs Qd Qv w rx ry h f
 exact nF (rx.rep w) (ry.rep w) h fun i j e1 e2 q=>by
  subst e1 e2
  exact f.sh w (.bl _) q
theorem G7:Br2 K rLtU fLt:=by
 intro Hs H m x v As n y u Bs Qd Qv w rx ry h f
 exact z9 (rx.rep w) (ry.rep w) h (fun i j e1 e2 q=>by
  subst e1 e2
  exact f.sh w (.bl _) q) fun i j e1 e2 q=>by
  subst e1 e2
  exact f.sh w (.bl _) q
theorem Ay:Br2 K rLeU fLe:=by
 intro Hs H m x v As n y u Bs Qd Qv w rx ry h f
 exact z9 (rx.rep w) (ry.rep w) h (fun i j e1 e2 q=>by
  subst e1 e2
  exact f.sh w (.bl _) q) fun i j e1 e2 q=>by
  subst e1 e2
  exact f.sh w (.bl _) q
theorem eq_data (w:Wf Hs H) (rx:Rep K H x v) (ry:Rep K H y u) (f:Fin K Hs H Qd Qv) (h:okD 12 x=true/\okD 12 y=true/\Qd .sh (.bl (eqD x y))):rEqD K v u H Qv:=by
 obtain ⟨h1,h2,q⟩:=h
 have l1:=uB 12 x h1
 have l2:=uB 12 y h2
 exact ⟨x.py,y.py,rx.l2 h1,ry.l2 h2,l1.1,l2.1,by lia,f.sh w (.bl _) q⟩
theorem ne_data (w:Wf Hs H) (rx:Rep K H x v) (ry:Rep K H y u) (f:Fin K Hs H Qd Qv) (h:okD 12 x=true/\okD 12 y=true/\Qd .sh (.bl (!eqD x y))):rNeD K v u H Qv:=by
 obtain ⟨h1,h2,q⟩:=h
 have l1:=uB 12 x h1
 have l2:=uB 12 y h2
 exact ⟨x.py,y.py,rx.l2 h1,ry.l2 h2,l1.1,l2.1,by lia,f.sh w (.bl _) q⟩
theorem mK:Br2 K (rEqU K) fEq:=by
 intro Hs H m x v As n y u Bs Qd Qv w rx ry h f
 have r1:=rx.rep w
 have r2:=ry.rep w
 have d:=fun h=>eq_data (Qd:=Qd) (Qv:=Qv) w r1 r2 f h
 cases r1 with
 | int i=>cases r2 with
  | int j=>exact f.sh w (.bl _) h
  | _=>exact d h
 | str i=>cases r2 with
  | str j=>exact f.sh w (.bl _) h
  | _=>exact d h
 | bl i=>cases r2 with
  | bl j=>exact f.sh w (.bl _) h
  | _=>exact d h
 | _=>exact d h
theorem jb:Br2 K (rNeU K) fNe:=by
 intro Hs H m x v As n y u Bs Qd Qv w rx ry h f
 have r1:=rx.rep w
 have r2:=ry.rep w
 have d:=fun h=>ne_data (Qd:=Qd) (Qv:=Qv) w r1 r2 f h
 cases r1 with
 | int i=>cases r2 with
  | int j=>exact f.sh w (.bl _) h
  | _=>exact d h
 | str i=>cases r2 with
  | str j=>exact f.sh w (.bl _) h
  | _=>exact d h
 | bl i=>cases r2 with
  | bl j=>exact f.sh w (.bl _) h
  | _=>exact d h
 | _=>exact d h
theorem jV (r:Rep K H x v) (h:fX x=true):flatV v=true:=by
 cases r <;> first | rfl | (simp [fX] at h)
theorem Bw (r:Rep K H x v) (s:Rep K H y u) (h:fX x=true) (g:fX y=true):eqV v u=eqD x y:=by
 cases r <;> simp [fX] at h <;> cases s <;> simp [fX] at g <;> rfl
theorem De (r:Rep K H x v) (h:fX x=true) (rs:Reps K H ys us) (g:ys.all fX=true):us.all flatV=true/\inV v us=inD x ys:=by
 induction ys generalizing us with
 | nil=>rw [rs.n0]; exact ⟨rfl,rfl⟩
 | cons y ys ih =>
  obtain ⟨u,us,rfl,s,ss⟩:=rs.c
  simp only [xbE,xaC] at g
  obtain ⟨e1,e2⟩:=ih ss g.2
  refine ⟨by simp only [xbE,jV s g.1,e1,Bool.and_self],?_⟩
  unfold inV inD at *
  rw [xbF,xbF,e2,Bw s r g.1 h]
theorem pY {κ:Type} [DecidableEq κ] {H:Hp} {k:κ} {kvs:List (κ × D)} {vs:List V} (r:Reps K H (kvs.map (·.2)) vs):(valV ((kvs.map (·.1)).zip vs) k).isSome=(getG kvs k).isSome:=by
 have:=zip_get (k:=k) r
 split at this
 ·rename_i e
  obtain ⟨v,e1,_⟩:=this
  rw [e1,e]; rfl
 ·rename_i e
  rw [this,e]; rfl
theorem uP:Br2 K (rInU K neg) (fIn neg):=by
 intro Hs H m x v As n y u Bs Qd Qv w rx ry h f
 have r1:=rx.rep w
 have r2:=ry.rep w
 cases r2 with
 | str j=>cases r1 with
  | str i=>exact f.sh w (.bl _) h
  | _=>exact h.elim
 | list z s q =>
  obtain ⟨h1,h2,h3⟩:=h
  obtain ⟨e1,e2⟩:=De r1 h1 q h2
  have h4:=jV r1 h1
  have g:rIn K neg v (.ref _) H Qv:=⟨_,_,rfl,.inl s,h4,e1,by rw [e2]; exact f.sh w (.bl _) h3⟩
  cases r1 <;> exact .inr g
 | tup _ s q =>
  obtain ⟨h1,h2,h3⟩:=h
  obtain ⟨e1,e2⟩:=De r1 h1 q h2
  have h4:=jV r1 h1
  have g:rIn K neg v (.ref _) H Qv:=⟨_,_,rfl,.inr (.inl (.inl s)),h4,e1,by rw [e2]; exact f.sh w (.bl _) h3⟩
  cases r1 <;> exact .inr g
 | dK kk e q =>
  obtain ⟨k,hk,h3⟩:=h
  have ev:=r1.key hk
  subst ev
  have eg:=pY (k:=k) q
  cases k <;> exact .inl ⟨_,DGet.k' e,by rw [eg]; exact f.sh w (.bl _) h3⟩
 | dT kk e q =>
  cases r1 with
  | tup t1 e1 q1 =>
   obtain ⟨ks,hk,h3⟩:=h
   obtain ⟨b,eb,e2⟩:=Rep.keyT (.tup t1 e1 q1) hk
   cases eb
   have eg:=pY (k:=ks) q
   exact .inl ⟨_,DGet.t' e e2,by rw [eg]; exact f.sh w (.bl _) h3⟩
  | _=>exact h.elim
 | _=>exact h.elim
end
section
variable {X:Cx} {K:PySem.W.Frag} {a b:Expr} {ta tb:WE} {pos:Pos}
theorem Hm (hK:X.K=K:=by rfl):OpR X (binaryOp .Add) (fun x y H Q=>zf K x y H Q\/rCatT K x y H Q):=by subst hK; exact Bc.or op_catT
theorem cX (ha:QE X K a ta) (hb:QE X K b tb) (hK:X.K=K:=by rfl):QE X K (.BinOp a .Add b pos) (wOp fAdd ta tb):=q_op (Hm hK) Dd ha hb
theorem eY (ha:QE X K a ta) (hb:QE X K b tb):QE X K (.BinOp a .Mult b pos) (wOp fMul ta tb):=q_op Bt Fq ha hb
theorem ie (ha:QE X K a ta) (hb:QE X K b tb):QE X K (.BinOp a .FloorDiv b pos) (wOp fDiv ta tb):=q_op Bb Dh ha hb
theorem dH (ha:QE X K a ta) (hb:QE X K b tb):QE X K (.BinOp a .Mod b pos) (wOp fMod ta tb):=q_op Ce Fj ha hb
end
def wNil:WA:=fun _ Q=>Q []
def ak (te:WE) (t:WA):WA:=fun ρ Q=>te ρ fun m x=>t ρ fun ps=>Q ((m,x) :: ps)
def okSh:Md × D->Bool
 | (.sh,_)=>true
 | (_,d)=>d.flat
def okOw:Md × D->Bool
 | (.bo,d)=>d.flat
 | _=>true
def okFl:Md × D->Bool
 | (.ow true,_)=>true
 | (_,d)=>d.flat
def Bv (ps:List (Md × D)):Md:=bif ps.all okSh then .sh else bif ps.all okOw then .ow (ps.all okFl) else .bo
def Al (ps:List (Md × D)):Md:=bif ps.all okOw then .ow (ps.all okFl) else .bo
def wTup (t:WA):WE:=fun ρ Q=>t ρ fun ps=>ps.length<=sizeLine/\Q (Bv ps) (.tup (ps.map (·.2)))
def wLst (t:WA):WE:=fun ρ Q=>t ρ fun ps=>ps.length<=sizeLine/\Q (Al ps) (.list (ps.map (·.2)))
section
variable {X:Cx} {K:PySem.W.Frag} {e:Expr} {es:List Expr} {te:WE} {t:WA} {pos:Pos} {Hs H:Hp}
theorem aq:QA X K [] wNil:=PA.imp pa_nil fun σ H Qv hx=>ex4 hx fun Hs ρ tot Q sr h f=>f [] H Hs [] [] (Grow.refl sr.wf) .nil cV.nil h
theorem cV.app (f1:cV Hs1 H As) (o:∀ a∈As,H1 a≠none) (f2:cV Hs2 H1 Bs) (s:Same H H1) (k:∀ a,Hs1 a=none->H1 a≠none->Hs2 a=none):cV Hs2 H (As++Bs) :=
 ⟨xax.mpr ⟨f1.1,f2.1,fun a ha b hb e=>by subst e; exact o a ha (f2.2 a hb).2⟩,fun a h=>by
  rcases xak.mp h with h | h
  ·exact ⟨k a (f1.2 a h).1 (o a h),(f1.2 a h).2⟩
  ·exact ⟨(f2.2 a h).1,s.free (f2.2 a h).2⟩⟩
theorem aa (ha:QE X K e te) (hr:QA X K es t) (hs:starEach (e :: es) X.env=(false,eval e X.env) :: starEach es X.env:=by rfl):QA X K (e :: es) (ak te t):=by
 refine PA.imp (pa_cons ha hr hs) fun σ H Qv hx=>ex4 hx fun Hs ρ tot Q sr h f=>?_
 refine ⟨Hs,ρ,tot,_,sr,h,fun v H1 Hs1 m x As g1 r1 f1 q1=>⟨Hs1,ρ,tot,_,sr.grow g1,q1,fun vs H2 Hs2 ps Bs g2 r2 f2 q2=>?_⟩⟩
 exact f (v :: vs) H2 Hs2 _ _ (g1.trans g2) (.cons (r1.grow g2) r2) (f1.app (fun a h=>(r1.own a h).ne) f2 g1.all fun a h1 h2=>g2.hsn h1 h2) q2
theorem RMs.sh (w:Wf Hs H) {ps:List (Md × D)} (r:RMs K Hs H ps vs As):ps.all okSh=true->Reps K Hs (ps.map (·.2)) vs:=by
 induction r with
 | nil=>exact fun _=>.nil
 | @cons m d v ps vs As Bs r rs ih =>
  intro h
  simp only [xbE,xaC] at h
  refine .cons ?_ (ih h.2)
  cases m with
  | sh=>exact r.2
  | ow fl=>exact r.flat w h.1
  | bo=>exact r.flat w h.1
theorem RMs.ow (w:Wf Hs H) {ps:List (Md × D)} (r:RMs K Hs H ps vs As):ps.all okOw=true->(fl=true->ps.all okFl=true)->∃ Bs,Bs.Sublist As/\(ps.all okSh=false->Bs≠[])/\aA K Hs H fl (ps.map (·.2)) vs Bs:=by
 induction r with
 | nil=>exact fun _ _=>⟨[],xbN _,(fun z=>Bool.noConfusion z),.nil⟩
 | @cons m d v ps vs A1 Cs r rs ih =>
  intro h hf
  simp only [xbE,xaC] at h hf
  obtain ⟨Bs,sb,ne,q⟩:=ih h.2 fun z=>(hf z).2
  have sk:([]++Bs).Sublist (A1++Cs):=by simpa using sb.trans (xau _ _)
  have flt:d.flat=true->okSh (m,d)=true->∃ Bs,Bs.Sublist (A1++Cs)/\(((m,d) :: ps).all okSh=false->Bs≠[])/\aA K Hs H fl (((m,d) :: ps).map (·.2)) (v :: vs) Bs:=fun hd ho =>
   ⟨[]++Bs,sk,fun z=>ne (by rw [xbE,ho] at z; simpa using z),.cons (.sh (fun _=>hd) (r.flat w hd)) q⟩
  cases m with
  | sh=>exact ⟨[]++Bs,sk,fun z=>ne (by simpa [okSh] using z),.cons (.sh (fun z=>(hf z).1) r.2) q⟩
  | bo=>exact flt h.1 h.1
  | ow b =>
   cases hd:d.flat with
   | true=>exact flt hd hd
   | false =>
    refine ⟨A1++Bs,sb.append_left _,fun _ z=>r.2 (xbA.mp z).1,.cons ?_ q⟩
    cases fl with
    | false=>exact RepO.fls r.1
    | true =>
     have:=(hf rfl).1
     cases b with
     | true=>exact r.1
     | false=>simp [okFl,hd] at this
theorem uK:∀ {ps:List (Md × D)},flats (ps.map (·.2))=true->ps.all okSh=true
 | [],_=>rfl
 | (m,d) :: ps,h=>by
  simp only [xas,flats,xaC] at h
  simp only [xbE,xaC]
  exact ⟨by cases m <;> simp [okSh,h.1],uK h.2⟩
theorem cL {x1} (h:QA X K es t):QE X K (.Tuple es x1 pos) (wTup t):=by
 refine PE.imp (pe_tup h) fun σ H Qv hx=>ex4 hx fun Hs ρ tot Q sr h f=>?_
 refine ⟨Hs,ρ,tot,_,sr,h,fun vs H1 Hs1 ps As g1 r1 f1 q1=>?_⟩
 obtain ⟨hz,q⟩:=q1
 have rl:=(r1.reps g1.wf)
 have hl:=rl.length
 rw [xac] at hl
 refine ⟨by lia,fun p hp=>?_⟩
 have g2:=newT (vs:=vs) g1.wf hp
 have fin:=Fin.after f g1
 unfold Bv at q
 cases h1:ps.all okSh with
 | true =>
  rw [h1] at q
  exact fin _ _ _ .sh _ [] g2 ⟨rfl,.tup (by lia) upd_same ((r1.sh g1.wf h1).same g2.sh)⟩ cV.nil q
 | false =>
  rw [h1] at q
  cases h2:ps.all okOw with
  | false =>
   rw [h2] at q
   exact fin _ _ _ .bo _ [] g2 ⟨rfl,.tup (by lia) upd_same (rl.same g2.all)⟩ cV.nil q
  | true =>
   rw [h2] at q
   obtain ⟨Bs,sb,nz,ro⟩:=r1.ow (fl:=ps.all okFl) g1.wf h2 fun z=>z
   have hne:flats (ps.map (·.2))=false:=by
    cases hf:flats (ps.map (·.2)) with
    | false=>rfl
    | true=>rw [uK hf] at h1; cases h1
   have own:=ro.own
   refine f _ _ _ (.ow _) _ Bs (g1.trans g2) ⟨.tup (by lia) upd_same hne (ro.grow g2.sh g2.all),nz h1⟩ ⟨sb.nodup f1.1,fun a ha=>⟨?_,(f1.2 a (sb.subset ha)).2⟩⟩ q
   exact g2.hsn (f1.2 a (sb.subset ha)).1 (own a ha).ne
theorem fH (h:QA X K es t):QE X K (.List es pos) (wLst t):=by
 refine PE.imp (pe_lst h) fun σ H Qv hx=>ex4 hx fun Hs ρ tot Q sr h f=>?_
 refine ⟨Hs,ρ,tot,_,sr,h,fun vs H1 Hs1 ps As g1 r1 f1 q1=>?_⟩
 obtain ⟨hz,q⟩:=q1
 have rl:=(r1.reps g1.wf)
 have hl:=rl.length
 rw [xac] at hl
 refine ⟨by lia,fun p hp=>?_⟩
 have g2:=newL (o:=.lst vs) g1.wf hp fun _ z=>nomatch z
 have fin:=Fin.after f g1
 unfold Al at q
 cases h2:ps.all okOw with
 | false =>
  rw [h2] at q
  exact fin _ _ _ .bo _ [] g2 ⟨rfl,.list (by lia) (.inl (.inl upd_same)) (rl.same g2.all)⟩ cV.nil q
 | true =>
  rw [h2] at q
  obtain ⟨Bs,sb,nz,ro⟩:=r1.ow (fl:=ps.all okFl) g1.wf h2 fun z=>z
  have own:=ro.own
  refine f _ _ _ (.ow _) _ (p :: Bs) (g1.trans g2) ⟨.list (by lia) upd_same (ro.grow g2.sh g2.all),by simp⟩ ⟨xaO.mpr ⟨fun m=>(own p m).ne hp,sb.nodup f1.1⟩,fun a ha=>?_⟩ q
  rcases xaj.mp ha with rfl | ha
  ·exact ⟨g1.wf.sub.free hp,g1.all.free hp⟩
  ·exact ⟨g2.hsn (f1.2 a (sb.subset ha)).1 (own a ha).ne,(f1.2 a (sb.subset ha)).2⟩
end
theorem Reps.atI {K:PySem.W.Frag} (r:Reps K H ds vs) (h:atI ds i=some d):∃ v,L2.atI vs i=some v/\Rep K H d v:=by
 unfold L2.atI at *
 rw [<- r.length]
 cases e:ixN ds.length i with
 | none=>rw [e] at h; cases h
 | some j =>
  rw [e] at h
  exact r.get h
def fIx:W2:=fun m x _ y Q=>match x with
 | .list xs=>match y with
  | .int i=>∃ d,atI xs i=some d/\onK d (f:=fun d=>Q (itm m d) d) ⟨⟩
  | _=>False
 | .tup xs=>match y with
  | .int i=>∃ d,atI xs i=some d/\onK d (f:=fun d=>Q (itm m d) d) ⟨⟩
  | _=>False
 | .str z=>match y with
  | .int i=>∃ c,atI z.cps.toList i=some c/\Q .sh (.str ⟨#[c]⟩)
  | _=>False
 | .dK kvs=>∃ k d,y.key1=some k/\getG kvs k=some d/\onK d (f:=fun d=>Q (itm m d) d) ⟨⟩
 | .dT kvs=>match y with
  | .tup ys=>∃ ks d,mF ys=some ks/\getG kvs ks=some d/\onK d (f:=fun d=>Q (itm m d) d) ⟨⟩
  | _=>False
 | _=>False
def rIxD (K:PySem.W.Frag):R2:=fun x y H Q=>rIxU K x y H Q\/∃ a v,x=.ref a/\DGet H a y (some v)/\Q v H
theorem xZ (c:Nat):(⟨#[c]⟩:Str).length<=sizeLine:=by show 1<=sizeLine; decide
theorem RM.here {K:PySem.W.Frag} (w:Wf Hs H) (r:RM K Hs H m d v As):(m=.sh/\Rep K Hs d v)\/(m≠.sh/\Rep K H d v):=by
 cases m with
 | sh=>exact .inl ⟨rfl,r.2⟩
 | ow fl=>exact .inr ⟨(fun z=>nomatch z),r.rep w⟩
 | bo=>exact .inr ⟨(fun z=>nomatch z),r.2⟩
section
variable {X:Cx} {K:PySem.W.Frag}
theorem Hk:Br2 K (rIxD K) fIx:=by
 intro Hs H m x v As n y u Bs Qd Qv w rx ry h f
 have r2:=ry.rep w
 have core:∀ G:Hp,Same G H->(∀ d v,Rep K G d v->Rep K H d v/\(m=.sh->Rep K Hs d v))->Rep K G x v->rIxD K v u H Qv:=by
  intro G sg up r1
  cases r1 with
  | list z s q =>
   cases r2 with
   | int i =>
    obtain ⟨d,e,h⟩:=h
    obtain ⟨v',e',r'⟩:=q.atI e
    obtain ⟨u1,u2⟩:=up _ _ r'
    exact .inl (.inl ⟨_,v',Same.seq sg s,e',f.itm w u1 u2 h⟩)
   | _=>exact h.elim
  | tup _ s q =>
   cases r2 with
   | int i =>
    obtain ⟨d,e,h⟩:=h
    obtain ⟨v',e',r'⟩:=q.atI e
    obtain ⟨u1,u2⟩:=up _ _ r'
    exact .inl (.inr ⟨_,v',.inl (.inl (sg _ _ s)),e',f.itm w u1 u2 h⟩)
   | _=>exact h.elim
  | str hz =>
   cases r2 with
   | int i =>
    obtain ⟨c,e,h⟩:=h
    exact .inl ⟨hz,c,e,f.sh w (.str (xZ c)) h⟩
   | _=>exact h.elim
  | dK kk s q =>
   obtain ⟨k,d,hk,hg,h⟩:=h
   have ev:=r2.key hk
   subst ev
   have z:=zip_get (k:=k) q
   rw [hg] at z
   obtain ⟨v',e',r'⟩:=z
   obtain ⟨u1,u2⟩:=up _ _ r'
   exact .inr ⟨_,v',rfl,by rw [<- e']; exact DGet.k' (Same.rd sg s),f.itm w u1 u2 h⟩
  | dT kk s q =>
   cases r2 with
   | tup t2 e2 q2 =>
    obtain ⟨ks,d,hk,hg,h⟩:=h
    obtain ⟨b,eb,e3⟩:=Rep.keyT (.tup t2 e2 q2) hk
    cases eb
    have z:=zip_get (k:=ks) q
    rw [hg] at z
    obtain ⟨v',e',r'⟩:=z
    obtain ⟨u1,u2⟩:=up _ _ r'
    exact .inr ⟨_,v',rfl,by rw [<- e']; exact DGet.t' (Same.rd sg s) e3,f.itm w u1 u2 h⟩
   | _=>exact h.elim
  | _=>exact h.elim
 rcases rx.here w with ⟨hm,r⟩ | ⟨hm,r⟩
 ·exact core Hs w.sub (fun d v q=>And.intro (q.same w.sub) fun _=>q) r
 ·exact core H (Same.refl H) (fun d v q=>And.intro q fun z=>absurd z hm) r
theorem kIxD (hu:X.A.units+64<cLine) (hK:X.K=K:=by rfl):IxR X (rIxD K):=by
 subst hK
 refine IxR.or Dw ?_
 intro value slice pins s σ H x y v u Q I rx ry h hs
 obtain ⟨a,w,rfl,g,q⟩:=h
 cases rx
 exact tail_any (dict_typeIs I g) F.slot_dict_getitem.lookup (d_getItem (by lia) I g ry fun w' s3 I3 rw'=>⟨w,H,I3,rw',q⟩) hs
variable {a b:Expr} {ta tb:WE} {pos:Pos}
theorem q_ix (hu:X.A.units+64<cLine) (ha:QE X K a ta) (hb:QE X K b tb) (hs:PlainIx b:=by exact fun _ _=>rfl) (hK:X.K=K:=by rfl):QE X K (.Subscript a b pos) (wOp fIx ta tb):=PE.imp (pe_ix (kIxD hu hK) ha hb hs) (oY Hk)
end
def cutG {α:Type} (xs:List α) (lo hi:Option Int):List α:=(xs.drop (HT.sIx xs.length 0 lo)).take (HT.sIx xs.length xs.length hi - HT.sIx xs.length 0 lo)
abbrev WO:=Env->(Option Int->Prop)->Prop
def gF:WO:=fun _ Q=>Q none
def jU (t:WE):WO:=fun ρ Q=>t ρ fun _ x=>match x with
 | .int i=>Q (some i)
 | _=>False
def fSl (m:Md) (x:D) (lo hi:Option Int) (Q:Md->D->Prop):Prop:=match x with
 | .str z=>Q .sh (.str (cutS z lo hi))
 | .list xs=>(flats xs=true/\Q (.ow true) (.list (cutG xs lo hi)))\/(m=.sh/\Q (.ow false) (.list (cutG xs lo hi)))
 | .tup xs=>flats xs=true/\¬ (HT.sIx xs.length 0 lo=0/\HT.sIx xs.length xs.length hi=xs.length)/\Q .sh (.tup (cutG xs lo hi))
 | _=>False
def wSl (te:WE) (tl th:WO):WE:=fun ρ Q=>te ρ fun m x=>tl ρ fun lo=>th ρ fun hi=>fSl m x lo hi Q
def tpO (K:PySem.W.Frag) (t:WO):TO:=fun σ H Qv=>∃ Hs ρ tot Q,SRel K Hs ρ σ H tot/\t ρ Q/\∀ o H' Hs',Grow Hs H Hs' H'->Q o->Qv o H'
abbrev QO (X:Cx) (K:PySem.W.Frag) (e:Option Expr) (t:WO):Prop:=PO X e (tpO K t)
theorem zc (z:Str) (lo hi:Option Int):(cutS z lo hi).length<=z.length:=by
 unfold cutS Str.length
 simp only [xan,xat,xa4,xaK]
 lia
theorem oh {α:Type} (xs:List α) (lo hi:Option Int):(cutG xs lo hi).length<=xs.length:=by
 unfold cutG
 rw [xat,xa4]
 lia
theorem qU {lo hi:Option Int} (h:flats xs=true):flats (cutG xs lo hi)=true:=by
 rw [lu] at *
 intro x hx
 exact h x (xbI (xbJ hx))
section
variable {X:Cx} {K:PySem.W.Frag} {e:Expr} {lo hi:Option Expr} {te:WE} {tl th:WO} {pos p2:Pos}
theorem jO:QO X K none gF:=fun pins s σ H Q I h=>po_none pins s σ H Q I (by
 obtain ⟨Hs,ρ,tot,Qd,sr,h,f⟩:=h
 exact f none H Hs (Grow.refl sr.wf) h)
theorem fQ (h:QE X K e te):QO X K (some e) (jU te):=fun pins s σ H Q I hh=>po_some h pins s σ H Q I (by
 obtain ⟨Hs,ρ,tot,Qd,sr,h,f⟩:=hh
 refine ⟨Hs,ρ,tot,_,sr,h,fun v H1 Hs1 m x As g1 r1 f1 q1=>?_⟩
 have r:=r1.rep g1.wf
 cases r with
 | int i=>exact ⟨i,rfl,f _ H1 Hs1 g1 q1⟩
 | _=>exact q1.elim)
theorem jR {lo hi:Option Int} (r:Reps K H ds vs):Reps K H (cutG ds lo hi) (cutV vs lo hi):=by
 unfold cutG cutV
 rw [r.length]
 exact (r.drop _).take _
theorem kSl2 (hK:X.K=K:=by rfl):SlR X (fun x lo hi H Q=>rSlS K x lo hi H Q\/rSlT K x lo hi H Q):=by
 subst hK
 intro pins s σ H x v vl vu lo hi sl Q I rx hs pl pu h
 rcases h with h | h
 ·exact Dn pins s σ H x v vl vu lo hi sl Q I rx hs pl pu h
 ·exact sl_tup pins s σ H x v vl vu lo hi sl Q I rx hs pl pu h
theorem kh (he:QE X K e te) (hl:QO X K lo tl) (hh:QO X K hi th) (hK:X.K=K:=by rfl):QE X K (.Subscript e (.Slice lo hi none p2) pos) (wSl te tl th):=by
 refine PE.imp (pe_slice (kSl2 hK) he hl hh) fun σ H Qv hx=>ex4 hx fun Hs ρ tot Q sr h f=>?_
 refine ⟨Hs,ρ,tot,_,sr,h,fun v H1 Hs1 m x As g1 r1 f1 q1=>⟨Hs1,ρ,tot,_,sr.grow g1,q1,fun l H2 Hs2 g2 q2=>⟨Hs2,ρ,tot,_,(sr.grow g1).grow g2,q2,fun u H3 Hs3 g3 q3=>?_⟩⟩⟩
 have r3:=(r1.grow g2).grow g3
 have fin:Fin K Hs3 H3 Q Qv:=Fin.after f ((g1.trans g2).trans g3)
 have rr:=r3.rep g3.wf
 cases rr with
 | str hz=>exact .inl ⟨hz,fin.sh g3.wf (.str (xaB (zc _ _ _) hz)) q3⟩
 | list z s q =>
  have hz:=q.length
  rcases q3 with ⟨hf,q3⟩ | ⟨rfl,q3⟩
  ·exact .inl ⟨_,s,fin.lst g3.wf (xaB (oh _ _ _) (by lia)) (jR q) (qU hf) q3⟩
  ·obtain ⟨_,r3⟩:=r3
   cases r3 with
   | list z' s' q' =>
    have hz:=q'.length
    exact .inl ⟨_,Same.seq g3.wf.sub s',fin.lstS g3.wf (xaB (oh _ _ _) (by lia)) (jR q') q3⟩
 | tup z s q =>
  have hz:=q.length
  obtain ⟨hf,hn,q3⟩:=q3
  exact .inr ⟨_,_,rfl,.inl (.inl s),by rw [<- hz]; exact hn,fin.tup g3.wf (xaB (oh _ _ _) (by lia)) (jR q) (qU hf) q3⟩
 | _=>exact q3.elim
end
def fLen:W1:=fun _ x Q=>match x with
 | .str z=>Q .sh (.int z.length)
 | .list xs=>Q .sh (.int xs.length)
 | .tup xs=>Q .sh (.int xs.length)
 | .dK kvs=>Q .sh (.int kvs.length)
 | .dT kvs=>Q .sh (.int kvs.length)
 | _=>False
def fIsi (T:String):W1:=fun _ x Q=>Q .sh (.bl (isiT x.ty T))
def BrC (K:PySem.W.Frag) (r:List V->Hp->VK->Prop) (f:W1):Prop:=∀ Hs H m x v As Qd Qv,Wf Hs H->RM K Hs H m x v As->f m x Qd->Fin K Hs H Qd Qv->r [v] H Qv
section
variable {X:Cx} {K:PySem.W.Frag} {e:Expr} {te:WE} {pos p:Pos} {x:Str} {id T:String}
theorem m_ (br:BrC K r f) (σ:St) (H:Hp) (Qv:VK) (h:tpE K (wUn f te) σ H Qv):tCB r (tCons (tpE K te) tNil) σ H Qv:=by
 obtain ⟨Hs,ρ,tot,Q,sr,h,fin⟩:=h
 exact ⟨Hs,ρ,tot,_,sr,h,fun v H1 Hs1 m x As g1 r1 f1 q1=>br Hs1 H1 m x v As Q Qv g1.wf r1 q1 (Fin.after fin g1)⟩
theorem cP (hc:CallR X (.builtin id) r) (br:BrC K r f) (hg:Gl X x) (hm:X.mg x=none) (hv:bootBuiltins x=some (.builtin id)) (he:QE X K e te)
  (hs:starEach [e] X.env=(false,eval e X.env) :: starEach [] X.env:=by rfl) (hn:x ≠ "__name__" := by decide) (hdb:(x == ("__debug__" : Str))=false:=by decide):QE X K (.Call (.Name x p) [e] [] pos) (wUn f te) :=
 PE.imp (pe_callB hc hg hm hv (pa_cons he pa_nil hs) hn hdb hs) (m_ br)
theorem nW (hc:CallR X (.type T) r) (br:BrC K r f) (hg:Gl X x) (hm:X.mg x=none) (hv:bootBuiltins x=some (.type T)) (he:QE X K e te)
  (hs:starEach [e] X.env=(false,eval e X.env) :: starEach [] X.env:=by rfl) (hn:x ≠ "__name__" := by decide) (hdb:(x == ("__debug__" : Str))=false:=by decide):QE X K (.Call (.Name x p) [e] [] pos) (wUn f te) :=
 PE.imp (pe_callTy hc hg hm hv (pa_cons he pa_nil hs) hn hdb hs) (m_ br)
theorem Aj (hd:(d == sysModules)=false) (x:RawD s.heap d es ep) (hfit:(es.size:Int)<2 ^ 63)
  (h:∀ t t',Q (.int es.size t) { s with toks:=t' }):wpAny (model prog w) A (call (.builtin "len") [.ref d]) Q E s:=by
 refine Calls.call_function_entry kind_len plain_len entry_len (args_len1 _) ?_
 have mt:MeetsIn prog w (Builtin.«dict.__len__» ⟨[.ref d],[]⟩) (fun _ R s=>RawD s.heap d es ep/\R (.ok (.ret (.int es.size s.toks))) { s with toks:=s.toks+1 }):=.of_wp fun A R s hx9=>by
  obtain ⟨hm,h⟩:=hx9
  obtain ⟨o,ho,hc,hdat⟩:=hm
  show wpAny _ _ (dictSize d >>= _) _ _ s
  unfold dictSize
  refine xaa (xaa (wpAny_dictEntries ho hdat (xab ?_)))
  show wpAny _ _ (Builtin.Dict.pendingCount d >>= _) _ _ s
  refine xaa (wpAny_pendingCount_other hd ?_)
  refine wpAny_ret_mkInt ?_
  rw [xbY]; exact h
 unfold Builtin.«len»
 refine xaa (m:=oneArg "len" _) (xab ?_)
 refine xaa (m:=callSpecial? (.ref d) (Str.ofString "__len__")) (wpAny_callSpecial?_slot (name:=Str.ofString "__len__") x.typ F.slot_dict_len
  (call_meetsIn F.slot_dict_len x.typ F.entry_dict_len (F.args_dict_len_1 _) mt ⟨x,?_⟩))
 show wpAny _ _ _ _ _ { s with toks:=s.toks+1 }
 refine xaa (wpAny_holding (xab ?_))
 refine xaa (wpAny_letGo ?_)
 show wpAny _ _ (if ((es.size:Nat):Int)<0 then _ else _) _ _ _
 rw [if_neg (by lia)]
 show wpAny _ _ (if ((es.size:Nat):Int) >= 2 ^ 63 then _ else _) _ _ _
 rw [if_neg (by lia)]
 exact xaa (wpAny_mkInt (xab ⟨_,rfl,h _ _⟩))
theorem bj (hK:X.K=K:=by rfl):CallR X (.builtin "len") (fun xs H Q=>rLen K xs H Q\/∃ a kvs,xs=[.ref a]/\Rd H a (.dT kvs)/\Q (.int kvs.length) H):=by
 subst hK
 intro pins s σ H xs us Q I r h
 rcases h with h | ⟨a,kvs,rfl,ha,q⟩
 ·exact xj pins s σ H xs us Q I r h
 ·obtain ⟨u,rfl,ru⟩:=Vals.one r
  cases ru
  obtain ⟨z,hd,ys,rel,o,es,ep,h1,h2,h3,h4,h5⟩:=(show ObjOk X.prog X.w H s.heap a (.dT kvs) from I.rd ha)
  have hl:es.size=kvs.length:=by
   have:=congrArg List.length h4
   rw [xaK,xac] at this
   rw [this]; exact rel.length.symm
  exact Aj hd ⟨o,h1,h2,h3⟩ (by rw [sizeLine_eq] at z; lia) fun t t'=>⟨.int kvs.length,H,I.tok _,⟨t,by rw [hl]⟩,q⟩
theorem fZ:BrC K (fun xs H Q=>rLen K xs H Q\/∃ a kvs,xs=[.ref a]/\Rd H a (.dT kvs)/\Q (.int kvs.length) H) fLen:=by
 intro Hs H m x v As Qd Qv w rx h f
 have r1:=rx.rep w
 cases r1 with
 | str hz=>exact .inl ⟨hz,f.sh w (.int _) h⟩
 | list z s q=>exact .inl (.inl ⟨_,s,by rw [<- q.length]; exact f.sh w (.int _) h⟩)
 | tup _ s q=>exact .inl (.inr (.inl ⟨_,.inl (.inl s),by rw [<- q.length]; exact f.sh w (.int _) h⟩))
 | dK kk s q=>exact .inl (.inr (.inr ⟨_,s,by
   have:=q.length
   rw [xac] at this
   rw [List.length_zip,xac,<- this,Nat.min_self]
   exact f.sh w (.int _) h⟩))
 | dT kk s q=>exact .inr ⟨_,_,rfl,s,by
   have:=q.length
   rw [xac] at this
   rw [List.length_zip,xac,<- this,Nat.min_self]
   exact f.sh w (.int _) h⟩
 | _=>exact h.elim
end
section
variable {X:Cx} {K:PySem.W.Frag} {e e2:Expr} {te:WE} {pos p:Pos} {T:String}
theorem xV (hK:X.K=K:=by rfl):CallR X (.builtin "isinstance") (fun xs H Q=>∃ x d T,xs=[x,.ty T]/\Rep K H d x/\okTy T=true/\Q (.bl (isiT d.ty T)) H):=by
 subst hK
 intro pins s σ H xs us Q I r h
 obtain ⟨x,d,T,rfl,rd,hT,q⟩:=h
 obtain ⟨u,v,rfl,ru,rv⟩:=Vals.two r
 obtain rfl:v=Value.type T:=rv
 have hb:T∈["str", "int", "bool", "list", "tuple", "dict"]:=by simpa [okTy] using hT
 have fin:∀ tk,EP X pins σ Q (.bool (isiT d.ty T)) { s with toks:=tk }:=fun tk=>⟨.bl (isiT d.ty T),H,I.tok tk,rfl,q⟩
 cases rd with
 | non=>exact isinst_ok I ru .non (ji X.K _ T (by simp) hb) fin
 | bl b=>exact isinst_ok I ru (.bl b) (ji X.K _ T (by simp) hb) fin
 | int i=>exact isinst_ok I ru (.int i) (ji X.K _ T (by simp) hb) fin
 | str y=>exact isinst_ok I ru (.str _) (ji X.K _ T (by simp) hb) fin
 | list z s' q' =>
  cases ru
  obtain ⟨its,_,pl,_⟩:=I.list s'
  obtain ⟨o,h1,h2,_⟩:=pl.isList
  exact PySem.W.kia_one PySem.W.kitx_list I.kIn ⟨o,h1,h2⟩ (ji X.K "list" T (by simp) hb) (fun z=>nomatch z) fin
 | tup _ s' q'=>exact isinst_ok I ru (.tup s') (ji X.K _ T (by simp) hb) fin
 | dK _ s' q' =>
  cases ru
  obtain ⟨_,_,vs,_,p⟩:=I.rd s'
  obtain ⟨o,es,ep,h1,h2,_⟩:=p
  exact PySem.W.kia_one PySem.W.kitx_dict I.kIn ⟨o,h1,h2.1⟩ (ji X.K "dict" T (by simp) hb) (fun z=>nomatch z) fin
 | dT _ s' q' =>
  cases ru
  obtain ⟨_,_,xs,_,o,es,ep,h1,h2,_⟩:=I.rd s'
  exact PySem.W.kia_one PySem.W.kitx_dict I.kIn ⟨o,h1,h2.1⟩ (ji X.K "dict" T (by simp) hb) (fun z=>nomatch z) fin
theorem rP (hm:X.mg "isinstance" = none) (he:QE X K e te) (ht:PE X e2 (tC (.ty T))) (hT:okTy T=true:=by rfl) (hg:Gl X "isinstance" := by rfl) (hK:X.K=K:=by rfl)
  (hs:starEach (e :: [e2]) X.env=(false,eval e X.env) :: starEach [e2] X.env:=by rfl) (hs2:starEach (e2 :: []) X.env=(false,eval e2 X.env) :: starEach [] X.env:=by rfl) (hpl:(backTo pos (starEach [e2] X.env)).any (·.1)=false:=by rfl) :
  QE X K (.Call (.Name "isinstance" p) [e,e2] [] pos) (wUn (fIsi T) te):=by
 refine PE.imp (pe_callB (xV hK) hg hm pq (pa_cons he (pa_cons ht pa_nil hs2) hs) (by decide) (by decide) hs hpl) fun σ H Qv hx=>ex4 hx fun Hs ρ tot Q sr h f=>?_
 refine ⟨Hs,ρ,tot,_,sr,h,fun v H1 Hs1 m x As g1 r1 f1 q1=>⟨v,x,T,rfl,r1.rep g1.wf,hT,Fin.sh (Fin.after f g1) g1.wf (.bl _) q1⟩⟩
end
def keyD:Key->D
 | .inl i=>.int i
 | .inr x=>.str x
def rZ:W1:=fun m x Q=>match x with
 | .list xs=>(flats xs=true/\Q (.ow true) (.list xs))\/(m=.sh/\Q (.ow false) (.list xs))
 | .tup xs=>(flats xs=true/\Q (.ow true) (.list xs))\/(m=.sh/\Q (.ow false) (.list xs))
 | .dT kvs=>Q (.ow true) (.list (kvs.map fun kv=>.tup (kv.1.map keyD)))
 | _=>False
section
variable {X:Cx} {K:PySem.W.Frag}
theorem oU:∀ {ks:List Key},(∀ k∈ks,kOk k=true)->Reps K H (ks.map keyD) (ks.map kV)
 | [],_=>.nil
 | k :: ks,h=>by
  refine .cons ?_ (oU fun j m=>h j (xaf _ m))
  have:=h k xah
  cases k with
  | inl i=>exact .int i
  | inr x=>exact .str (by simpa [kOk] using this)
theorem lF:∀ (ks:List Key),flats (ks.map keyD)=true
 | []=>rfl
 | k :: ks=>by simp only [xas,flats,lF ks,Bool.and_true]; cases k <;> rfl
theorem nQ (t:cz H ys ks) (h:∀ l∈ks,l.length<=sizeLine/\∀ k∈l,kOk k=true):Reps K H (ks.map fun l=>.tup (l.map keyD)) ys:=by
 induction ys generalizing ks with
 | nil=>rw [show ks=[] from Paired.n0 t]; exact .nil
 | cons y ys ih =>
  obtain ⟨k,ks,rfl,⟨b,rfl,e⟩,t2⟩:=Paired.c t
  exact .cons (.tup (by rw [xac]; exact (h _ xah).1) e (oU (h _ xah).2)) (ih t2 fun l m=>h l (xaf _ m))
theorem iy:∀ (ks:List (List Key)),flats (ks.map fun l=>.tup (l.map keyD))=true
 | []=>rfl
 | l :: ks=>by simp only [xas,flats,iy ks,Bool.and_true,D.flat,lF]
theorem jg (hc:X.calm=true:=by rfl) (hK:X.K=K:=by rfl):CallR X (.type "list") (fun xs H Q=>(∃ p ys,xs=[.ref p]/\(SqL K H p ys\/SqT K H p ys)/\∀ l,H l=none->Q (.ref l) (upd H l (.lst ys)))\/uE xs H Q):=by
 subst hK; exact call_list_of.or (vf hc)
theorem rQ:BrC K (fun xs H Q=>(∃ p ys,xs=[.ref p]/\(SqL K H p ys\/SqT K H p ys)/\∀ l,H l=none->Q (.ref l) (upd H l (.lst ys)))\/uE xs H Q) rZ:=by
 intro Hs H m x v As Qd Qv w rx h f
 have r1:=rx.rep w
 cases r1 with
 | list z s q =>
  have hl:=q.length
  rcases h with ⟨hf,h⟩ | ⟨rfl,h⟩
  ·exact .inl ⟨_,_,rfl,.inl s,f.lst w (by lia) q hf h⟩
  ·obtain ⟨_,rx⟩:=rx
   cases rx with
   | list z' s' q' =>
    have hl:=q'.length
    exact .inl ⟨_,_,rfl,.inl (Same.seq w.sub s'),f.lstS w (by lia) q' h⟩
 | tup z s q =>
  have hl:=q.length
  rcases h with ⟨hf,h⟩ | ⟨rfl,h⟩
  ·exact .inl ⟨_,_,rfl,.inr (.inl (.inl s)),f.lst w (by lia) q hf h⟩
  ·obtain ⟨_,rx⟩:=rx
   cases rx with
   | tup z' s' q' =>
    have hl:=q'.length
    exact .inl ⟨_,_,rfl,.inr (.inl (.inl (w.sub _ _ s'))),f.lstS w (by lia) q' h⟩
 | @dT _ vs kvs kk s q =>
  refine .inr ⟨_,s,fun ys l ht hl=>?_⟩
  have hlen:=q.length
  rw [xac] at hlen
  have e:((kvs.map (·.1)).zip vs).map (·.1)=kvs.map (·.1):=List.map_fst_zip (by rw [xac]; exact xcO hlen)
  rw [e] at ht
  have rr:=nQ (K:=K) ht (fun l m=>by
   obtain ⟨p,hp,rfl⟩:=xai.mp m
   exact kk.2 p hp)
  have ff:=iy (kvs.map (·.1))
  rw [xaw] at rr ff
  exact f.lst w (by rw [xac]; exact kk.1) rr ff h l hl
 | _=>exact h.elim
end
section
variable {K:PySem.W.Frag} {Hs H:Hp}
theorem SR.zT (r:Rep K Hs d v) (i:Nat) (s:SR K Hs H ρ σ tot):∃ tot',tot'.Sublist tot/\SR K Hs H (ρ.set i (some (.sh d))) (σ.set i (some v)) tot':=by
 induction s generalizing i with
 | nil=>exact ⟨[],xbN _,.nil⟩
 | non s ih =>
  cases i with
  | zero=>exact ⟨_,List.Sublist.refl _,.sh r s⟩
  | succ i=>obtain ⟨t,a,b⟩:=ih i; exact ⟨t,a,.non b⟩
 | sh q s ih =>
  cases i with
  | zero=>exact ⟨_,List.Sublist.refl _,.sh r s⟩
  | succ i=>obtain ⟨t,a,b⟩:=ih i; exact ⟨t,a,.sh q b⟩
 | xc s ih =>
  cases i with
  | zero=>exact ⟨_,List.Sublist.refl _,.sh r s⟩
  | succ i=>obtain ⟨t,a,b⟩:=ih i; exact ⟨t,a,.xc b⟩
 | ow ne q s ih =>
  cases i with
  | zero=>exact ⟨_,xau _ _,.sh r s⟩
  | succ i=>obtain ⟨t,a,b⟩:=ih i; exact ⟨_,a.append_left _,.ow ne q b⟩
 | lk ne q s ih =>
  cases i with
  | zero=>exact ⟨_,xau _ _,.sh r s⟩
  | succ i=>obtain ⟨t,a,b⟩:=ih i; exact ⟨_,a.append_left _,.lk ne q b⟩
theorem qT {As tot:List Addr} (nd:As.Nodup) (n:tot.Nodup) (dj:∀ a∈As,a∉tot):(As++tot).Nodup:=xax.mpr ⟨nd,n,fun a ha b hb e=>dj a ha (e ▸ hb)⟩
theorem gj {As tot B t:List Addr} (n:(B++tot).Nodup) (dj:∀ a∈As,a∉B++tot) (a:t.Nodup) (b:∀ x∈t,x∈tot\/x∈As):(B++t).Nodup/\∀ x∈B++t,x∈B++tot\/x∈As:=by
 obtain ⟨n1,n2,n3⟩:=xax.mp n
 refine ⟨xax.mpr ⟨n1,a,fun x hx y hy e=>?_⟩,fun x hx=>?_⟩
 ·subst e
  rcases b x hy with z | z
  ·exact n3 x hx x z rfl
  ·exact dj x z (xav _ hx)
 ·rcases xak.mp hx with z | z
  ·exact .inl (xav _ z)
  ·exact (b x z).imp (fun z=>xag _ z) fun z=>z
theorem SR.Fw {d:D} {v:V} {fl:Bool} {As:List Addr} (ne:As≠[]) (r:RepO K Hs H fl d v As) (nd:As.Nodup) {ρ:Env} {σ:St} {tot:List Addr} (i:Nat) (s:SR K Hs H ρ σ tot):tot.Nodup->(∀ a∈As,a∉tot) ->
  ∃ tot',tot'.Nodup/\(∀ a∈tot',a∈tot\/a∈As)/\SR K Hs H (ρ.set i (some (.ow fl d))) (σ.set i (some v)) tot':=by
 induction s generalizing i with
 | nil=>exact fun n _=>⟨[],xaX,(fun a h=>mem0 h),.nil⟩
 | non s ih =>
  intro n dj
  cases i with
  | zero=>exact ⟨_,qT nd n dj,fun a h=>(xak.mp h).symm,.ow ne r s⟩
  | succ i=>obtain ⟨t,a,b,c⟩:=ih i n dj; exact ⟨t,a,b,.non c⟩
 | sh q s ih =>
  intro n dj
  cases i with
  | zero=>exact ⟨_,qT nd n dj,fun a h=>(xak.mp h).symm,.ow ne r s⟩
  | succ i=>obtain ⟨t,a,b,c⟩:=ih i n dj; exact ⟨t,a,b,.sh q c⟩
 | xc s ih =>
  intro n dj
  cases i with
  | zero=>exact ⟨_,qT nd n dj,fun a h=>(xak.mp h).symm,.ow ne r s⟩
  | succ i=>obtain ⟨t,a,b,c⟩:=ih i n dj; exact ⟨t,a,b,.xc c⟩
 | ow ne' q s ih =>
  intro n dj
  obtain ⟨n1,n2,n3⟩:=xax.mp n
  have dj':=fun a ha m=>dj a ha (xag _ m)
  cases i with
  | zero=>exact ⟨_,qT nd n2 dj',fun a h=>(xak.mp h).symm.imp (fun z=>xag _ z) fun z=>z,.ow ne r s⟩
  | succ i=>obtain ⟨t,a,b,c⟩:=ih i n2 dj'; exact ⟨_,(gj n dj a b).1,(gj n dj a b).2,.ow ne' q c⟩
 | lk ne' q s ih =>
  intro n dj
  obtain ⟨n1,n2,n3⟩:=xax.mp n
  have dj':=fun a ha m=>dj a ha (xag _ m)
  cases i with
  | zero=>exact ⟨_,qT nd n2 dj',fun a h=>(xak.mp h).symm.imp (fun z=>xag _ z) fun z=>z,.ow ne r s⟩
  | succ i=>obtain ⟨t,a,b,c⟩:=ih i n2 dj'; exact ⟨_,(gj n dj a b).1,(gj n dj a b).2,.lk ne' q c⟩
def asg:Md->D->Option Sl
 | .sh,d=>some (.sh d)
 | .ow fl,d=>some (.ow fl d)
 | .bo,d=>bif d.flat then some (.sh d) else none
theorem SRel.set (i:Nat) (s:SRel K Hs ρ σ H tot) (r:RM K Hs H m d v As) (nd:As.Nodup) (dj:∀ a∈As,Hs a=none/\a∉tot) (e:asg m d=some sl) :
  ∃ tot',SRel K Hs (ρ.set i (some sl)) (σ.set i (some v)) H tot':=by
 have shc:Rep K Hs d v->∃ tot',SRel K Hs (ρ.set i (some (.sh d))) (σ.set i (some v)) H tot':=fun r=>by
  obtain ⟨t,a,b⟩:=s.sr.zT r i
  exact ⟨t,b,s.wf,a.nodup s.nod,fun x hx=>s.own x (a.subset hx)⟩
 cases m with
 | sh=>cases e; exact shc r.2
 | ow fl =>
  cases e
  obtain ⟨t,a,b,c⟩:=SR.Fw r.2 r.1 nd i s.sr s.nod fun a ha=>(dj a ha).2
  exact ⟨t,c,s.wf,a,fun x hx=>(b x hx).elim (s.own x) fun z=>(dj x z).1⟩
 | bo =>
  cases hf:d.flat with
  | true =>
   simp only [asg,hf,cond_true,Option.some.injEq] at e
   subst e
   exact shc (r.flat s.wf hf)
  | false=>simp [asg,hf] at e
end
section
variable {X:Cx} {K:PySem.W.Frag} {e c:Expr} {te:WE} {tc:WT} {pos:Pos} {st:Stmt} {a b rest:List Stmt} {t u:WS}
theorem PS.imp {te te':TS} (h:PS X st te) (i:∀ D σ H,te' D σ H->te D σ H):PS X st te':=fun pins s σ H D I q=>h pins s σ H D I (i D σ H q)
theorem PSs.imp {te te':TS} (h:PSs X a te) (i:∀ D σ H,te' D σ H->te D σ H):PSs X a te':=fun pins s σ H D I q=>h pins s σ H D I (i D σ H q)
def cF:WS:=fun E ρ=>E.nx ρ
def wSeq (t u:WS):WS:=fun E ρ=>t { E with nx:=u E } ρ
def wRet (te:WE):WS:=fun E ρ=>te ρ E.rt
def wSet (i:Nat) (te:WE):WS:=fun E ρ=>te ρ fun m d=>match asg m d with
 | some sl=>E.nx (ρ.set i (some sl))
 | none=>False
def wIfS (c:WT) (t u:WS):WS:=fun E ρ=>c ρ fun b=>if b=true then t E ρ else u E ρ
theorem aP:QSs X K L [] cF:=PSs.imp pss_nil fun D σ H hx=>iI hx fun Hs ρ tot E sr h k1 _ _ _=>k1 σ H Hs ρ tot (Same.refl _) sr h
theorem yE {D:Ends} (h:tpS K L (wSeq t u) D σ H):tSeq (tpS K L t) (tpS K L u) D σ H:=by
 obtain ⟨Hs,ρ,tot,E,sr,h,k1,k2,k3,k4,kx⟩:=h
 refine ⟨Hs,ρ,tot,{ E with nx:=u E },sr,h,fun σ' H' Hs' ρ' tot' s sr' q=>?_,k2,k3,k4,kx⟩
 exact ⟨Hs',ρ',tot',E,sr',q,fun σ2 H2 Hs2 ρ2 tot2 s2=>k1 σ2 H2 Hs2 ρ2 tot2 (s.trans s2),fun σ2 H2 Hs2 ρ2 tot2 s2=>k2 σ2 H2 Hs2 ρ2 tot2 (s.trans s2),fun σ2 H2 Hs2 ρ2 tot2 s2=>k3 σ2 H2 Hs2 ρ2 tot2 (s.trans s2),
  fun v H2 Hs2 m d As s2=>k4 v H2 Hs2 m d As (s.trans s2),fun n H2 s2=>kx n H2 (s.trans s2)⟩
theorem aj (h1:QS X K L st t) (h2:QSs X K L rest u):QSs X K L (st :: rest) (wSeq t u):=PSs.imp (pss_cons h1 h2) fun D σ H h=>yE h
theorem au (h1:QS X K L st t):QSs X K L [st] t:=pss_one h1
theorem bD (he:QE X K e te):QS X K L (.Return (some e) pos) (wRet te):=PS.imp (ps_ret he) fun D σ H hx=>iI hx fun Hs ρ tot E sr h k1 k2 k3 k4 =>
 ⟨Hs,ρ,tot,_,sr,h,fun v H1 Hs1 m d As g1 r1 f1 q1=>k4 v H1 Hs1 m d As g1.sh g1.wf r1 f1.1 (fun a ha=>(f1.2 a ha).1) q1⟩
def jy (i:Nat):WS:=fun E ρ=>match ρ[i]? with
 | some (some (.sh d))=>E.rt .sh d
 | some (some (.ow fl d))=>E.rt (.ow fl) d
 | _=>False
theorem SR.at {ρ:Env} {σ:St} {tot:List Addr} {i:Nat} {fl:Bool} {d:D} {Hs H:Hp} (s:SR K Hs H ρ σ tot) (e:ρ[i]? = some (some (.ow fl d))):∃ v As,σ[i]? = some (some v)/\As≠[]/\RepO K Hs H fl d v As/\As.Sublist tot:=by
 induction s generalizing i with
 | nil=>simp at e
 | non s ih =>
  cases i with
  | zero=>simp at e
  | succ i=>exact ih e
 | sh r s ih =>
  cases i with
  | zero=>simp at e
  | succ i=>exact ih e
 | xc s ih =>
  cases i with
  | zero=>simp at e
  | succ i=>exact ih e
 | ow ne r s ih =>
  cases i with
  | zero=>simp at e; obtain ⟨rfl,rfl⟩:=e; exact ⟨_,_,rfl,ne,r,xbd _ _⟩
  | succ i =>
   obtain ⟨v,As,a,b,c,d⟩:=ih e
   exact ⟨v,As,a,b,c,d.trans (xau _ _)⟩
 | lk ne r s ih =>
  cases i with
  | zero=>simp at e
  | succ i =>
   obtain ⟨v,As,a,b,c,d⟩:=ih e
   exact ⟨v,As,a,b,c,d.trans (xau _ _)⟩
theorem eN {i:Nat} (he:PE X e (tVar i)):QS X K L (.Return (some e) pos) (jy i):=PS.imp (ps_ret he) fun D σ H hx=>iI hx fun Hs ρ tot E sr h k1 k2 k3 k4=>by
 unfold jy at h
 split at h
 ·rename_i d e1
  obtain ⟨v,e2,r⟩:=sr.sr.get e1
  exact ⟨v,e2,k4 v H Hs .sh d [] (Same.refl _) sr.wf ⟨rfl,r⟩ xaX (fun a ha=>nomatch ha) h⟩
 ·rename_i fl d e1
  obtain ⟨v,As,e2,ne,r,sb⟩:=sr.sr.at e1
  exact ⟨v,e2,k4 v H Hs (.ow fl) d As (Same.refl _) sr.wf ⟨r,ne⟩ (sb.nodup sr.nod) (fun a ha=>sr.own a (sb.subset ha)) h⟩
 ·exact h.elim
theorem aF {i:Nat} {x:Str} {pos':Pos} (hN:X.N.Nodup) (hi:X.N[i]? = some x) (hx:Loc X.env.scope x) (he:QE X K e te) (hs:swapsWith e (some (.Name x pos')) pos.line X.env=pure false:=by rfl)
  (hf:X.fn x=true\/X.env.scope.names.lookup x=some .local:=by first | exact .inl rfl | exact .inr rfl | assumption):QS X K L (.Assign [.Name x pos'] e pos) (wSet i te):=PS.imp (ps_set hN hi hx he hs hf) fun D σ H hx=>iI hx fun Hs ρ tot E sr h k1 k2 k3 k4=>by
 refine ⟨Hs,ρ,tot,_,sr,h,fun v H1 Hs1 m d As g1 r1 f1 q1=>?_⟩
 have q1:match asg m d with
  | some sl=>E.nx (ρ.set i (some sl))
  | none=>False:=q1
 cases e:asg m d with
 | none=>rw [e] at q1; exact q1.elim
 | some sl =>
  rw [e] at q1
  obtain ⟨tot',s'⟩:=(sr.grow g1).set i r1 f1.1 (fun a ha=>⟨(f1.2 a ha).1,fun m=>(sr.sr.own a m).ne (f1.2 a ha).2⟩) e
  exact k1 _ H1 Hs1 _ tot' g1.sh s' q1
theorem cU (hc:QT X K c tc) (ha:QSs X K L a t) (hb:QSs X K L b u):QS X K L (.If c a b pos) (wIfS tc t u):=PS.imp (ps_if hc ha hb) fun D σ H hx=>jP hx fun Hs ρ tot E sr h k1 k2 k3 k4 kx=>by
 refine ⟨Hs,ρ,tot,_,sr,h,fun k H1 Hs1 g1 q1=>?_⟩
 have k1':∀ σ' H' Hs' ρ' tot',Same Hs1 Hs'->SRel K Hs' ρ' σ' H' tot'->E.nx ρ'->D.nx σ' H':=fun σ2 H2 Hs2 ρ2 tot2 s2=>k1 σ2 H2 Hs2 ρ2 tot2 (g1.sh.trans s2)
 have k2':∀ σ' H' Hs' ρ' tot',Same Hs1 Hs'->SRel K Hs' ρ' σ' H' tot'->E.bk ρ'->D.bk σ' H':=fun σ2 H2 Hs2 ρ2 tot2 s2=>k2 σ2 H2 Hs2 ρ2 tot2 (g1.sh.trans s2)
 have k3':∀ σ' H' Hs' ρ' tot',Same Hs1 Hs'->SRel K Hs' ρ' σ' H' tot'->E.ct ρ'->D.ct σ' H':=fun σ2 H2 Hs2 ρ2 tot2 s2=>k3 σ2 H2 Hs2 ρ2 tot2 (g1.sh.trans s2)
 cases k with
 | true=>exact ⟨Hs1,ρ,tot,E,sr.grow g1,q1,k1',k2',k3',(fun v H2 Hs2 m d As s2=>k4 v H2 Hs2 m d As (g1.sh.trans s2)),fun n H2 s2=>kx n H2 (g1.sh.trans s2)⟩
 | false=>exact ⟨Hs1,ρ,tot,E,sr.grow g1,q1,k1',k2',k3',(fun v H2 Hs2 m d As s2=>k4 v H2 Hs2 m d As (g1.sh.trans s2)),fun n H2 s2=>kx n H2 (g1.sh.trans s2)⟩
def frzH (Hs H:Hp) (As:List Addr):Hp:=fun a=>if a∈As then H a else Hs a
theorem iM (n:∀ a∈As,Hs a=none):Same Hs (frzH Hs H As):=fun a o e=>by
 unfold frzH
 rw [if_neg fun m=>by rw [n a m] at e; cases e]
 exact e
theorem vW (w:Wf Hs H) (o:∀ a∈As,Own H a):Wf (frzH Hs H As) H:=⟨fun a u e=>by
  unfold frzH at e
  by_cases m:a∈As
  ·rw [if_pos m] at e; exact e
  ·rw [if_neg m] at e; exact w.sub a u e,fun a vs e=>by
  unfold frzH
  rw [if_neg fun m=>(o a m).zP e]
  exact w.tups a vs e⟩
def shS:Sl->Sl
 | .sh d=>.sh d
 | .ow _ d=>.sh d
 | .lk a fl d=>.lk a fl d
 | .xc a=>.xc a
def shC:Sl->Sl
 | .sh d=>.sh d
 | .ow _ d=>.sh d
 | .lk _ _ d=>.sh d
 | .xc a=>.xc a
def frzE (i:Nat) (ρ:Env):Env:=match ρ[i]? with
 | some (some sl)=>ρ.set i (some (shS sl))
 | _=>ρ
theorem oN {As tot B t:List Addr} (n:(B++tot).Nodup) (a:As.Sublist tot) (c:∀ x∈As,x∉t):∀ x∈As,x∉B++t:=fun x hx m=>by
 obtain ⟨n1,n2,n3⟩:=xax.mp n
 rcases xak.mp m with z | z
 ·exact n3 x z x (a.subset hx) rfl
 ·exact c x hx z
theorem SR.frz (i:Nat) (s:SR K Hs H ρ σ tot):ρ[i]? = some (some (.ow fl d))->tot.Nodup ->
  ∃ (As tot':List Addr),As.Sublist tot/\tot'.Sublist tot/\(∀ a∈As,a∉tot')/\∀ Hs',Same Hs Hs'->(∀ a∈As,Hs' a=H a)->SR K Hs' H (ρ.set i (some (.sh d))) σ tot':=by
 induction s generalizing i with
 | nil=>intro e; simp at e
 | non q ih =>
  intro e n
  cases i with
  | zero=>simp at e
  | succ i =>
   obtain ⟨As,t,a,b,c,d⟩:=ih i e n
   exact ⟨As,t,a,b,c,fun Hs' s k=>.non (d Hs' s k)⟩
 | sh r q ih =>
  intro e n
  cases i with
  | zero=>simp at e
  | succ i =>
   obtain ⟨As,t,a,b,c,d⟩:=ih i e n
   exact ⟨As,t,a,b,c,fun Hs' s k=>.sh (r.same s) (d Hs' s k)⟩
 | xc q ih =>
  intro e n
  cases i with
  | zero=>simp at e
  | succ i =>
   obtain ⟨As,t,a,b,c,d⟩:=ih i e n
   exact ⟨As,t,a,b,c,fun Hs' s k=>.xc (d Hs' s k)⟩
 | ow ne r q ih =>
  intro e n
  obtain ⟨n1,n2,n3⟩:=xax.mp n
  cases i with
  | zero =>
   simp at e
   obtain ⟨rfl,rfl⟩:=e
   exact ⟨_,_,xbd _ _,xau _ _,fun a h m=>n3 a h a m rfl,fun Hs' s k=>.sh (r.rep s k) (q.stay s fun _ _=>rfl)⟩
  | succ i =>
   obtain ⟨As,t,a,b,c,d⟩:=ih i e n2
   exact ⟨As,_,a.trans (xau _ _),b.append_left _,oN n a c,fun Hs' s k=>.ow ne (r.stay s fun _ _=>rfl) (d Hs' s k)⟩
 | lk ne r q ih =>
  intro e n
  obtain ⟨n1,n2,n3⟩:=xax.mp n
  cases i with
  | zero=>simp at e
  | succ i =>
   obtain ⟨As,t,a,b,c,d⟩:=ih i e n2
   exact ⟨As,_,a.trans (xau _ _),b.append_left _,oN n a c,fun Hs' s k=>.lk ne (r.stay s fun _ _=>rfl) (d Hs' s k)⟩
theorem SRel.frz (i:Nat) (s:SRel K Hs ρ σ H tot):∃ Hs' tot',Same Hs Hs'/\SRel K Hs' (frzE i ρ) σ H tot':=by
 unfold frzE
 split
 ·rename_i sl e
  have keep:shS sl=sl->∃ Hs' tot',Same Hs Hs'/\SRel K Hs' (ρ.set i (some (shS sl))) σ H tot':=fun hs=>by
   have e2:ρ.set i (some (shS sl))=ρ:=by
    apply xbV
    intro j
    rw [List.getElem?_set]
    by_cases h:i=j
    ·subst h
     rw [if_pos rfl,e]
     have:i<ρ.length:=(xay.mp e).1
     simp [this,hs]
    ·rw [if_neg h]
   rw [e2]
   exact ⟨Hs,tot,Same.refl _,s⟩
  cases sl with
  | sh d=>exact keep rfl
  | xc a=>exact keep rfl
  | lk a fl d=>exact keep rfl
  | ow fl d =>
   obtain ⟨As,t,a,b,c,g⟩:=SR.frz i s.sr e s.nod
   have hn:∀ a∈As,Hs a=none:=fun x hx=>s.own x (a.subset hx)
   have ho:∀ a∈As,Own H a:=fun x hx=>s.sr.own x (a.subset hx)
   refine ⟨frzH Hs H As,t,iM hn,g _ (iM hn) fun x hx=>by unfold frzH; rw [if_pos hx],vW s.wf ho,b.nodup s.nod,fun x hx=>?_⟩
   unfold frzH
   rw [if_neg fun m=>c x m hx]
   exact s.own x (b.subset hx)
 ·exact ⟨Hs,tot,Same.refl _,s⟩
def wFrz (i:Nat) (t:WS):WS:=fun E ρ=>t E (frzE i ρ)
theorem zE {D:Ends} (h:tpS K L (wFrz i t) D σ H):tpS K L t D σ H:=by
 obtain ⟨Hs,ρ,tot,E,sr,h,k1,k2,k3,k4,kx⟩:=h
 obtain ⟨Hs',tot',s,sr'⟩:=sr.frz i
 exact ⟨Hs',_,tot',E,sr',h,fun σ2 H2 Hs2 ρ2 tot2 s2=>k1 σ2 H2 Hs2 ρ2 tot2 (s.trans s2),fun σ2 H2 Hs2 ρ2 tot2 s2=>k2 σ2 H2 Hs2 ρ2 tot2 (s.trans s2),fun σ2 H2 Hs2 ρ2 tot2 s2=>k3 σ2 H2 Hs2 ρ2 tot2 (s.trans s2),
  fun v H2 Hs2 m d As s2=>k4 v H2 Hs2 m d As (s.trans s2),fun n H2 s2=>kx n H2 (s.trans s2)⟩
theorem bY (i:Nat) (h:QS X K L st t):QS X K L st (wFrz i t):=PS.imp h fun D σ H h=>zE h
def jH (Hs1 H1 Hs' H':Hp):Hp:=fun a=>match H' a with
 | some (.tup vs)=>some (.tup vs)
 | _=>match H1 a with
  | none=>Hs' a
  | some _=>Hs1 a
theorem dR (w:Wf Hs1 H1) (s:Same H1 Hs') (w':Wf Hs' H'):Grow Hs1 H1 (jH Hs1 H1 Hs' H') H':=by
 have sa:Same H1 H':=s.trans w'.sub
 have tp:∀ a vs,H' a=some (.tup vs)->jH Hs1 H1 Hs' H' a=some (.tup vs):=fun a vs e=>by unfold jH; rw [e]
 have nt:∀ a,(∀ vs,H' a≠some (.tup vs))->jH Hs1 H1 Hs' H' a=match H1 a with
  | none=>Hs' a
  | some _=>Hs1 a:=fun a h=>by
  unfold jH
  split
  ·rename_i vs e; exact absurd e (h vs)
  ·rfl
 refine ⟨sa,fun a o e=>?_,⟨fun a o e=>?_,tp⟩,fun a h=>?_⟩
 ·have e1:=w.sub a o e
  have e2:=sa a o e1
  by_cases ht:∃ vs,o=.tup vs
  ·obtain ⟨vs,rfl⟩:=ht
   exact tp a vs e2
  ·rw [nt a fun vs z=>ht ⟨vs,by rw [e2] at z; exact Option.some.inj z⟩,e1]
   exact e
 ·by_cases ht:∃ vs,H' a=some (.tup vs)
  ·obtain ⟨vs,z⟩:=ht
   rw [tp a vs z] at e
   rw [z]; exact e
  ·rw [nt a fun vs z=>ht ⟨vs,z⟩] at e
   cases q:H1 a with
   | none=>rw [q] at e; exact w'.sub a o e
   | some u =>
    rw [q] at e
    have:=w.sub a o e
    exact sa a o this
 ·cases q:H1 a with
  | none=>exact .inr rfl
  | some u =>
   refine .inl ?_
   by_cases ht:∃ vs,H' a=some (.tup vs)
   ·obtain ⟨vs,z⟩:=ht
    have:=sa a u q
    rw [z] at this
    cases this
    rw [w.tups a vs q]
    exact fun z=>nomatch z
   ·rw [nt a fun vs z=>ht ⟨vs,z⟩,q] at h
    exact h
theorem vQ {Hs1 H1 Hs' H':Hp} {a:Addr} (s:Same H1 Hs') (h:Hs' a=none) (o:Own H' a):jH Hs1 H1 Hs' H' a=none/\H1 a=none:=by
 have h1:=s.free h
 refine ⟨?_,h1⟩
 unfold jH
 split
 ·rename_i vs e; exact absurd e o.zP
 ·rw [h1]; exact h
def retM:Md->D->Md
 | .ow true,_=>.ow true
 | _,d=>bif d.flat then .sh else .bo
theorem pU (w:Wf Hs1 H1) (s:Same H1 Hs') (w':Wf Hs' H') (r:RM K Hs' H' m d v As) (nd:As.Nodup) (own:∀ a∈As,Hs' a=none) :
  ∃ As',RM K (jH Hs1 H1 Hs' H') H' (retM m d) d v As'/\cV (jH Hs1 H1 Hs' H') H1 As':=by
 have g:=dR w s w'
 have other:∃ As',RM K (jH Hs1 H1 Hs' H') H' (bif d.flat then .sh else .bo) d v As'/\cV (jH Hs1 H1 Hs' H') H1 As':=by
  cases hf:d.flat with
  | true=>exact ⟨[],⟨rfl,(r.rep w').jk g.wf.tups hf⟩,cV.nil⟩
  | false=>exact ⟨[],⟨rfl,r.rep w'⟩,cV.nil⟩
 cases m with
 | sh=>exact other
 | bo=>exact other
 | ow fl =>
  cases fl with
  | false=>exact other
  | true=>exact ⟨As,⟨RepO.leaves (fun a vs e=>g.wf.tups a vs (w'.sub _ _ e)) r.1,r.2⟩,nd,fun a h=>vQ s (own a h) (r.own a h)⟩
abbrev SpD:=List D->(Md->D->Prop)->Prop
def az (K:PySem.W.Frag) (sp:SpD):Sp:=fun vs H Qv _=>∃ ds Qd,Reps K H ds vs/\sp ds Qd /\
 ∀ v H' Hs' m d As,Same H Hs'->Wf Hs' H'->RM K Hs' H' m d v As->As.Nodup->(∀ a∈As,Hs' a=none)->Qd m d->Qv v H'
def bh (n:Nat) (ds:List D):Env:=ds.map (fun d=>some (.sh d))++List.replicate (n - ds.length) none
theorem SR.start (r:Reps K H ds vs):SR K H H (ds.map (fun d=>some (.sh d))++List.replicate n none) (vs.map some++List.replicate n none) []:=by
 induction ds generalizing vs with
 | nil =>
  rw [r.n0]
  induction n with
  | zero=>exact .nil
  | succ n ih=>exact .non ih
 | cons d ds ih =>
  obtain ⟨u,us,rfl,r,rs⟩:=r.c
  exact .sh r (ih rs)
theorem wN (h:az K sp vs H Qv E) (hp:∀ ds Q,sp ds Q->t { nx:=fun _=>Q .sh .non,rt:=Q } (bh N.length ds)) :
  tpS K L0 t { nx:=fun _ H'=>Qv .non H',rt:=Qv } (start N vs) H:=by
 obtain ⟨ds,Qd,rs,hs,fin⟩:=h
 have hl:=rs.length
 refine ⟨H,bh N.length ds,[],{ nx:=fun _=>Qd .sh .non,rt:=Qd },⟨?_,⟨Same.refl _,fun _ _ e=>e⟩,xaX,fun a h=>nomatch h⟩,hp ds Qd hs,?_,?_,?_,?_,fun _ _ _ _=>trivial⟩
 ·unfold bh start
  rw [hl]
  exact SR.start rs
 ·exact fun σ' H' Hs' ρ' tot' s sr q=>fin .non H' Hs' .sh .non [] s sr.wf ⟨rfl,.non⟩ xaX (fun a h=>nomatch h) q
 ·exact fun σ' H' Hs' ρ' tot' s sr q=>q.elim
 ·exact fun σ' H' Hs' ρ' tot' s sr q=>q.elim
 ·exact fun v H' Hs' m d As s w r nd own q=>fin v H' Hs' m d As s w r nd own q
theorem FunQ.ok {P:Program} {st:Stmt} {N ps:List Str} (F:Fun K x qual st f fd) (S:FnScope N ps (defScope st)) (len:∀ ds Q,sp ds Q->ds.length=ps.length)
  (hbody:∀ (cdv:Value) (A:Around) (outer:List PySem.Env) (s:Shared) (H:Hp) (E:XK),Room k (A.deeper (envOfC qual (defScope st) s.heap.objs.size f cdv))->QSs (cxOf CX0 P w K mg base N qual (defScope st) f cdv A outer s H E).nox K L0 (defBody st) t)
  (hp:∀ ds Q,sp ds Q->t { nx:=fun _=>Q .sh .non,rt:=Q } (bh N.length ds)):FnOk P w K mg base CX0 (k+1) f fd ps (az K sp) :=
 F.ok S (fun vs H Q E ⟨ds,Qd,rs,hs,_⟩=>by rw [<- rs.length]; exact len ds Qd hs) fun cdv A outer s H vs Q E hr hs=>⟨_,hbody cdv A outer s H E hr,wN hs hp⟩
def bW (sp:SpD) (t:WA):WE:=fun ρ Q=>t ρ fun ps=>sp (ps.map (·.2)) fun m d=>onK (m,d) (f:=fun p=>Q (retM p.1 p.2) p.2) ⟨⟩
theorem vX {sp:SpD} {t:WA} {σ:St} {H:Hp} {Qv:VK} {E:XK} (h:tpE K (bW sp t) σ H Qv):tCall (az K sp) [] E (tpA K t) σ H Qv:=by
 obtain ⟨Hs,ρ,tot,Q,sr,h,f⟩:=h
 refine ⟨Hs,ρ,tot,_,sr,h,fun vs H1 Hs1 ps As g1 r1 f1 q1=>?_⟩
 refine ⟨_,_,by rw [xaF]; exact r1.reps g1.wf,q1,fun v H' Hs' m d As s w r nd own q=>?_⟩
 obtain ⟨As',r',fr⟩:=pU g1.wf s w r nd own
 exact Fin.after f g1 v H' _ (retM m d) d As' (dR g1.wf s w) r' fr q
theorem cC {k:Nat} {x:Str} {ps:List Str} {sp:SpD} {p:Pos} {es:List Expr} {t:WA} (C:Cal X.prog X.w X.K X.mg X.base k x ps (az K sp)) (hr:Room k X.A) (ha:QA X K (e :: es) t) (hg:Gl X x:=by rfl) (hdb:(x == ("__debug__" : Str))=false:=by decide) (he:starEach (e :: es) X.env=(false,eval e X.env) :: starEach es X.env:=by rfl)
  (hpl:(backTo pos (starEach es X.env)).any (·.1)=false:=by rfl):QE X K (.Call (.Name x p) (e :: es) [] pos) (bW sp t):=PE.imp (DR C hr ha hg hdb he hpl) fun σ H Qv h=>vX h
end
abbrev WG:=D->Env->(Env->Prop)->Prop
def tpG (K:PySem.W.Frag) (g:WG):TG:=fun v σ H Qv=>∃ Hs ρ tot d Q,SRel K Hs ρ σ H tot/\Rep K Hs d v/\g d ρ Q/\∀ σ' ρ' tot',SRel K Hs ρ' σ' H tot'->(∀ a∈tot',a∈tot)->Q ρ'->Qv σ' H
abbrev QG (X:Cx) (K:PySem.W.Frag) (e:Expr) (g:WG):Prop:=PG X e (tpG K g)
def gN (i:Nat):WG:=fun d ρ Q=>Q (ρ.set i (some (.sh d)))
abbrev WGs:=List D->Env->(Env->Prop)->Prop
def tpGs (K:PySem.W.Frag) (g:WGs):TGs:=fun vs σ H Qv=>∃ Hs ρ tot ds Q,SRel K Hs ρ σ H tot/\Reps K Hs ds vs/\g ds ρ Q/\∀ σ' ρ' tot',SRel K Hs ρ' σ' H tot'->(∀ a∈tot',a∈tot)->Q ρ'->Qv σ' H
abbrev QGs (X:Cx) (K:PySem.W.Frag) (es:List Expr) (g:WGs):Prop:=PGs X es (tpGs K g)
def qL:WGs:=fun ds ρ Q=>ds=[]/\Q ρ
def cW (g:WG) (gs:WGs):WGs:=fun ds ρ Q=>match ds with
 | d :: ds=>g d ρ fun ρ'=>gs ds ρ' Q
 | []=>False
def gT (n:Nat) (gs:WGs):WG:=fun d ρ Q=>match d with
 | .tup ds=>ds.length=n/\gs ds ρ Q
 | _=>False
section
variable {X:Cx} {K:PySem.W.Frag} {e:Expr} {es:List Expr} {g:WG} {gs:WGs} {pos:Pos}
theorem PG.imp (h:PG X e t) (i:∀ v σ H Q,t' v σ H Q->t v σ H Q):PG X e t':=fun pins s σ H v u Q I r q=>h pins s σ H v u Q I r (i v σ H Q q)
theorem PGs.imp (h:PGs X es t) (i:∀ v σ H Q,t' v σ H Q->t v σ H Q):PGs X es t':=fun pins s σ H v u Q I r q=>h pins s σ H v u Q I r (i v σ H Q q)
theorem SRel.Gw (i:Nat) (s:SRel K Hs ρ σ H tot) (r:Rep K Hs d v):∃ tot',(∀ a∈tot',a∈tot)/\SRel K Hs (ρ.set i (some (.sh d))) (σ.set i (some v)) H tot':=by
 obtain ⟨t,a,b⟩:=s.sr.zT r i
 exact ⟨t,fun x hx=>a.subset hx,b,s.wf,a.nodup s.nod,fun x hx=>s.own x (a.subset hx)⟩
theorem aG (hN:X.N.Nodup) (hi:X.N[i]? = some x) (hx:Loc X.env.scope x) (hf:X.fn x=true\/X.env.scope.names.lookup x=some .local:=by first | exact .inl rfl | exact .inr rfl | assumption):QG X K (.Name x pos) (gN i) :=
 PG.imp (pg_name hN hi hx hf) fun v σ H Qv hx9=>by
  obtain ⟨Hs,ρ,tot,d,Q,sr,r,h,k⟩:=hx9
  obtain ⟨t,m,s⟩:=sr.Gw i r
  exact k _ _ t s m h
theorem kO:QGs X K [] qL:=PGs.imp pgs_nil fun v σ H Qv hx9=>by
 obtain ⟨Hs,ρ,tot,ds,Q,sr,r,h,k⟩:=hx9
 obtain ⟨rfl,h⟩:=h
 cases r
 exact ⟨rfl,k σ ρ tot sr (fun _ z=>z) h⟩
theorem bx (h1:QG X K e g) (h2:QGs X K es gs) (hs:(assignEach (e :: es) X.env).map (·.2)=assign e X.env :: (assignEach es X.env).map (·.2):=by rfl):QGs X K (e :: es) (cW g gs) :=
 PGs.imp (pgs_cons h1 h2 hs) fun v σ H Qv hx9=>by
  obtain ⟨Hs,ρ,tot,ds,Q,sr,r,h,k⟩:=hx9
  cases r with
  | nil=>exact h.elim
  | cons r rs=>exact ⟨_,_,rfl,Hs,ρ,tot,_,_,sr,r,h,fun σ2 ρ2 tot2 sr2 m2 q2=>⟨Hs,ρ2,tot2,_,Q,sr2,rs,q2,fun σ3 ρ3 tot3 sr3 m3=>k σ3 ρ3 tot3 sr3 fun a h=>m2 a (m3 a h)⟩⟩
theorem tV (hc:X.calm=true) (h:QGs X K es gs) (hn:(assignEach es X.env).length=n:=by rfl) (hst:(assignEach es X.env).findIdx? (·.1)=none:=by rfl):QG X K (.Tuple es k pos) (gT n gs) :=
 PG.imp (pg_tup hc h hn hst) fun v σ H Qv hx9=>by
  obtain ⟨Hs,ρ,tot,d,Q,sr,r,h,k⟩:=hx9
  cases r with
  | tup z e rs=>exact ⟨_,_,rfl,.inl (.inl (sr.wf.sub _ _ e)),by rw [<- rs.length]; exact h.1,Hs,ρ,tot,_,Q,sr,rs,h.2,k⟩
  | _=>exact h.elim
end
abbrev WI:=Env->(List D->Prop)->Prop
structure oW (K:PySem.W.Frag) (J:It) (ds:List D) (C:Hp->Hp->Prop):Prop where
 go:∀ i Hs H,C Hs H->Wf Hs H->i<ds.length->J.go i H
 yld:∀ i Hs H x H' d,C Hs H->Wf Hs H->ds[i]? = some d->J.yld i H x H'->∃ Hs',Grow Hs H Hs' H'/\Rep K Hs' d x
 stop:∀ Hs H,C Hs H->Wf Hs H->J.stop ds.length H
abbrev xn (K:PySem.W.Frag) (Hs:Hp) (J:It) (ds:List D):Prop:=oW K J ds fun G _=>Same Hs G
def zipD (xs ys:List D):List D:=List.zipWith (fun x y=>.tup [x,y]) xs ys
section
variable {K:PySem.W.Frag} {Hs:Hp} {J:It} {ds es:List D} {C C':Hp->Hp->Prop} {a b:Addr}
theorem oW.imp (S:oW K J ds C) (h:∀ Hs H,C' Hs H->C Hs H):oW K J ds C':=⟨fun i Hs H c=>S.go i Hs H (h _ _ c),fun i Hs H x H' d c=>S.yld i Hs H x H' d (h _ _ c),fun Hs H c=>S.stop Hs H (h _ _ c)⟩
theorem oW.seq (rs:Reps K Hs ds vs) (S:iZ J vs fun H=>Same Hs H):xn K Hs J ds where
 go:=fun i G H s w h=>S.go i H (s.trans w.sub) (by rw [<- rs.length]; exact h)
 yld:=fun i G H x H' d s w h y=>by
  have hi:i<ds.length:=by
   rcases Nat.lt_or_ge i ds.length with q | q
   ·exact q
   ·rw [xa1 q] at h; cases h
  obtain ⟨e,z⟩:=S.yld i H x H' (s.trans w.sub) (by rw [<- rs.length]; exact hi) y
  subst e
  obtain ⟨d',ed,rd⟩:=rs.getV z
  rw [h] at ed; cases ed
  exact ⟨G,Grow.refl w,rd.same s⟩
 stop:=fun G H s w=>by rw [rs.length]; exact S.stop H (s.trans w.sub)
abbrev uN (K:PySem.W.Frag) (a:Addr) (ds:List D) (C:Hp->Hp->Prop):Prop:=∀ Hs H,C Hs H->Wf Hs H->∃ vs,SqL K H a vs/\Reps K Hs ds vs
theorem oW.list (h:uN K a ds C):oW K (Itl K a) ds C where
 go:=fun i G H c w hi=>by
  obtain ⟨vs,q,rs⟩:=h G H c w
  exact ⟨vs,vs[i]'(by rw [<- rs.length]; exact hi),q,by simp⟩
 yld:=fun i G H x H' d c w hd y=>by
  obtain ⟨vs,q,rs⟩:=h G H c w
  obtain ⟨rfl,y⟩:=y
  obtain ⟨d',ed,rd⟩:=rs.getV (y vs q)
  rw [hd] at ed; cases ed
  exact ⟨G,Grow.refl w,rd⟩
 stop:=fun G H c w=>by
  obtain ⟨vs,q,rs⟩:=h G H c w
  exact ⟨vs,q,by rw [rs.length]; exact xae _⟩
theorem oW.zip (h:uN K a ds C) (h2:uN K b es C):oW K (Itz K a b) (zipD ds es) C where
 go:=fun i G H c w hi=>by
  obtain ⟨vs,q,rs⟩:=h G H c w
  obtain ⟨us,q2,rs2⟩:=h2 G H c w
  rw [zipD,List.length_zipWith] at hi
  have:=rs.length
  have:=rs2.length
  exact ⟨vs,us,vs[i]'(by lia),us[i]'(by lia),q,q2,by simp,by simp⟩
 yld:=fun i G H x H' d c w hd y=>by
  obtain ⟨vs,q,rs⟩:=h G H c w
  obtain ⟨us,q2,rs2⟩:=h2 G H c w
  obtain ⟨p,u,v,rfl,hp,rfl,y,y2⟩:=y
  obtain ⟨d1,ed,rd⟩:=rs.getV (y vs q)
  obtain ⟨d2,ed2,rd2⟩:=rs2.getV (y2 us q2)
  have:d=.tup [d1,d2]:=by
   simp only [zipD,List.getElem?_zipWith,ed,ed2] at hd
   cases hd; rfl
  subst this
  have g:=newT (vs:=[u,v]) w hp
  exact ⟨_,g,.tup (vs:=[u,v]) Ey upd_same (.cons (rd.same g.sh) (.cons (rd2.same g.sh) .nil))⟩
 stop:=fun G H c w=>by
  obtain ⟨vs,q,rs⟩:=h G H c w
  obtain ⟨us,q2,rs2⟩:=h2 G H c w
  have:=rs.length
  have:=rs2.length
  exact ⟨vs,us,q,q2,by rw [zipD,List.length_zipWith]; lia⟩
theorem xW (s:SqL K Hs a vs) (rs:Reps K Hs ds vs):uN K a ds fun G _=>Same Hs G:=fun G H c w=>⟨vs,Same.seq (c.trans w.sub) s,rs.same c⟩
end
def tpI (K:PySem.W.Frag) (wi:WI):TI:=fun σ H R=>∃ Hs ρ tot Q,SRel K Hs ρ σ H tot/\wi ρ Q/\∀ J H' Hs' ds,Grow Hs H Hs' H'->xn K Hs' J ds->ds.length<=sizeLine->Q ds->R J H'
abbrev QI (X:Cx) (K:PySem.W.Frag) (tg iter:Expr) (wi:WI):Prop:=PI X tg iter (tpI K wi)
def lU:Md->Prop
 | .bo=>False
 | _=>True
def h_ (te:WE):WI:=fun ρ Q=>te ρ fun m d=>lU m/\match d with
 | .list xs=>Q xs
 | _=>False
def yK (te:WE):WI:=fun ρ Q=>te ρ fun m d=>lU m/\match d with
 | .tup xs=>Q xs
 | _=>False
def sgnD (z:Str):List D:=z.cps.toList.map fun c=>.str ⟨#[c]⟩
def zN (te:WE):WI:=fun ρ Q=>te ρ fun _ d=>match d with
 | .str z=>Q (sgnD z)
 | _=>False
def gG (lo:Int) (n:Nat):List D:=(List.range n).map fun i=>.int (lo+(i:Nat))
def gw (te:WE):WI:=fun ρ Q=>te ρ fun _ d=>match d with
 | .int j=>j<=16777216/\-(2 ^ 62)<=j/\Q (gG 0 j.toNat)
 | _=>False
def uL (ta tb:WE):WI:=fun ρ Q=>ta ρ fun _ x=>tb ρ fun _ y=>match x,y with
 | .int i,.int j=>j - i<=16777216/\(-(2 ^ 62)<=i/\i<2 ^ 62/\-(2 ^ 62)<=j/\j<2 ^ 62)/\Q (gG i (j - i).toNat)
 | _,_=>False
section
variable {X:Cx} {K:PySem.W.Frag} {e e2 tg:Expr} {te te2:WE} {pos p:Pos}
theorem PI.imp (h:PI X tg iter t) (i:∀ σ H R,t' σ H R->t σ H R):PI X tg iter t':=fun pins s σ H R I q=>h pins s σ H R I (i σ H R q)
theorem iZ.imp {J:It} (s:iZ J vs c) (h:∀ H,c' H->c H):iZ J vs c':=⟨fun i H q=>s.go i H (h H q),fun i H x H' q=>s.yld i H x H' (h H q),fun H q=>s.stop H (h H q)⟩
theorem RM.wy (g:Grow Hs H Hs1 H1) (r:RM K Hs1 H1 m d v As) (f:cV Hs1 H As) (h:lU m):∃ Hs2,Grow Hs H Hs2 H1/\Rep K Hs2 d v:=by
 cases m with
 | sh=>exact ⟨Hs1,g,r.2⟩
 | bo=>exact h.elim
 | ow fl =>
  have n:∀ a∈As,Hs1 a=none:=fun a ha=>(f.2 a ha).1
  have o:=r.own
  refine ⟨frzH Hs1 H1 As,⟨g.all,g.sh.trans (iM n),vW g.wf o,fun a h=>?_⟩,RepO.rep (iM n) r.1 fun a ha=>by unfold frzH; rw [if_pos ha]⟩
  unfold frzH at h
  by_cases m:a∈As
  ·exact .inr (f.2 a m).2
  ·rw [if_neg m] at h; exact g.new a h
theorem iT (he:QE X K e te) (hK:X.K=K:=by rfl):QI X K tg e (h_ te):=by
 subst hK
 refine PI.imp (pi_list he) fun σ H R hx=>ex4 hx fun Hs ρ tot Q sr h k=>⟨Hs,ρ,tot,_,sr,h,fun v H1 Hs1 m d As g1 r1 f1 q1=>?_⟩
 obtain ⟨nb,q1⟩:=q1
 obtain ⟨Hs2,g2,r2⟩:=r1.wy g1 f1 nb
 cases r2 with
 | list z s rs=>exact ⟨_,rfl,⟨_,Same.seq g2.wf.sub s⟩,k _ H1 Hs2 _ g2 (.seq rs (iZ.imp (zj X.K _ _) fun H' s'=>Same.seq s' s)) (by rw [rs.length]; exact z) q1⟩
 | _=>exact q1.elim
theorem Dk (he:QE X K e te) (hK:X.K=K:=by rfl):QI X K tg e (yK te):=by
 subst hK
 refine PI.imp (pi_tup he) fun σ H R hx=>ex4 hx fun Hs ρ tot Q sr h k=>⟨Hs,ρ,tot,_,sr,h,fun v H1 Hs1 m d As g1 r1 f1 q1=>?_⟩
 obtain ⟨nb,q1⟩:=q1
 obtain ⟨Hs2,g2,r2⟩:=r1.wy g1 f1 nb
 cases r2 with
 | tup z s rs=>exact ⟨_,rfl,⟨_,.inl (.inl (g2.wf.sub _ _ s))⟩,k _ H1 Hs2 _ g2 (.seq rs (iZ.imp (BK X.K _ _) fun H' s'=>.inl (.inl (s' _ _ s)))) (by rw [rs.length]; exact z) q1⟩
 | _=>exact q1.elim
theorem uC:∀ (l:List Nat),Reps K H (l.map fun c=>.str ⟨#[c]⟩) (l.map fun c=>V.str ⟨#[c]⟩)
 | []=>.nil
 | c :: l=>.cons (.str (xZ c)) (uC l)
theorem Fl (he:QE X K e te):QI X K tg e (zN te):=by
 refine PI.imp (C_ he) fun σ H R hx=>ex4 hx fun Hs ρ tot Q sr h k=>⟨Hs,ρ,tot,_,sr,h,fun v H1 Hs1 m d As g1 r1 f1 q1=>?_⟩
 have r:=r1.rep g1.wf
 cases r with
 | str hz=>exact ⟨_,rfl,k _ H1 Hs1 _ g1 (.seq (uC _) (iZ.imp (Ca _) fun _ _=>trivial)) (by rw [xac,xaK]; exact hz) q1⟩
 | _=>exact q1.elim
theorem lH (lo:Int):∀ (l:List Nat),Reps K H (l.map fun i=>.int (lo+(i:Nat))) (l.map fun i=>V.int (lo+(i:Nat)))
 | []=>.nil
 | c :: l=>.cons (.int _) (lH lo l)
theorem gD (hm:X.mg "range" = none) (he:QE X K e te) (hg:Gl X "range" := by rfl) (hs:starEach [e] X.env=(false,eval e X.env) :: starEach [] X.env:=by rfl) (hs':starEach [e] X.env=[(false,eval e X.env)]:=by rfl):QI X K tg (.Call (.Name "range" p) [e] [] pos) (gw te):=by
 refine PI.imp (pi_range1 hg hm (pa_cons he pa_nil hs) hs') fun σ H R hx=>ex4 hx fun Hs ρ tot Q sr h k=>⟨Hs,ρ,tot,_,sr,h,fun v H1 Hs1 m d As g1 r1 f1 q1=>?_⟩
 have r:=r1.rep g1.wf
 cases r with
 | int j =>
  obtain ⟨h1,h2,q1⟩:=q1
  exact ⟨j,rfl,h2,by lia,k _ H1 Hs1 _ g1 (.seq (lH 0 _) (iZ.imp (wF _ _) fun _ _=>trivial)) (by rw [xac,xbq,sizeLine_eq]; lia) q1⟩
 | _=>exact q1.elim
theorem By (hm:X.mg "range" = none) (he:QE X K e te) (he2:QE X K e2 te2) (hg:Gl X "range" := by rfl) (hs:starEach (e :: [e2]) X.env=(false,eval e X.env) :: starEach [e2] X.env:=by rfl) (hs2:starEach (e2 :: []) X.env=(false,eval e2 X.env) :: starEach [] X.env:=by rfl)
  (hs':starEach [e,e2] X.env=[(false,eval e X.env),(false,eval e2 X.env)]:=by rfl) (hs'':starEach [e2] X.env=[(false,eval e2 X.env)]:=by rfl):QI X K tg (.Call (.Name "range" p) [e,e2] [] pos) (uL te te2):=by
 refine PI.imp (pi_range2 hg hm (pa_cons he (pa_cons he2 pa_nil hs2) hs) hs' hs'') fun σ H R hx=>ex4 hx fun Hs ρ tot Q sr h k=>⟨Hs,ρ,tot,_,sr,h,fun v H1 Hs1 m d As g1 r1 f1 q1=>⟨Hs1,ρ,tot,_,sr.grow g1,q1,fun u H2 Hs2 n y Bs g2 r2 f2 q2=>?_⟩⟩
 have r:=(r1.grow g2).rep g2.wf
 have r':=r2.rep g2.wf
 cases r with
 | int i=>cases r' with
  | int j =>
   obtain ⟨h1,h2,q2⟩:=q2
   exact ⟨i,j,rfl,h2,k _ H2 Hs2 _ (g1.trans g2) (.seq (lH i _) (iZ.imp (wF _ _) fun _ _=>trivial)) (by rw [xac,xbq,sizeLine_eq]; lia) q2⟩
  | _=>exact q2.elim
 | _=>cases r' <;> exact q2.elim
section
variable {X:Cx} {K:PySem.W.Frag} {e tg:Expr} {te:WE}
def tpIb (K:PySem.W.Frag) (wi:WI):TI:=fun σ H R=>∃ Hs ρ tot Q,SRel K Hs ρ σ H tot/\wi ρ Q/\∀ J H' Hs' ds,Grow Hs H Hs' H'->xn K H' J ds->ds.length<=sizeLine->Q ds->R J H'
abbrev QIb (X:Cx) (K:PySem.W.Frag) (tg iter:Expr) (wi:WI):Prop:=PI X tg iter (tpIb K wi)
theorem uF (h:QI X K tg iter wi):QIb X K tg iter wi:=PI.imp h fun σ H R hx=>ex4 hx fun Hs ρ tot Q sr h k=>⟨Hs,ρ,tot,Q,sr,h,fun J H' Hs' ds g w z q=>k J H' Hs' ds g (w.imp fun G H s=>g.wf.sub.trans s) z q⟩
def iz (te:WE):WI:=fun ρ Q=>te ρ fun _ d=>match d with
 | .list xs=>Q xs
 | _=>False
theorem iW (he:QE X K e te) (hK:X.K=K:=by rfl):QIb X K tg e (iz te):=by
 subst hK
 refine PI.imp (pi_list he) fun σ H R hx=>ex4 hx fun Hs ρ tot Q sr h k=>⟨Hs,ρ,tot,_,sr,h,fun v H1 Hs1 m d As g1 r1 f1 q1=>?_⟩
 have r:=r1.rep g1.wf
 cases r with
 | list z s rs=>exact ⟨_,rfl,⟨_,s⟩,k _ H1 Hs1 _ g1 (.list (xW s rs)) (by rw [rs.length]; exact z) q1⟩
 | _=>exact q1.elim
end
def qK (g:WG) (b:WS) (E:rD):List D->Env->Prop
 | [],ρ=>E.nx ρ
 | x :: xs,ρ=>g x ρ fun ρ1=>b { E with nx:=qK g b E xs,ct:=qK g b E xs,bk:=E.nx } ρ1
def wFor (wi:WI) (g:WG) (b:WS):WS:=fun E ρ=>wi ρ fun ds=>qK g b E ds ρ
variable {wi:WI} {g:WG} {b:WS} {body:List Stmt}
theorem eU (hp:PassesOwn (model X.prog X.w) X.A X.env X.xe) (hc:X.calm=true) (hi:QI X K tg iter wi) (hg:QG X K tg g) (hb:QSs X K L body b) (hs:∀ x,foldedSetIterable iter X.env x=pure x:=by intro _; rfl) :
  QS X K L (.For tg iter body [] pos) (wFor wi g b):=by
 refine PS.imp (ps_for hp hc hi hg hb hs) fun D σ H hx=>jP hx fun Hs ρ tot E sr h k1 k2 k3 k4 kx=>?_
 rw [Bu]
 refine ⟨Hs,ρ,tot,_,sr,h,fun J H1 Hs1 ds g1 S hz q1=>?_⟩
 refine ⟨fun i m σ H=>m=ds.length - i/\i<=ds.length/\∃ Hs' ρ' tot',Same Hs1 Hs'/\SRel K Hs' ρ' σ H tot'/\qK g b E (ds.drop i) ρ',⟨ds.length,by simp,xaq _,Hs1,ρ,tot,Same.refl _,sr.grow g1,by simpa using q1⟩,?_⟩
 rintro i m σ2 H2 ⟨rfl,hi,Hs2,ρ2,tot2,s2,sr2,q2⟩
 by_cases hlt:i<ds.length
 ·refine .inr ⟨S.go i Hs2 H2 s2 sr2.wf hlt,fun σ3 H3=>∃ Hs' ρ' tot',Same Hs1 Hs'/\SRel K Hs' ρ' σ3 H3 tot'/\qK g b E (ds.drop (i+1)) ρ',fun σ3 H3 h3=>⟨ds.length - (i+1),by lia,rfl,hlt,h3⟩,fun x H3 y=>?_⟩
  obtain ⟨Hs3,g3,rd⟩:=S.yld i Hs2 H2 x H3 ds[i] s2 sr2.wf (by simp [hlt]) y
  rw [xba hlt] at q2
  have s3:=s2.trans g3.sh
  refine ⟨Hs3,ρ2,tot2,ds[i],_,sr2.grow g3,rd,q2,fun σ4 ρ4 tot4 sr4 _ q4=>?_⟩
  refine ⟨Hs3,ρ4,tot4,_,sr4,q4,?_,?_,?_,?_,fun n H5 s5=>kx n H5 ((g1.sh.trans s3).trans s5)⟩
  ·exact fun σ5 H5 Hs5 ρ5 tot5 s5 sr5 q5=>⟨Hs5,ρ5,tot5,s3.trans s5,sr5,q5⟩
  ·exact fun σ5 H5 Hs5 ρ5 tot5 s5 sr5 q5=>k1 σ5 H5 Hs5 ρ5 tot5 ((g1.sh.trans s3).trans s5) sr5 q5
  ·exact fun σ5 H5 Hs5 ρ5 tot5 s5 sr5 q5=>⟨Hs5,ρ5,tot5,s3.trans s5,sr5,q5⟩
  ·exact fun v H5 Hs5 m d As s5=>k4 v H5 Hs5 m d As ((g1.sh.trans s3).trans s5)
 ·have e:i=ds.length:=by lia
  subst e
  refine .inl ⟨S.stop Hs2 H2 s2 sr2.wf,?_⟩
  rw [xcL] at q2
  exact k1 σ2 H2 Hs2 ρ2 tot2 (g1.sh.trans s2) sr2 q2
theorem cY (xs:List D) (Pv:Nat->Env->Prop) (h0:Pv 0 ρ)
  (hs:∀ i x ρ,xs[i]? = some x->Pv i ρ->∀ N:Env->Prop,(∀ ρ',Pv (i+1) ρ'->N ρ')->g x ρ fun ρ1=>b { E with nx:=N,ct:=N,bk:=E.nx } ρ1)
  (hd:∀ ρ,Pv xs.length ρ->E.nx ρ):qK g b E xs ρ:=by
 have go:∀ (k i:Nat) (ρ:Env),i+k=xs.length->Pv i ρ->qK g b E (xs.drop i) ρ:=by
  intro k
  induction k with
  | zero =>
   intro i ρ e p
   have:i=xs.length:=by lia
   subst this
   rw [xcL]
   exact hd ρ p
  | succ k ih =>
   intro i ρ e p
   have hi:i<xs.length:=by lia
   rw [xba hi]
   exact hs i xs[i] ρ (by simp [hi]) p _ fun ρ2 h2=>ih (i+1) ρ2 (by lia) h2
 have:=go xs.length 0 ρ (by lia) h0
 simpa using this
end
def wYes:WT:=fun _ Q=>Q true
def okEl (m:Md) (d:D):Prop:=d.flat=true\/m=.ow true
def jm (g:WG) (tc:WT) (te:WE):List D->Env->(List D->Prop)->Prop
 | [],_,k=>k []
 | x :: xs,ρ,k=>g x ρ fun ρ1=>tc ρ1 fun b=>if b=true then te ρ1 fun m d=>okEl m d/\jm g tc te xs ρ1 (fun out=>k (d :: out)) else jm g tc te xs ρ1 k
def Ax (tn:Nat) (ix:List Nat) (ρ:Env):Env:=List.replicate tn none++ix.map fun j=>(ρ[j]?).join.map shC
def g_ (wi:WI) (g:WG) (tc:WT) (te:WE) (tn:Nat) (ix:List Nat):WE:=fun ρ Q=>wi ρ fun ds=>jm g tc te ds (Ax tn ix ρ) fun out=>Q (.ow true) (.list out)
section
variable {X:Cx} {K:PySem.W.Frag}
theorem mU {Hs H G:Hp} (sr:SRel K Hs ρ σ H tot) (G':Hp):∀ (ix:List Nat),SR K H G' (ix.map fun j=>(ρ[j]?).join.map shC) (ix.map fun j=>(σ[j]?).join) []
 | []=>.nil
 | j :: ix=>by
  have ih:=mU sr G' ix (G:=G)
  simp only [xas]
  cases e:ρ[j]? with
  | none=>exact .non ih
  | some o =>
   cases o with
   | none=>exact .non ih
   | some sl =>
    obtain ⟨v,e1,r⟩:=sr.sr.get e
    rw [e1]
    cases sl with
    | sh d=>exact .sh (Rep.same sr.wf.sub r) ih
    | xc a=>subst r; exact .xc ih
    | ow fl d =>
     obtain ⟨As,_,r,_⟩:=r
     exact .sh (r.rep sr.wf.sub fun _ _=>rfl) ih
    | lk a fl d =>
     obtain ⟨As,_,r,_⟩:=r
     exact .sh (r.rep sr.wf.sub fun _ _=>rfl) ih
theorem qb (s:SR K H G ρ σ []):∀ (n:Nat),SR K H G (List.replicate n none++ρ) (List.replicate n none++σ) []
 | 0=>s
 | n+1=>.non (qb s n)
theorem SR.heap (s:SR K Hs H ρ σ []):SR K Hs H' ρ σ []:=s.stay (Same.refl _) fun a h=>nomatch h
theorem Ac (w:Wf Hs H) (n:Hs p=none) (ho:∀ vs,o≠.tup vs):Wf Hs (upd H p o):=⟨fun b u q=>by
  rw [upd_ne (fun z=>by subst z; rw [n] at q; cases q)]; exact w.sub b u q,fun b us q=>by
  by_cases hb:b=p
  ·subst hb; rw [upd_same] at q; exact absurd (Option.some.inj q) (ho us)
  ·rw [upd_ne hb] at q; exact w.tups b us q⟩
structure CompI (K:PySem.W.Frag) (H1:Hp) (b:Addr) (acc:List D) (ys:List V) (As:List Addr) (Hs:Hp) (ρ:Env) (τ:St) (H:Hp):Prop where
 sm:Same H1 Hs
 sr:SRel K Hs ρ τ H []
 eD:H b=some (.lst ys)
 nD:Hs b=none
 ra:aA K Hs H true acc ys As
 nd:(b :: As).Nodup
 own:∀ a∈As,Hs a=none
theorem CompI.grow (c:CompI K H1 b acc ys As Hs ρ τ H) (g:Grow Hs H Hs' H'):CompI K H1 b acc ys As Hs' ρ τ H' :=
 ⟨c.sm.trans g.sh,c.sr.grow g,g.all _ _ c.eD,g.hsn c.nD (by rw [c.eD]; exact fun z=>nomatch z),c.ra.grow g.sh g.all,c.nd,fun a ha=>g.hsn (c.own a ha) (c.ra.own a ha).ne⟩
theorem CompI.push (c:CompI K H1 b acc ys As Hs ρ τ H) (r:RM K Hs H m d v Bs) (ok:okEl m d) (nb:Bs.Nodup) (fb:∀ a∈Bs,Hs a=none/\a∉b :: As):∃ As',CompI K H1 b (acc++[d]) (ys++[v]) As' Hs ρ τ (upd H b (.lst (ys++[v]))):=by
 obtain ⟨B,sb,rb⟩:∃ B,B.Sublist Bs/\RepO K Hs H true d v B:=by
  rcases ok with hf | rfl
  ·exact ⟨[],xbN _,.sh (fun _=>hf) (r.flat c.sr.wf hf)⟩
  ·exact ⟨Bs,List.Sublist.refl _,r.1⟩
 obtain ⟨na,nA⟩:=xaO.mp c.nd
 have fb':=fun a ha=>fb a (sb.subset ha)
 refine ⟨As++(B++[]),c.sm,⟨c.sr.sr.heap,Ac c.sr.wf c.nD (fun _ z=>nomatch z),xaX,fun a h=>nomatch h⟩,upd_same,c.nD,(c.ra.stay (H':=upd H b (.lst (ys++[v]))) (Same.refl _) fun a ha=>upd_ne fun z=>na (by subst z; exact ha)).append (.cons (rb.stay (Same.refl _) fun a ha=>upd_ne fun z=>(fb' a ha).2 (by subst z; exact xah)) .nil),?_,?_⟩
 ·rw [xaF]
  refine xaO.mpr ⟨fun m=>(xak.mp m).elim na fun m=>(fb' b m).2 xah,xax.mpr ⟨nA,sb.nodup nb,fun x hx y hy e=>(fb' y hy).2 (e ▸ xaf _ hx)⟩⟩
 ·rw [xaF]
  exact fun a ha=>(xak.mp ha).elim (c.own a) fun m=>(fb' a m).1
theorem qN (h:tpE K (g_ wi g tc te tn ix) σ H Qv):vR (tpIb K wi) (tpG K g) (tpT K tc) (tpE K te) tn ix σ H Qv:=by
 obtain ⟨Hs,ρ,tot,Q,sr,h,f⟩:=h
 rw [yq]
 refine ⟨Hs,ρ,tot,_,sr,h,fun J H1 Hs1 ds g1 S hz q1 b hb=>?_⟩
 have st:CompI K H1 b [] [] [] H1 (Ax tn ix ρ) (oF tn ix σ) (upd H1 b (.lst [])):=by
  refine ⟨Same.refl _,⟨qb (mU (G:=H1) (sr.grow g1) _ ix) tn,⟨(Same.refl H1).upd hb,fun a xs e=>?_⟩,xaX,fun a h=>nomatch h⟩,upd_same,hb,.nil,by simp,fun a h=>nomatch h⟩
  by_cases ha:a=b
  ·subst ha; rw [upd_same] at e; cases e
  ·rw [upd_ne ha] at e; exact e
 refine ⟨fun i m τ H2=>m=ds.length - i/\i<=ds.length/\∃ Hs2 ρ2 acc ys As,CompI K H1 b acc ys As Hs2 ρ2 τ H2/\acc.length<=i/\jm g tc te (ds.drop i) ρ2 (fun out=>Q (.ow true) (.list (acc++out))),
  ⟨ds.length,by simp,xaq _,H1,_,[],[],[],st,xae _,by simpa using q1⟩,?_⟩
 rintro i m τ H2 ⟨rfl,hi,Hs2,ρ2,acc,ys,As,c,la,q2⟩
 by_cases hlt:i<ds.length
 ·refine .inr ⟨S.go i Hs2 H2 c.sm c.sr.wf hlt,
   fun τ3 v H4=>∃ Hs4 ρ4 d,CompI K H1 b acc ys As Hs4 ρ4 τ3 H4/\(∃ As',CompI K H1 b (acc++[d]) (ys++[v]) As' Hs4 ρ4 τ3 (upd H4 b (.lst (ys++[v]))))/\jm g tc te (ds.drop (i+1)) ρ4 (fun out=>Q (.ow true) (.list (acc++d :: out))),
   fun τ3 H3=>∃ Hs3 ρ3,CompI K H1 b acc ys As Hs3 ρ3 τ3 H3/\jm g tc te (ds.drop (i+1)) ρ3 (fun out=>Q (.ow true) (.list (acc++out))),?_,?_,?_⟩
  ·rintro τ3 v H4 ⟨Hs4,ρ4,d,c4,⟨As',c5⟩,q4⟩
   have lya:=c4.ra.length
   exact ⟨ys,ds.length - (i+1),c4.eD,by lia,by lia,rfl,hlt,Hs4,ρ4,acc++[d],ys++[v],As',c5,by rw [xaD]; simpa using la,by simpa using q4⟩
  ·rintro τ3 H3 ⟨Hs3,ρ3,c3,q3⟩
   exact ⟨ds.length - (i+1),by lia,rfl,hlt,Hs3,ρ3,acc,ys,As,c3,by lia,q3⟩
  ·intro x H3 y
   obtain ⟨Hs3,g3,rd⟩:=S.yld i Hs2 H2 x H3 ds[i] c.sm c.sr.wf (by simp [hlt]) y
   rw [xba hlt] at q2
   have c3:=c.grow g3
   refine ⟨Hs3,ρ2,[],ds[i],_,c3.sr,rd,q2,fun τ4 ρ4 tot4 sr4 m4 q4=>?_⟩
   have t4:tot4=[]:=List.eq_nil_iff_forall_not_mem.mpr fun a ha=>nomatch m4 a ha
   subst t4
   have c4:CompI K H1 b acc ys As Hs3 ρ4 τ4 H3:=⟨c3.sm,sr4,c3.eD,c3.nD,c3.ra,c3.nd,c3.own⟩
   refine ⟨Hs3,ρ4,[],_,sr4,q4,fun k H5 Hs5 g5 q5=>?_⟩
   have c5:=c4.grow g5
   cases k with
   | false=>exact ⟨Hs5,ρ4,c5,q5⟩
   | true =>
    refine ⟨Hs5,ρ4,[],_,c5.sr,q5,fun v H6 Hs6 m6 d6 As6 g6 r6 f6 q6=>?_⟩
    have c6:=c5.grow g6
    refine ⟨Hs6,ρ4,d6,c6,c6.push r6 q6.1 f6.1 fun a ha=>⟨(f6.2 a ha).1,fun m=>?_⟩,q6.2⟩
    rcases xaj.mp m with rfl | m
    ·have:=(f6.2 _ ha).2
     rw [c5.eD] at this; cases this
    ·exact (c5.ra.own a m).ne (f6.2 a ha).2
 ·have e:i=ds.length:=by lia
  subst e
  refine .inl ⟨S.stop Hs2 H2 c.sm c.sr.wf,?_⟩
  rw [xcL] at q2
  have q2:Q (.ow true) (.list (acc++[])):=q2
  rw [xaF] at q2
  have lya:=c.ra.length
  have rm:RM K Hs2 H2 (.ow true) (.list acc) (.ref b) (b :: As):=⟨.list (by lia) c.eD c.ra,by simp⟩
  obtain ⟨As',r',fr⟩:=pU g1.wf c.sm c.sr.wf rm c.nd fun a ha=>(xaj.mp ha).elim (fun z=>z ▸ c.nD) (c.own a)
  exact Fin.after f g1 (.ref b) H2 _ (.ow true) (.list acc) As' (dR g1.wf c.sm c.sr.wf) r' fr q2
theorem PTs.imp (h:PTs X ifs t) (i:∀ σ H Q,t' σ H Q->t σ H Q):PTs X ifs t':=fun pins s σ H Q I q=>h pins s σ H Q I (i σ H Q q)
abbrev QTs (X:Cx) (K:PySem.W.Frag) (ifs:List Expr) (t:WT):Prop:=PTs X ifs (tpT K t)
theorem gH:QTs X K [] wYes:=PTs.imp CP fun σ H Qv hx=>ex4 hx fun Hs ρ tot Q sr h k=>k true H Hs (Grow.refl sr.wf) h
theorem sW (h:QT X K c t):QTs X K [c] t:=Cy h
theorem iC (hc:X.calm=true) (hi:QIb X K tg iter wi) (O:cH X scope tn cn ix)
  (hg:∀ C fp s₃ H₃,QG (bf X scope C (tn++cn) fp s₃ H₃) K tg g) (hcs:∀ C fp s₃ H₃,QTs (bf X scope C (tn++cn) fp s₃ H₃) K ifs tc) (he:∀ C fp s₃ H₃,QE (bf X scope C (tn++cn) fp s₃ H₃) K elt te)
  (hs:∀ x,foldedSetIterable iter X.env x=pure x:=by intro _; rfl):QE X K (.ListComp elt [⟨tg,iter,ifs,0⟩] scope pos) (g_ wi g tc te tn.length ix) :=
 PE.imp (BZ hc hi O hg hcs he hs) fun σ H Qv h=>qN h
end
theorem b8 (p:D->Bool) (f:D->D) (Iv:Env->Prop):∀ (xs:List D) (ρ:Env) (k:List D->Prop),Iv ρ ->
  (∀ x∈xs,∀ ρ,Iv ρ->∀ N1:Env->Prop,∀ N2:Env->D->Prop,(∀ ρ',Iv ρ'->p x=false->N1 ρ')->(∀ ρ',Iv ρ'->p x=true->N2 ρ' (f x))->g x ρ fun ρ1=>tc ρ1 fun b=>if b=true then te ρ1 fun m d=>okEl m d/\N2 ρ1 d else N1 ρ1) ->
  k ((xs.filter p).map f)->jm g tc te xs ρ k
 | [],_,k,_,_,h=>h
 | x :: xs,ρ,k,iv,hs,h=>by
  refine hs x xah ρ iv _ _ (fun ρ' iv' hp=>?_) (fun ρ' iv' hp=>?_)
  ·exact b8 p f Iv xs ρ' k iv' (fun y hy=>hs y (xaf _ hy)) (by simpa [hp] using h)
  ·exact b8 p f Iv xs ρ' _ iv' (fun y hy=>hs y (xaf _ hy)) (by simpa [hp] using h)
def Upd (K:PySem.W.Frag) (Hs H:Hp) (σ:St) (fl:Bool) (v:V) (up:Bool->D->Env) (As':List Addr):Prop:=∀ Hs2 H2 fl2 d2 As2,Same Hs Hs2->Wf Hs2 H2->(∀ a,Hs a=none->H a≠none->Hs2 a=none)->(fl2=true->fl=true) ->
  RepO K Hs2 H2 fl2 d2 v As2->As2≠[]->As2.Nodup->(∀ a∈As2,Hs2 a=none/\(a∈As'\/H a=none))->(∀ a,H a≠none->a∉As'->H2 a=H a)->∃ tot2,SRel K Hs2 (up fl2 d2) σ H2 tot2
structure Place (K:PySem.W.Frag) (Hs H:Hp) (σ:St) (fl:Bool) (d:D) (v:V) (up:Bool->D->Env):Prop where
 ex:∃ As',RepO K Hs H fl d v As'/\As'≠[]/\As'.Nodup/\(∀ a∈As',Hs a=none)/\Upd K Hs H σ fl v up As'
theorem Upd.node {K:PySem.W.Frag} (k:Upd K Hs H σ fl (.ref a) up (a :: A)) (g:Grow Hs H Hs2 H2) (own:∀ x∈a :: A,Hs x=none/\H x≠none) (ho:∀ vs,o≠.tup vs) (hf:fl2=true->fl=true)
  (r:RepO K Hs2 (upd H2 a o) fl2 d2 (.ref a) (a :: C)) (nC:C.Nodup) (naC:a∉C) (hC:∀ x∈C,x∈A\/(Hs2 x=none/\H x=none)):∃ tot2,SRel K Hs2 (up fl2 d2) σ (upd H2 a o) tot2:=by
 have hn:∀ x∈a :: A,Hs2 x=none:=fun x hx=>g.hsn (own x hx).1 (own x hx).2
 refine k Hs2 _ fl2 d2 (a :: C) g.sh (Ac g.wf (hn a xah) ho) (fun b h1 h2=>g.hsn h1 h2) hf r (xcj _ _) (xaO.mpr ⟨naC,nC⟩) (fun b hb=>?_) fun b h1 h2=>?_
 ·rcases xaj.mp hb with rfl | hb
  ·exact ⟨hn _ xah,.inl xah⟩
  ·exact (hC b hb).elim (fun q=>⟨hn b (xaf _ q),.inl (xaf _ q)⟩) fun q=>⟨q.1,.inr q.2⟩
 ·rw [upd_ne fun z=>h2 (by subst z; exact xah)]
  cases q:H b with
  | none=>exact absurd q h1
  | some o=>exact g.all b o q
abbrev WP:=Env->(Bool->D->(Bool->D->Env)->Prop)->Prop
def tpP (K:PySem.W.Frag) (t:WP):TE:=fun σ H Qv=>∃ Hs ρ tot Q,SRel K Hs ρ σ H tot/\t ρ Q/\∀ v H' Hs' fl d up,Grow Hs H Hs' H'->Place K Hs' H' σ fl d v up->Q fl d up->Qv v H'
abbrev QP (X:Cx) (K:PySem.W.Frag) (e:Expr) (t:WP):Prop:=PE X e (tpP K t)
section
variable {K:PySem.W.Frag} {Hs H Hs' H':Hp} {σ:St} {fl:Bool} {d:D} {v:V} {up:Bool->D->Env}
theorem Place.grow (p:Place K Hs H σ fl d v up) (g:Grow Hs H Hs' H'):Place K Hs' H' σ fl d v up:=by
 obtain ⟨As',r,ne,nd,own,k⟩:=p.ex
 refine ⟨As',r.grow g.sh g.all,ne,nd,fun a h=>g.hsn (own a h) (r.own a h).ne,fun Hs2 H2 fl2 d2 As2 s2 w2 n2 hf r2 ne2 nd2 o2 st=>?_⟩
 refine k Hs2 H2 fl2 d2 As2 (g.sh.trans s2) w2 (fun a h1 h2=>n2 a (g.hsn h1 h2) ?_) hf r2 ne2 nd2 (fun a h=>⟨(o2 a h).1,(o2 a h).2.imp id g.all.free⟩) fun a h1 h2=>?_
 ·cases e:H a with
  | none=>exact absurd e h2
  | some o=>rw [g.all a o e]; exact fun z=>nomatch z
 ·cases e:H a with
  | none=>exact absurd e h1
  | some o =>
   have:=g.all a o e
   rw [<- this]
   exact st a (by rw [this]; exact fun z=>nomatch z) h2
theorem RepO.ne2:(∀ {d:D} {v:V} {As:List Addr},RepO K Hs H true d v As->d.flat=false->As≠[])/\∀ {ds:List D} {vs:List V} {As:List Addr},aA K Hs H true ds vs As->flats ds=false->As≠[] :=
 RepO.ind (m1:=fun d _ As=>d.flat=false->As≠[]) (m2:=fun ds _ As=>flats ds=false->As≠[]) (fun _ _ f _ h=>by rw [f rfl] at h; cases h) (fun _ _ _ _ _ _ _ _ _=>xcj _ _) (fun _ _ _ _ _ _ n _ ih _=>ih n) (fun _ _ _ _ _ _ _ _ _=>xcj _ _) (fun _ _ _ _ _ _ _ _ _=>xcj _ _)
  (fun h=>by simp [flats] at h) fun d _ _ _ _ _ _ _ i1 i2 h=>by
   cases e:d.flat with
   | false=>exact fun z=>i1 e (xbA.mp z).1
   | true =>
    simp only [flats,e,Bool.true_and] at h
    exact fun z=>i2 h (xbA.mp z).2
theorem RepO.ne (r:RepO K Hs H true d v As) (h:d.flat=false):As≠[]:=RepO.ne2.1 r h
theorem aA.ne (r:aA K Hs H true ds vs As) (h:flats ds=false):As≠[]:=RepO.ne2.2 r h
def wpN (i:Nat):WP:=fun ρ Q=>match ρ[i]? with
 | some (some (.ow fl d))=>Q fl d fun fl2 d2=>ρ.set i (some (.ow fl2 d2))
 | _=>False
theorem SR.put (i:Nat) (s:SR K Hs H ρ σ tot):ρ[i]? = some (some (.ow fl d))->tot.Nodup ->
  ∃ (v:V) (As tot':List Addr),σ[i]? = some (some v)/\As≠[]/\RepO K Hs H fl d v As/\As.Sublist tot/\∀ Hs2 H2 fl2 d2 As2,Same Hs Hs2->RepO K Hs2 H2 fl2 d2 v As2->As2≠[]->As2.Nodup->(∀ a∈As2,a∈tot->a∈As)->(∀ a∈tot,a∉As->H2 a=H a) ->
   ∃ tot2,tot2.Nodup/\(∀ a∈tot2,a∈tot\/a∈As2)/\SR K Hs2 H2 (ρ.set i (some (.ow fl2 d2))) σ tot2:=by
 induction s generalizing i with
 | nil=>intro e; simp at e
 | @non ρ σ tot o q ih =>
  intro e n
  cases i with
  | zero=>simp at e
  | succ i =>
   obtain ⟨v,As,t,a,b,c,d,g⟩:=ih i (by simpa using e) n
   refine ⟨v,As,t,by simpa using a,b,c,d,fun Hs2 H2 fl2 d2 As2 s2 r2 ne2 nd2 dj st=>?_⟩
   obtain ⟨t2,x,y,z⟩:=g Hs2 H2 fl2 d2 As2 s2 r2 ne2 nd2 dj st
   exact ⟨t2,x,y,.non z⟩
 | sh r q ih =>
  intro e n
  cases i with
  | zero=>simp at e
  | succ i =>
   obtain ⟨v,As,t,a,b,c,d,g⟩:=ih i (by simpa using e) n
   refine ⟨v,As,t,by simpa using a,b,c,d,fun Hs2 H2 fl2 d2 As2 s2 r2 ne2 nd2 dj st=>?_⟩
   obtain ⟨t2,x,y,z⟩:=g Hs2 H2 fl2 d2 As2 s2 r2 ne2 nd2 dj st
   exact ⟨t2,x,y,.sh (r.same s2) z⟩
 | xc q ih =>
  intro e n
  cases i with
  | zero=>simp at e
  | succ i =>
   obtain ⟨v,As,t,a,b,c,d,g⟩:=ih i (by simpa using e) n
   refine ⟨v,As,t,by simpa using a,b,c,d,fun Hs2 H2 fl2 d2 As2 s2 r2 ne2 nd2 dj st=>?_⟩
   obtain ⟨t2,x,y,z⟩:=g Hs2 H2 fl2 d2 As2 s2 r2 ne2 nd2 dj st
   exact ⟨t2,x,y,.xc z⟩
 | @ow ρ σ t2 B fl0 d0 v ne r q ih =>
  intro e n
  obtain ⟨n1,n2,n3⟩:=xax.mp n
  cases i with
  | zero =>
   simp at e
   obtain ⟨rfl,rfl⟩:=e
   refine ⟨v,B,t2,rfl,ne,r,xbd _ _,fun Hs2 H2 fl2 d2 As2 s2 r2 ne2 nd2 dj st=>⟨As2++t2,xax.mpr ⟨nd2,n2,fun a ha b hb e=>?_⟩,fun a h=>?_,.ow ne2 r2 (q.stay s2 fun a h=>st a (xag _ h) fun z=>n3 a z a h rfl)⟩⟩
   ·subst e
    exact n3 a (dj a ha (xag _ hb)) a hb rfl
   ·exact (xak.mp h).symm.imp (fun z=>xag _ z) id
  | succ i =>
   obtain ⟨v,As,t,a,b,c,d,g⟩:=ih i (by simpa using e) n2
   have hB:∀ x∈B,x∉As:=fun x hx m=>n3 x hx x (d.subset m) rfl
   refine ⟨v,As,B++t,by simpa using a,b,c,d.trans (xau _ _),fun Hs2 H2 fl2 d2 As2 s2 r2 ne2 nd2 dj st=>?_⟩
   obtain ⟨t2,x,y,z⟩:=g Hs2 H2 fl2 d2 As2 s2 r2 ne2 nd2 (fun a ha m=>dj a ha (xag _ m)) fun a ha m=>st a (xag _ ha) m
   refine ⟨B++t2,xax.mpr ⟨n1,x,fun a ha b hb e=>?_⟩,fun a h=>?_,.ow ne (r.stay s2 fun a h=>st a (xav _ h) (hB a h)) z⟩
   ·subst e
    rcases y a hb with w | w
    ·exact n3 a ha a w rfl
    ·exact hB a ha (dj a w (xav _ ha))
   ·rcases xak.mp h with w | w
    ·exact .inl (xav _ w)
    ·exact (y a w).imp (fun w=>xag _ w) id
 | @lk ρ σ t2 B a0 fl0 d0 ne r q ih =>
  intro e n
  obtain ⟨n1,n2,n3⟩:=xax.mp n
  cases i with
  | zero=>simp at e
  | succ i =>
   obtain ⟨v,As,t,a,b,c,d,g⟩:=ih i (by simpa using e) n2
   have hB:∀ x∈B,x∉As:=fun x hx m=>n3 x hx x (d.subset m) rfl
   refine ⟨v,As,B++t,by simpa using a,b,c,d.trans (xau _ _),fun Hs2 H2 fl2 d2 As2 s2 r2 ne2 nd2 dj st=>?_⟩
   obtain ⟨t2,x,y,z⟩:=g Hs2 H2 fl2 d2 As2 s2 r2 ne2 nd2 (fun a ha m=>dj a ha (xag _ m)) fun a ha m=>st a (xag _ ha) m
   refine ⟨B++t2,xax.mpr ⟨n1,x,fun a ha b hb e=>?_⟩,fun a h=>?_,.lk ne (r.stay s2 fun a h=>st a (xav _ h) (hB a h)) z⟩
   ·subst e
    rcases y a hb with w | w
    ·exact n3 a ha a w rfl
    ·exact hB a ha (dj a w (xav _ ha))
   ·rcases xak.mp h with w | w
    ·exact .inl (xav _ w)
    ·exact (y a w).imp (fun w=>xag _ w) id
theorem eG {X:Cx} (h:PE X e (tVar i)):QP X K e (wpN i):=PE.imp h fun σ H Qv hx=>ex4 hx fun Hs ρ tot Q sr h f=>by
 unfold wpN at h
 split at h
 ·rename_i fl d e1
  obtain ⟨v,As,t,e2,ne,r,sb,g⟩:=SR.put i sr.sr e1 sr.nod
  refine ⟨v,e2,f v H Hs fl d _ (Grow.refl sr.wf) ⟨As,r,ne,sb.nodup sr.nod,fun a h=>sr.own a (sb.subset h),fun Hs2 H2 fl2 d2 As2 s2 w2 n2 _ r2 ne2 nd2 o2 st=>?_⟩ h⟩
  obtain ⟨t2,x,y,z⟩:=g Hs2 H2 fl2 d2 As2 s2 r2 ne2 nd2 (fun a ha m=>(o2 a ha).2.elim id fun q=>absurd q (sr.sr.own a m).ne) fun a ha m=>st a (sr.sr.own a ha).ne m
  exact ⟨t2,z,w2,x,fun a h=>(y a h).elim (fun q=>n2 a (sr.own a q) (sr.sr.own a q).ne) fun q=>(o2 a q).1⟩
 ·exact h.elim
theorem RepO.wk (h:fl2=true->fl=true) (r:RepO K Hs H fl d v As):RepO K Hs H fl2 d v As:=by
 cases fl2 with
 | false=>exact r.fls
 | true=>rw [h rfl] at r; exact r
theorem aA.wk {fl fl2:Bool} {d:List D} {v:List V} {As:List Addr} (h:fl2=true->fl=true) (r:aA K Hs H fl d v As):aA K Hs H fl2 d v As:=by
 cases fl2 with
 | false=>exact r.fls
 | true=>rw [h rfl] at r; exact r
theorem aA.at (r:aA K Hs H fl ds vs As) (e:ds[j]? = some d) (n:As.Nodup) :
  ∃ (v:V) (B:List Addr),vs[j]? = some v/\RepO K Hs H fl d v B/\B.Sublist As/\∀ Hs2 H2 fl2 d2 B2,Same Hs Hs2->(fl2=true->fl=true)->RepO K Hs2 H2 fl2 d2 v B2->B2.Nodup->(∀ a∈B2,a∈As->a∈B)->(∀ a∈As,a∉B->H2 a=H a) ->
   ∃ As2,As2.Nodup/\(∀ a∈As2,(a∈As/\a∉B)\/a∈B2)/\(B2≠[]->As2≠[])/\aA K Hs2 H2 fl2 (ds.set j d2) vs As2:=by
 induction ds generalizing vs As j with
 | nil=>simp at e
 | cons x ds ih =>
  obtain ⟨v,us,A,B,rfl,rfl,r,rs⟩:=r.c
  obtain ⟨n1,n2,n3⟩:=xax.mp n
  cases j with
  | zero =>
   simp at e
   subst e
   refine ⟨v,A,rfl,r,xbd _ _,fun Hs2 H2 fl2 d2 B2 s2 hf r2 nd2 dj st=>⟨B2++B,xax.mpr ⟨nd2,n2,fun a ha b hb e=>?_⟩,fun a h=>?_,fun ne z=>ne (xbA.mp z).1,.cons r2 ((rs.wk hf).stay s2 fun a h=>st a (xag _ h) fun z=>n3 a z a h rfl)⟩⟩
   ·subst e
    exact n3 a (dj a ha (xag _ hb)) a hb rfl
   ·rcases xak.mp h with w | w
    ·exact .inr w
    ·exact .inl ⟨xag _ w,fun z=>n3 a z a w rfl⟩
  | succ j =>
   obtain ⟨v,C,a,b,c,g⟩:=ih (j:=j) rs (by simpa using e) n2
   have hA:∀ x∈A,x∉C:=fun x hx m=>n3 x hx x (c.subset m) rfl
   refine ⟨v,C,by simpa using a,b,c.trans (xau _ _),fun Hs2 H2 fl2 d2 B2 s2 hf r2 nd2 dj st=>?_⟩
   obtain ⟨As2,x,y,w,z⟩:=g Hs2 H2 fl2 d2 B2 s2 hf r2 nd2 (fun a ha m=>dj a ha (xag _ m)) fun a ha m=>st a (xag _ ha) m
   refine ⟨A++As2,xax.mpr ⟨n1,x,fun a ha b hb e=>?_⟩,fun a h=>?_,fun ne q=>w ne (xbA.mp q).2,.cons ((r.wk hf).stay s2 fun a h=>st a (xav _ h) (hA a h)) z⟩
   ·subst e
    rcases y a hb with q | q
    ·exact n3 a ha a q.1 rfl
    ·exact hA a ha (dj a q (xav _ ha))
   ·rcases xak.mp h with q | q
    ·exact .inl ⟨xav _ q,hA a q⟩
    ·exact (y a q).imp (fun q=>⟨xag _ q.1,q.2⟩) id
end
section
variable {X:Cx} {K:PySem.W.Frag} {e:Expr} {p:WP} {te:WE} {apos cpos pos:Pos}
def nj (fl:Bool) (m:Md) (d:D):Option Bool:=match m with
 | .sh=>some (fl && d.flat)
 | .ow b=>some (fl && b)
 | .bo=>bif d.flat then some fl else none
def wApp (p:WP) (te:WE):WS:=fun E ρ=>p ρ fun fl d up=>match d with
 | .list xs=>te ρ fun m x=>xs.length<sizeLine/\match nj fl m x with
  | some fl2=>E.nx (up fl2 (.list (xs++[x])))
  | none=>False
 | _=>False
theorem zu (w:Wf Hs H) (r:RM K Hs H m d v As) (h:nj fl m d=some fl2):(fl2=true->fl=true)/\∃ B,B.Sublist As/\RepO K Hs H fl2 d v B:=by
 cases m with
 | sh =>
  cases h
  exact ⟨fun z=>by cases fl <;> simp_all,[],xbN _,.sh (fun z=>by cases fl <;> simp_all) r.2⟩
 | ow b =>
  cases h
  refine ⟨fun z=>by cases fl <;> simp_all,As,List.Sublist.refl _,r.1.wk fun z=>by cases fl <;> simp_all⟩
 | bo =>
  cases hf:d.flat with
  | true =>
   simp only [nj,hf,cond_true,Option.some.injEq] at h
   subst h
   exact ⟨id,[],xbN _,.sh (fun _=>hf) (r.flat w hf)⟩
  | false=>simp [nj,hf] at h
theorem Place.put (pl:Place K Hs1 H1 σ fl (.list xs) v up) (g:Grow Hs1 H1 Hs2 H2) :
  ∃ a vs A,v=.ref a/\H2 a=some (.lst vs)/\H1 a=some (.lst vs)/\aA K Hs2 H2 fl xs vs A/\(a :: A).Nodup/\(∀ x∈a :: A,Hs2 x=none/\H1 x≠none) /\
   ∀ fl2 ys ws C,(fl2=true->fl=true)->aA K Hs2 H2 fl2 ys ws C->ws.length<=sizeLine->C.Nodup->a∉C->(∀ x∈C,x∈A\/(Hs2 x=none/\H1 x=none))->∃ tot2,SRel K Hs2 (up fl2 (.list ys)) σ (upd H2 a (.lst ws)) tot2:=by
 obtain ⟨As',r,ne,nd,own,k⟩:=pl.ex
 cases r with
 | sh hf _=>exact absurd rfl ne
 | @list a vs _ A hz e rs =>
  have e2:=g.all _ _ e
  have rs2:=rs.grow g.sh g.all
  have hw:∀ x∈a :: A,Hs1 x=none/\H1 x≠none:=fun x hx=>⟨own x hx,by
   rcases xaj.mp hx with rfl | hx
   ·rw [e]; exact fun z=>nomatch z
   ·exact (rs.own x hx).ne⟩
  exact ⟨a,vs,A,rfl,e2,e,rs2,nd,fun x hx=>⟨g.hsn (hw x hx).1 (hw x hx).2,(hw x hx).2⟩,fun fl2 ys ws C hf rw' hz ndC naC hC=>k.node g hw (fun _ z=>by cases z) hf (.list hz upd_same (rw'.stay (Same.refl _) fun b hb=>upd_ne fun z=>naC (by subst z; exact hb))) ndC naC hC⟩
theorem Place.isL (w:Wf Hs1 H1) (pl:Place K Hs1 H1 σ fl (.list xs) v up):∃ a vs,v=.ref a/\SqL K H1 a vs:=by
 obtain ⟨As',r,ne,nd,own,k⟩:=pl.ex
 cases r with
 | sh hf _=>exact absurd rfl ne
 | list hz e rs=>exact ⟨_,_,rfl,.inl (.inl e)⟩
theorem pZ (ho:QP X K e p) (he:QE X K e2 te) (hK:X.K=K:=by rfl) (hs:swapsWith (.Call (.Attribute e "append" apos) [e2] [] cpos) none pos.line X.env=pure false:=by rfl)
  (hbase:attributeBase e "append" X.env (eval e X.env)=eval e X.env:=by rfl)
  (hfew:((backTo cpos (starEach [e2] X.env)).all (fun x=>!x.1) && (backToKw cpos (keywordEach [] X.env)).all (fun x=>x.1.isSome)
   && decide ([e2].length+([]:List Keyword).length+(if ([]:List Keyword).isEmpty then 0 else 1)<30))=true:=by rfl)
  (hline:(apos.endLine == cpos.line)=true:=by rfl) (hss:starEach (e2 :: []) X.env=(false,eval e2 X.env) :: starEach [] X.env:=by rfl) (hplain:(backTo cpos (starEach [] X.env)).any (·.1)=false:=by rfl) :
  QS X K L (.Expr (.Call (.Attribute e "append" apos) [e2] [] cpos) pos) (wApp p te):=by
 subst hK
 refine PS.imp (ps_expr (pe_bm PySem.F.plainAttrs_list PySem.F.slot_list_append PySem.F.type_list_append mt_append ho (pa_cons he pa_nil hss) hbase hfew hline hss hplain) hs) fun D σ H hx=>iI hx fun Hs ρ tot E sr h k1 k2 k3 k4=>?_
 refine ⟨Hs,ρ,tot,_,sr,h,fun v H1 Hs1 fl d up g1 p1 q1=>?_⟩
 cases d with
 | list xs =>
  obtain ⟨a1,vs1,e1,s1⟩:=p1.isL g1.wf
  subst e1
  refine ⟨.inl ⟨rfl,_,s1⟩,Hs1,ρ,tot,_,sr.grow g1,q1,fun y H2 Hs2 m x As g2 r2 f2 q2=>?_⟩
  obtain ⟨hz,q2⟩:=q2
  obtain ⟨a,vs,A,ea,e2,_,rs,nd,hn,k⟩:=p1.put g2
  cases ea
  have hl:=rs.length
  refine ⟨a1,vs,y,rfl,rfl,e2,by lia,?_⟩
  cases hp:nj fl m x with
  | none=>rw [hp] at q2; exact q2.elim
  | some fl2 =>
   rw [hp] at q2
   obtain ⟨hf,B,sb,rb⟩:=zu g2.wf r2 hp
   obtain ⟨na,nA⟩:=xaO.mp nd
   have fB:∀ x∈B,Hs2 x=none/\H1 x=none:=fun x hx=>f2.2 x (sb.subset hx)
   have c1:(A++(B++[])).Nodup:=by
    rw [xaF]
    exact xax.mpr ⟨nA,sb.nodup f2.1,fun x hx z hz e=>by subst e; exact (hn x (xaf _ hx)).2 (fB x hz).2⟩
   have c2:a1∉A++(B++[]):=by
    rw [xaF]
    intro m
    rcases xak.mp m with m | m
    ·exact na m
    ·exact (hn _ xah).2 (fB _ m).2
   have c3:∀ x∈A++(B++[]),x∈A\/(Hs2 x=none/\H1 x=none):=by
    rw [xaF]
    intro x hx
    exact (xak.mp hx).imp id fun z=>fB x z
   obtain ⟨tot2,sr2⟩:=k fl2 (xs++[x]) (vs++[y]) (A++(B++[])) hf ((rs.wk hf).append (.cons rb .nil)) (by rw [xaD]; simp; lia) c1 c2 c3
   exact k1 σ _ Hs2 _ tot2 (g1.sh.trans g2.sh) sr2 q2
 | _=>exact q1.elim
section
variable {κ:Type} [DecidableEq κ]
theorem za {β:Type} {kvs:List (κ × β)} {k:κ} {v:β} {p:κ × β} (h:p∈putG kvs k v):p.1=k\/p.1∈kvs.map (·.1):=by
 unfold putG at h
 split at h
 ·obtain ⟨q,hq,e⟩:=xai.mp h
  by_cases hk:q.1=k
  ·rw [if_pos hk] at e; subst e; exact .inl hk
  ·rw [if_neg hk] at e; subst e; exact .inr (xai.mpr ⟨q,hq,rfl⟩)
 ·rcases xak.mp h with h | h
  ·exact .inr (xai.mpr ⟨p,h,rfl⟩)
  ·have:p=(k,v):=by simpa using h
   subst this; exact .inl rfl
end
end
abbrev WJ:=Env->Str->(Str->Prop)->Prop
section
variable {X:Cx} {K:PySem.W.Frag} {e:Expr} {te:WE} {j:WJ}
def lG:List D->Option (List Str)
 | []=>some []
 | .str x :: xs=>(lG xs).map (x :: ·)
 | _ :: _=>none
def uJ (to te:WE):WE:=fun ρ Q=>to ρ fun _ x=>match x with
 | .str z=>te ρ fun _ y=>match y with
  | .list ys=>∃ zs,lG ys=some zs/\(zs.map (·.length)).sum+zs.length * z.length<=16777216/\Q .sh (.str (Str.join z zs))
  | _=>False
 | _=>False
theorem zB (r:Reps K H ds vs) (q:Vals vs us) (h:lG ds=some zs):StrsAre us zs:=by
 induction ds generalizing vs us zs with
 | nil =>
  simp [lG] at h
  subst h
  have:=r.n0
  subst this
  rw [Paired.n0 q]; exact .nil
 | cons d ds ih =>
  obtain ⟨v,vs,rfl,r1,rs⟩:=r.c
  obtain ⟨u,us,rfl,q1,qs⟩:=Paired.c q
  cases r1 with
  | str hz =>
   simp only [lG] at h
   cases e:lG ds with
   | none=>rw [e] at h; cases h
   | some ys =>
    rw [e] at h
    cases h
    obtain ⟨t,rfl⟩:=q1
    exact .cons _ t (ih rs qs e)
  | _=>simp [lG] at h
theorem CN (hK:X.K=K:=by rfl):MtR X "str.join" (fun x xs H Q=>∃ z a ds vs zs,x=.str z/\xs=[.ref a]/\SqL K H a vs/\Reps K H ds vs/\lG ds=some zs/\(zs.map (·.length)).sum+zs.length * z.length<=16777216/\Q (.str (Str.join z zs)) H):=by
 subst hK
 intro pins s σ H x xs v us Q I rx rs h
 obtain ⟨z,a,ds,vs,zs,rfl,rfl,hs,rr,e,hz,q⟩:=h
 obtain ⟨t,rfl⟩:=rx
 obtain ⟨u,rfl,ru⟩:=Vals.one rs
 cases ru
 obtain ⟨its,rv,pl,_⟩:=I.list hs
 exact join_list pl.isList (by simpa using zB rr rv e) hz fun t' k=>⟨.str _,H,I.tok _,⟨t',rfl⟩,by rw [show Txt.join z zs=Str.join z zs from StrLaws.glued_eq_join z zs]; exact q⟩
theorem ur:∀ {zs:List Str},(Str.join z zs).length<=(zs.map (·.length)).sum+zs.length * z.length
 | []=>by show Str.empty.length<=_; exact xaB (show Str.empty.length<=0 by decide) (xaq _)
 | [x]=>by simp [Str.join]
 | x :: y :: r=>by
  have ih:=ur (z:=z) (zs:=y :: r)
  show (x++z++Str.join z (y :: r)).length<=_
  rw [b_,b_]
  simp only [xas,List.sum_cons,xa0,Nat.add_mul,Nat.one_mul] at ih ⊢
  lia
theorem Ex (ho:QE X K o to) (he:QE X K e te) (hK:X.K=K:=by rfl)
  (hbase:attributeBase o "join" X.env (eval o X.env)=eval o X.env:=by rfl)
  (hfew:((backTo cpos (starEach [e] X.env)).all (fun x=>!x.1) && (backToKw cpos (keywordEach [] X.env)).all (fun x=>x.1.isSome)
   && decide ([e].length+([]:List Keyword).length+(if ([]:List Keyword).isEmpty then 0 else 1)<30))=true:=by rfl)
  (hline:(apos.endLine == cpos.line)=true:=by rfl) (hss:starEach (e :: []) X.env=(false,eval e X.env) :: starEach [] X.env:=by rfl) (hplain:(backTo cpos (starEach [] X.env)).any (·.1)=false:=by rfl) :
  QE X K (.Call (.Attribute o "join" apos) [e] [] cpos) (uJ to te):=by
 subst hK
 refine PE.imp (pe_bm PySem.F.plainAttrs_str PySem.F.slot_str_join PySem.F.type_str_join CN ho (pa_cons he pa_nil hss) hbase hfew hline hss hplain) fun σ H Qv hx=>ex4 hx fun Hs ρ tot Q sr h f=>?_
 refine ⟨Hs,ρ,tot,_,sr,h,fun v H1 Hs1 m x As g1 r1 f1 q1=>?_⟩
 have r:=r1.rep g1.wf
 cases r with
 | str hz =>
  refine ⟨rfl,Hs1,ρ,tot,_,sr.grow g1,q1,fun y H2 Hs2 m2 x2 As2 g2 r2 f2 q2=>?_⟩
  have rr:=r2.rep g2.wf
  cases rr with
  | list z s rs =>
   obtain ⟨zs,e,hz,q⟩:=q2
   exact ⟨_,_,_,_,zs,rfl,rfl,s,rs,e,hz,Fin.sh (Fin.after f (g1.trans g2)) g2.wf (.str (xaB ur (by rw [sizeLine_eq]; exact hz))) q⟩
  | _=>exact q2.elim
 | _=>exact q1.elim
def keyT (k:List Key):D:=.tup (k.map keyD)
def wg:W1:=fun _ x Q=>match x with
 | .list xs=>∃ ks sh,xs=ks.map keyT/\(∀ k∈ks,shOf k=true :: sh)/\∀ ms:List (List Key),ms.Perm ks->(ms.Pairwise fun a b=>ltK b a=false)->Q (.ow true) (.list (ms.map keyT))
 | _=>False
theorem xX {H:Hp} {ks:List Key} {vs:List V} (r:Reps K H (ks.map keyD) vs):vs=ks.map kV/\∀ k∈ks,kOk k=true:=by
 induction ks generalizing vs with
 | nil=>exact ⟨r.n0,fun k h=>nomatch h⟩
 | cons k ks ih =>
  obtain ⟨u,us,rfl,r1,rs⟩:=Reps.c (d:=keyD k) r
  obtain ⟨e,o⟩:=ih rs
  subst e
  cases k with
  | inl i=>cases r1; exact ⟨rfl,fun j hj=>by rcases xaj.mp hj with rfl | hj; rfl; exact o j hj⟩
  | inr x =>
   cases r1 with
   | str hz=>exact ⟨rfl,fun j hj=>by rcases xaj.mp hj with rfl | hj; simp [kOk,hz]; exact o j hj⟩
theorem xY {H:Hp} {ks:List (List Key)} {vs:List V} (r:Reps K H (ks.map keyT) vs):cz H vs ks/\∀ k∈ks,k.length<=sizeLine/\∀ j∈k,kOk j=true:=by
 induction ks generalizing vs with
 | nil=>rw [r.n0]; exact ⟨.nil,fun k h=>nomatch h⟩
 | cons k ks ih =>
  obtain ⟨u,us,rfl,r1,rs⟩:=Reps.c (d:=keyT k) r
  obtain ⟨t,o⟩:=ih rs
  cases r1 with
  | tup hz e q =>
   obtain ⟨e2,o2⟩:=xX q
   subst e2
   exact ⟨.cons ⟨_,rfl,e⟩ t,fun j hj=>by
    rcases xaj.mp hj with rfl | hj
    ·exact ⟨by simpa using hz,o2⟩
    ·exact o j hj⟩
theorem yz:BrC K (uD K) wg:=by
 intro Hs H m x v As Qd Qv w rx h f
 have r1:=rx.rep w
 cases r1 with
 | list z s q =>
  obtain ⟨ks,sh,rfl,hs,h⟩:=h
  obtain ⟨ta,ok⟩:=xY q
  have hl:=q.length
  rw [xac] at hl
  refine ⟨_,ks,sh,s,ta,hs,fun zs ms l tz pm pw hl'=>?_⟩
  have rr:=nQ (K:=K) tz fun k hk=>ok k (pm.mem_iff.mp hk)
  exact f.lst w (by rw [xac,pm.length_eq]; lia) rr (iy ms) (h ms pm pw) l hl'
 | _=>exact h.elim
theorem Eo (hK:X.K=K:=by rfl):CallR X (.builtin "sorted") (uD K):=by subst hK; exact vg
theorem jQ:bootBuiltins "sorted" = some (.builtin "sorted"):=by decide +kernel
end
def shF (A:List Addr) (F:Nat->List Addr):Nat->List Addr
 | 0=>A
 | i+1=>F i
def Adr (K:PySem.W.Frag) (Hs H:Hp) (ρ:Env) (σ:St) (tot:List Addr) (F:Nat->List Addr):Prop:=(∀ i fl d,ρ[i]? = some (some (.ow fl d))->∃ v,σ[i]? = some (some v)/\F i≠[]/\RepO K Hs H fl d v (F i)) /\
  (∀ i,(F i).Sublist tot)/\∀ i j,i≠j->∀ a∈F i,a∉F j
theorem Adr.skip {K:PySem.W.Frag} {F:Nat->List Addr} (h:Adr K Hs H ρ σ tot F) (no:∀ fl d,o≠some (.ow fl d)):Adr K Hs H (o :: ρ) (u :: σ) tot (shF [] F):=by
 obtain ⟨a,b,c⟩:=h
 refine ⟨fun i fl d e=>?_,fun i=>?_,fun i j ne x hx=>?_⟩
 ·cases i with
  | zero=>simp at e; exact absurd e (no fl d)
  | succ i=>exact a i fl d (by simpa using e)
 ·cases i with
  | zero=>exact xbN _
  | succ i=>exact b i
 ·cases i with
  | zero=>exact mem0 hx
  | succ i =>
   cases j with
   | zero=>exact fun z=>mem0 z
   | succ j=>exact c i j (fun z=>ne (by rw [z])) x hx
theorem Adr.own {K:PySem.W.Frag} {tot B:List Addr} {F:Nat->List Addr} (h:Adr K Hs H ρ σ tot F) (n:(B++tot).Nodup) (hs:∀ fl d,sl=.ow fl d->B≠[]/\RepO K Hs H fl d v B):Adr K Hs H (some sl :: ρ) (some v :: σ) (B++tot) (shF B F):=by
 obtain ⟨a,b,c⟩:=h
 obtain ⟨n1,n2,n3⟩:=xax.mp n
 refine ⟨fun i fl d e=>?_,fun i=>?_,fun i j ne x hx=>?_⟩
 ·cases i with
  | zero=>simp at e; exact ⟨v,rfl,hs fl d e⟩
  | succ i=>exact a i fl d (by simpa using e)
 ·cases i with
  | zero=>exact xbd _ _
  | succ i=>exact (b i).trans (xau _ _)
 ·cases i with
  | zero =>
   cases j with
   | zero=>exact absurd rfl ne
   | succ j=>exact fun z=>n3 x hx x ((b j).subset z) rfl
  | succ i =>
   cases j with
   | zero=>exact fun z=>n3 x z x ((b i).subset hx) rfl
   | succ j=>exact c i j (fun z=>ne (by rw [z])) x hx
abbrev Plan:=List (WE ⊕ Nat)
def movS:Option (Option Sl)->Option (Md × D)
 | some (some (.sh d))=>some (.sh,d)
 | some (some (.ow fl d))=>some (.ow fl,d)
 | _=>none
def spLaw:SpD:=fun ds Q=>∃ ns:List Int,ds=[.list (ns.map .int)]/\ns.length<=63/\∀ m,Q m (.bl true)
theorem ints_rep {K:PySem.W.Frag}:∀ (ns:List Int),Reps K H (ns.map .int) (ns.map V.int)
 | []=>.nil
 | n :: ns=>.cons (.int n) (ints_rep ns)
theorem y_ {K:PySem.W.Frag} {H:Hp} {a:Addr} {ns:List Int} {E:XK} (hl:ns.length<=63) (hS:SqL K H a (ns.map V.int)):az K spLaw [.ref a] H (fun v _=>v=.bl true) E:=by
 refine ⟨[.list (ns.map .int)],fun _ d=>d=.bl true,.cons (.list (by rw [xac]; exact xaB hl (by decide)) hS (ints_rep ns)) .nil,⟨ns,rfl,hl,fun _=>rfl⟩,?_⟩
 intro v H' Hs' m d As s w r nd own q
 subst q
 have:=r.rep w
 cases this
 rfl
abbrev sg (x:Str):List Nat:=x.cps.toList
theorem ju (x y:Str):sg (x++y)=sg x++sg y:=by
 show (x.cps++y.cps).toList=_
 simp [sg]
theorem empty_app (x:Str):Str.empty++x=x:=xu (by rw [<- sg,ju]; rfl)
def okS (x:Str):Prop:=∀ c∈sg x,c<0x110000
theorem Ag (x:Str):PyData.strOk x=true↔okS x:=by
 unfold PyData.strOk okS sg
 rw [Array.all_eq_true']
 simp
theorem atI0 {α:Type} (x:α) (l:List α):atI (x :: l) 0=some x:=by simp [L2.atI,ixN]
theorem atI1 {α:Type} (x y:α) (l:List α):atI (x :: y :: l) 1=some y:=by
 have:=atI_nat (xs:=x :: y :: l) (j:=1) (v:=y) rfl
 exact this
theorem atI2 {α:Type} (x y z:α) (l:List α):atI (x :: y :: z :: l) 2=some z:=by
 have:=atI_nat (xs:=x :: y :: z :: l) (j:=2) (v:=z) rfl
 exact this
theorem Es:Str.empty.length=0:=by decide
end L2.Q
namespace L2.Q.R
open PySem PySem.Spec PyProof.Rows L2.Q
section
variable {f:D->Prop} {k:Kt f}
theorem Jj:onK .non k=f .non:=rfl
theorem JL:onK (.bl b) k=f (.bl b):=rfl
theorem HW:onK (.int i) k=f (.int i):=rfl
theorem Ip:onK (.str x) k=f (.str x):=rfl
theorem G3:onK (.list xs) k=f (.list xs):=rfl
theorem IV:onK (.tup xs) k=f (.tup xs):=rfl
theorem J5:onK (.dK xs) k=f (.dK xs):=rfl
theorem JT:onK (.dT xs) k=f (.dT xs):=rfl
end
theorem GZ {f:Bool->Prop} {k:Kt f}:onK true k=f true:=rfl
theorem Gd {f:Bool->Prop} {k:Kt f}:onK false k=f false:=rfl
theorem Hv {d:D} {f:Md × D->Prop} {k:Kt f}:onK (Md.sh,d) k=f (.sh,d):=rfl
theorem HB {b:Bool} {d:D} {f:Md × D->Prop} {k:Kt f}:onK (Md.ow b,d) k=f (.ow b,d):=rfl
theorem Ie {d:D} {f:Md × D->Prop} {k:Kt f}:onK (Md.bo,d) k=f (.bo,d):=rfl
theorem Hu {d:D} {f:Option Sl->Prop} {k:Kt f}:onK (some (.sh d)) k=f (some (.sh d)):=rfl
theorem Ii {b:Bool} {d:D} {f:Option Sl->Prop} {k:Kt f}:onK (some (.ow b d)) k=f (some (.ow b d)):=rfl
theorem Jf {p:Md × D} {f:Option (Md × D)->Prop} {k:Kt f}:onK (some p) k=f (some p):=rfl
theorem Kr {p:Bool} {f:Option Bool->Prop} {k:Kt f}:onK (some p) k=f (some p):=rfl
theorem Ht {d:D} {f:Option (Option Sl)->Prop} {k:Kt f}:onK (some (some (.sh d))) k=f (some (some (.sh d))):=rfl
theorem Hx {b:Bool} {d:D} {f:Option (Option Sl)->Prop} {k:Kt f}:onK (some (some (.ow b d))) k=f (some (some (.ow b d))):=rfl
section
variable {E:rD} {ρ:Env} {Q:Md->D->Prop} {B:Bool->Prop} {t u:WS} {te ta tb tc to':WE} {tt tu:WT} {tar:WA} {i j n:Nat} {m m':Md} {d d':D} {sp:SpD} {p:WP} {R:List (Md × D)->Prop}
theorem Hz:cF E ρ=E.nx ρ:=rfl
theorem JG:wSeq t u E ρ=t { E with nx:=u E } ρ:=rfl
theorem Kd:wRet te E ρ=te ρ E.rt:=rfl
def put (sl:Option Sl) (k:Sl->Prop):Prop:=match sl with
 | some s=>k s
 | none=>False
theorem Ib:put (some (.sh d)) k=k (.sh d):=rfl
theorem Hy:put (some (.ow b d)) k=k (.ow b d):=rfl
theorem J1:wSet i te E ρ=te ρ fun m d=>onK (asg m d) (f:=fun o=>put o fun sl=>E.nx (ρ.set i (some sl))) ⟨⟩:=rfl
theorem JH:wIfS tt t u E ρ=tt ρ fun b=>onK b (f:=fun b=>if b=true then t E ρ else u E ρ) ⟨⟩:=rfl
theorem IW:jy i E ρ=onK ρ[i]? (f:=fun o=>match o with
 | some (some (.sh d))=>E.rt .sh d
 | some (some (.ow fl d))=>E.rt (.ow fl) d
 | _=>False) ⟨⟩:=rfl
def mov (o:Option (Md × D)) (k:Md × D->Prop):Prop:=match o with
 | some p=>k p
 | none=>False
theorem FJ {p:Md × D} {k:Md × D->Prop}:mov (some p) k=k p:=rfl
theorem Ks:wFrz i t E ρ=t E (frzE i ρ):=rfl
-- tests
def bol (d:D) (B:Bool->Prop):Prop:=match d with
 | .bl b=>B b
 | _=>False
theorem HJ:bol (.bl b) B=B b:=rfl
theorem wB_:wB te ρ B=te ρ fun _ x=>onK x (f:=fun x=>bol x B) ⟨⟩:=rfl
theorem JP:wNot tt ρ B=tt ρ fun c=>B (!c):=rfl
theorem wOr_:wOr tt tu ρ B=tt ρ fun c=>onK c (f:=fun c=>if c=true then B true else tu ρ B) ⟨⟩:=rfl
theorem J8:wYes ρ B=B true:=rfl
-- expressions
theorem Kl:wVar i ρ Q=onK ρ[i]? (f:=fun o=>useS o Q) ⟨⟩:=rfl
theorem G4:useS (some (some (.sh d))) Q=Q .sh d:=rfl
theorem G_:useS (some (some (.ow b d))) Q=Q .bo d:=rfl
theorem wC_:wC d ρ Q=Q .sh d:=rfl
theorem wOp_:wOp f ta tb ρ Q=ta ρ fun m x=>tb ρ fun n y=>f m x n y Q:=rfl
theorem wUn_:wUn f ta ρ Q=ta ρ fun m x=>f m x Q:=rfl
theorem G5:qg f g ta tb tc ρ Q=ta ρ fun m x=>tb ρ fun n y=>f m x n y fun _ z=>onK z (f:=fun z=>bol z fun k=>onK k (f:=fun k=>if k=true then tc ρ fun l w=>g n y l w Q else Q .sh (.bl false)) ⟨⟩) ⟨⟩:=by
 unfold qg onK bol
 rfl
theorem HR:nU ta tb ρ Q=ta ρ fun _ x=>onK x (f:=fun x=>bol x fun c=>onK c (f:=fun c=>if c=true then tb ρ Q else Q .sh (.bl false)) ⟨⟩) ⟨⟩:=by unfold nU onK bol; rfl
theorem Ju:yp ta ρ Q=ta ρ fun _ x=>onK x (f:=fun x=>bol x fun c=>Q .sh (.bl (!c))) ⟨⟩:=by unfold yp onK bol; rfl
theorem Im:ak te tar ρ R=te ρ fun m x=>tar ρ fun ps=>R ((m,x) :: ps):=rfl
theorem Kf:wNil ρ R=R []:=rfl
theorem JR:wTup tar ρ Q=tar ρ fun ps=>ps.length<=sizeLine/\Q (Bv ps) (.tup (ps.map (·.2))):=rfl
theorem JF:wLst tar ρ Q=tar ρ fun ps=>ps.length<=sizeLine/\Q (Al ps) (.list (ps.map (·.2))):=rfl
theorem Jc:bW sp tar ρ Q=tar ρ fun ps=>sp (ps.map (·.2)) fun m d=>onK (m,d) (f:=fun p=>Q (retM p.1 p.2) p.2) ⟨⟩:=rfl
-- operators
section
variable {x y:Str} {a b:Int} {xs ys:List D} {kvs:List (Key × D)} {kts:List (List Key × D)}
theorem GK:fAdd m (.int a) m' (.int b) Q=Q .sh (.int (a+b)):=rfl
theorem Gz:fAdd m (.str x) m' (.str y) Q=(x.length+y.length<=sizeLine/\Q .sh (.str (x++y))):=rfl
theorem Hn:fAdd m (.list xs) m' (.list ys) Q=(xs.length+ys.length<=sizeLine/\((flats xs=true/\flats ys=true/\Q (.ow true) (.list (xs++ys)))\/(m=.sh/\m'=.sh/\Q (.ow false) (.list (xs++ys))))):=rfl
theorem Hi:fAdd m (.tup xs) m' (.tup ys) Q=(xs≠[]/\xs.length+ys.length<=sizeLine/\flats xs=true/\flats ys=true/\Q .sh (.tup (xs++ys))):=rfl
theorem Ho:fMul m (.int a) m' (.int b) Q=(CMul a b/\Q .sh (.int (a * b))):=rfl
theorem Gm:fDiv m (.int a) m' (.int b) Q=((0<b/\b<1073741824)/\Q .sh (.int (a / b))):=rfl
theorem Hq:fMod m (.int a) m' (.int b) Q=(0<b/\Q .sh (.int (a % b))):=rfl
theorem HN:fLt m (.int a) m' (.int b) Q=Q .sh (.bl (decide (a<b))):=rfl
theorem Iz:fLt m (.str x) m' (.str y) Q=Q .sh (.bl (ltS x y)):=rfl
theorem H_:fLe m (.int a) m' (.int b) Q=Q .sh (.bl (decide (a<=b))):=rfl
theorem Jl:fLe m (.str x) m' (.str y) Q=Q .sh (.bl (!ltS y x)):=rfl
theorem Ir:fGt m (.int a) m' (.int b) Q=Q .sh (.bl (decide (b<a))):=rfl
theorem Ij:fEq m (.int a) m' (.int b) Q=Q .sh (.bl (decide (a=b))):=rfl
theorem Ig:fEq m (.str x) m' (.str y) Q=Q .sh (.bl (decide (x=y))):=rfl
theorem Jo:fEq m (.bl k) m' (.bl l) Q=Q .sh (.bl (decide (k=l))):=rfl
theorem KH:fEq m (.list xs) m' d Q=(okD 12 (.list xs)=true/\okD 12 d=true/\Q .sh (.bl (eqD (.list xs) d))):=by cases d <;> rfl
theorem JB:fEq m (.tup xs) m' d Q=(okD 12 (.tup xs)=true/\okD 12 d=true/\Q .sh (.bl (eqD (.tup xs) d))):=by cases d <;> rfl
theorem Jx:fEq m .non m' d Q=(okD 12 .non=true/\okD 12 d=true/\Q .sh (.bl (eqD .non d))):=by cases d <;> rfl
theorem IK:fNe m (.int a) m' (.int b) Q=Q .sh (.bl (!decide (a=b))):=rfl
theorem Hw:fNe m (.str x) m' (.str y) Q=Q .sh (.bl (!decide (x=y))):=rfl
theorem Ky:fNe m (.list xs) m' d Q=(okD 12 (.list xs)=true/\okD 12 d=true/\Q .sh (.bl (!eqD (.list xs) d))):=by cases d <;> rfl
theorem Jz:fNe m (.tup xs) m' d Q=(okD 12 (.tup xs)=true/\okD 12 d=true/\Q .sh (.bl (!eqD (.tup xs) d))):=by cases d <;> rfl
theorem Kw:fNe m .non m' d Q=(okD 12 .non=true/\okD 12 d=true/\Q .sh (.bl (!eqD .non d))):=by cases d <;> rfl
theorem JZ:fIn neg m (.str x) m' (.str y) Q=Q .sh (.bl (if neg then !inS x y else inS x y)):=rfl
theorem JV:fIn neg m d m' (.list ys) Q=(fX d=true/\ys.all fX=true/\Q .sh (.bl (if neg then !inD d ys else inD d ys))):=rfl
theorem JW:fIn neg m d m' (.tup ys) Q=(fX d=true/\ys.all fX=true/\Q .sh (.bl (if neg then !inD d ys else inD d ys))):=rfl
theorem J7:fIn neg m d m' (.dK kvs) Q = ∃ k,d.key1=some k/\Q .sh (.bl (if neg then !(getG kvs k).isSome else (getG kvs k).isSome)):=rfl
theorem Kh:fIn neg m (.tup xs) m' (.dT kts) Q = ∃ ks,mF xs=some ks/\Q .sh (.bl (if neg then !(getG kts ks).isSome else (getG kts ks).isSome)):=rfl
theorem JS:fIx m (.list xs) m' (.int a) Q = ∃ d,atI xs a=some d/\onK d (f:=fun d=>Q (itm m d) d) ⟨⟩:=rfl
theorem Jy:fIx m (.tup xs) m' (.int a) Q = ∃ d,atI xs a=some d/\onK d (f:=fun d=>Q (itm m d) d) ⟨⟩:=rfl
theorem J_:fIx m (.str x) m' (.int a) Q = ∃ c,atI x.cps.toList a=some c/\Q .sh (.str ⟨#[c]⟩):=rfl
theorem JD:fIx m (.dK kvs) m' d Q = ∃ k d',d.key1=some k/\getG kvs k=some d'/\onK d' (f:=fun d'=>Q (itm m d') d') ⟨⟩:=rfl
theorem JQ:fIx m (.dT kts) m' (.tup ys) Q = ∃ ks d',mF ys=some ks/\getG kts ks=some d'/\onK d' (f:=fun d'=>Q (itm m d') d') ⟨⟩:=rfl
theorem Ih:fLen m (.str x) Q=Q .sh (.int x.length):=rfl
theorem Ja:fLen m (.list xs) Q=Q .sh (.int xs.length):=rfl
theorem Ia:fLen m (.tup xs) Q=Q .sh (.int xs.length):=rfl
theorem Je:fLen m (.dK kvs) Q=Q .sh (.int kvs.length):=rfl
theorem Jp:fLen m (.dT kts) Q=Q .sh (.int kts.length):=rfl
theorem J2 {T:String}:fIsi T m d Q=Q .sh (.bl (isiT d.ty T)):=rfl
theorem G9:rZ m (.list xs) Q=((flats xs=true/\Q (.ow true) (.list xs))\/(m=.sh/\Q (.ow false) (.list xs))):=rfl
theorem Gq:rZ m (.tup xs) Q=((flats xs=true/\Q (.ow true) (.list xs))\/(m=.sh/\Q (.ow false) (.list xs))):=rfl
theorem Hb:rZ m (.dT kts) Q=Q (.ow true) (.list (kts.map fun kv=>.tup (kv.1.map keyD))):=rfl
theorem wSl_:wSl te tl th ρ Q=te ρ fun m x=>tl ρ fun lo=>th ρ fun hi=>fSl m x lo hi Q:=rfl
theorem FZ:gF ρ O=O none:=rfl
def int' (d:D) (k:Int->Prop):Prop:=match d with
 | .int i=>k i
 | _=>False
theorem Il:int' (.int a) k=k a:=rfl
theorem Hr:jU te ρ O=te ρ fun _ x=>onK x (f:=fun x=>int' x fun i=>O (some i)) ⟨⟩:=by unfold jU onK int'; rfl
theorem JN {lo hi:Option Int}:fSl m (.str x) lo hi Q=Q .sh (.str (cutS x lo hi)):=rfl
theorem J0 {lo hi:Option Int}:fSl m (.list xs) lo hi Q=((flats xs=true/\Q (.ow true) (.list (cutG xs lo hi)))\/(m=.sh/\Q (.ow false) (.list (cutG xs lo hi)))):=rfl
theorem Kc {lo hi:Option Int}:fSl m (.tup xs) lo hi Q=(flats xs=true/\¬ (HT.sIx xs.length 0 lo=0/\HT.sIx xs.length xs.length hi=xs.length)/\Q .sh (.tup (cutG xs lo hi))):=rfl
end
-- texts
def str' (d:D) (k:Str->Prop):Prop:=match d with
 | .str x=>k x
 | _=>False
theorem Jw:str' (.str x) k=k x:=rfl
def list' (d:D) (k:List D->Prop):Prop:=match d with
 | .list x=>k x
 | _=>False
theorem GD:list' (.list x) k=k x:=rfl
theorem Gx:uJ to' te ρ Q=to' ρ fun _ x=>onK x (f:=fun x=>str' x fun z=>te ρ fun _ y=>onK y (f:=fun y=>list' y fun ys=>∃ zs,lG ys=some zs/\(zs.map (·.length)).sum+zs.length * z.length<=16777216/\Q .sh (.str (Str.join z zs))) ⟨⟩) ⟨⟩:=by unfold uJ onK str' list'; rfl
-- places
theorem wpN_ {P:Bool->D->(Bool->D->Env)->Prop}:wpN i ρ P=onK ρ[i]? (f:=fun o=>match o with
 | some (some (.ow fl d))=>P fl d fun fl2 d2=>ρ.set i (some (.ow fl2 d2))
 | _=>False) ⟨⟩:=rfl
def fl' (o:Option Bool) (k:Bool->Prop):Prop:=match o with
 | some b=>k b
 | none=>False
theorem FN:fl' (some b) k=k b:=rfl
theorem JC:wApp p te E ρ=p ρ fun fl d up=>onK d (f:=fun d=>list' d fun xs=>te ρ fun m x=>xs.length<sizeLine/\onK (nj fl m x) (f:=fun o=>fl' o fun fl2=>E.nx (up fl2 (.list (xs++[x])))) ⟨⟩) ⟨⟩:=by unfold wApp onK list' fl'; rfl
def dct (d y:D) (k1:List (Key × D)->Prop) (k2:List (List Key × D)->List D->Prop):Prop:=match d with
 | .dK kvs=>k1 kvs
 | .dT kvs=>match y with
  | .tup ys=>k2 kvs ys
  | _=>False
 | _=>False
theorem KJ:dct (.dK kvs) y k1 k2=k1 kvs:=rfl
theorem Ko:dct (.dT kvs) (.tup ys) k1 k2=k2 kvs ys:=rfl
-- loops
variable {LQ:List D->Prop}
theorem KC:wFor wi g b E ρ=wi ρ fun ds=>qK g b E ds ρ:=rfl
theorem GC:h_ te ρ LQ=te ρ fun m d=>lU m/\onK d (f:=fun d=>list' d LQ) ⟨⟩:=by unfold h_ onK list'; rfl
def tup' (d:D) (k:List D->Prop):Prop:=match d with
 | .tup x=>k x
 | _=>False
theorem Jt:tup' (.tup x) k=k x:=rfl
theorem Jv:yK te ρ LQ=te ρ fun m d=>lU m/\onK d (f:=fun d=>tup' d LQ) ⟨⟩:=by unfold yK onK tup'; rfl
theorem HH:zN te ρ LQ=te ρ fun _ d=>onK d (f:=fun d=>str' d fun z=>LQ (sgnD z)) ⟨⟩:=by unfold zN onK str'; rfl
theorem Hg:gw te ρ LQ=te ρ fun _ d=>onK d (f:=fun d=>int' d fun j=>j<=16777216/\-(2 ^ 62)<=j/\LQ (gG 0 j.toNat)) ⟨⟩:=by unfold gw onK int'; rfl
theorem G6:uL ta tb ρ LQ=ta ρ fun _ x=>tb ρ fun _ y=>onK x (f:=fun x=>int' x fun i=>onK y (f:=fun y=>int' y fun j=>j - i<=16777216/\(-(2 ^ 62)<=i/\i<2 ^ 62/\-(2 ^ 62)<=j/\j<2 ^ 62)/\LQ (gG i (j - i).toNat)) ⟨⟩) ⟨⟩:=by
 unfold uL onK int'
 congr 1
 funext _ x
 congr 1
 funext _ y
 cases x <;> cases y <;> rfl
theorem FW:lU .sh=True:=rfl
theorem Gf:lU (.ow b)=True:=rfl
theorem Gb:lU .bo=False:=rfl
theorem gN_:gN i d ρ N=N (ρ.set i (some (.sh d))):=rfl
theorem gT_:gT n gs d ρ N=onK d (f:=fun d=>tup' d fun ds=>ds.length=n/\gs ds ρ N) ⟨⟩:=by unfold gT onK tup'; rfl
theorem Io:cW g gs (d :: ds) ρ N=g d ρ fun ρ'=>gs ds ρ' N:=rfl
theorem Kz:qL [] ρ N=N ρ:=by simp [qL]
theorem Jb:g_ wi g tt te tn ix ρ Q=wi ρ fun ds=>jm g tt te ds (Ax tn ix ρ) fun out=>Q (.ow true) (.list out):=rfl
end
theorem B {c:Bool} {f:Bool->Prop} {k:Kt f} (h1:c=true->f true) (h2:c=false->f false):onK c k:=by
 cases c with
 | true=>exact h1 rfl
 | false=>exact h2 rfl
theorem D {p:Prop} [Decidable p] {f:Bool->Prop} {k:Kt f} (h1:p->f true) (h2:¬ p->f false):onK (decide p) k :=
 B (fun h=>h1 (of_decide_eq_true h)) fun h=>h2 (of_decide_eq_false h)
theorem T {c:Bool} {f:Bool->Prop} {k:Kt f} (h:c=true) (h1:f true):onK c k:=by subst h; exact h1
theorem F {c:Bool} {f:Bool->Prop} {k:Kt f} (h:c=false) (h1:f false):onK c k:=by subst h; exact h1
end L2.Q.R
namespace L2
open PySem PySem.Spec PyProof.Rows
end L2
namespace L2.Q
open PySem PySem.Spec PyProof.Rows
section
variable {K:PySem.W.Frag} {p:Pos}
def Ji:W1:=fun _ x Q=>match x with
 | .list xs=>∃ ks b,xs=ks.map keyD/\(∀ k∈ks,isI k=b)/\∀ ms:List Key,ms.Perm ks->(ms.Pairwise fun a b=>lt1 b a=false)->Q (.ow true) (.list (ms.map keyD))
 | .dK kvs=>∃ b,(∀ p∈kvs,isI p.1=b)/\∀ ms:List Key,ms.Perm (kvs.map (·.1))->(ms.Pairwise fun a b=>lt1 b a=false)->Q (.ow true) (.list (ms.map keyD))
 | _=>False
section
variable {Hs H:Hp} {fl:Bool}
theorem aA.erase (k:Nat) (r:aA K Hs H fl ds vs As):∃ Bs,Bs.Sublist As/\aA K Hs H fl (ds.eraseIdx k) (vs.eraseIdx k) Bs:=by
 induction ds generalizing vs As k with
 | nil =>
  obtain ⟨rfl,rfl⟩:=r.n0
  exact ⟨[],List.Sublist.refl _,.nil⟩
 | cons d ds ih =>
  obtain ⟨u,us,A,B,rfl,rfl,r,rs⟩:=r.c
  cases k with
  | zero=>exact ⟨B,xau _ _,rs⟩
  | succ k =>
   obtain ⟨C,sb,q⟩:=ih k rs
   exact ⟨A++C,sb.append_left _,.cons r q⟩
end
end
abbrev WIL:=Env->(List D->Prop)->Prop
section
variable {X:Cx} {K:PySem.W.Frag}
theorem uT (hN:X.N.Nodup) (hi0:X.N[i]? = some x) (hx:Loc X.env.scope x) (hc:X.calm=true)
  (hi:QIb X K tg iter wi) (O:cH X scope tn cn ix)
  (hg:∀ C fp s₃ H₃,QG (bf X scope C (tn++cn) fp s₃ H₃) K tg g) (hcs:∀ C fp s₃ H₃,QTs (bf X scope C (tn++cn) fp s₃ H₃) K ifs tc) (he:∀ C fp s₃ H₃,QE (bf X scope C (tn++cn) fp s₃ H₃) K elt te)
  (hsw:swapsWith (.ListComp elt [⟨tg,iter,ifs,0⟩] scope pos) (some (.Name x pos')) spos.line X.env=pure true:=by rfl)
  (hs:∀ x,foldedSetIterable iter X.env x=pure x:=by intro _; rfl) (hf:X.fn x=true\/X.env.scope.names.lookup x=some .local:=by first | exact .inl rfl | exact .inr rfl | assumption) :
  QS X K L (.Assign [.Name x pos'] (.ListComp elt [⟨tg,iter,ifs,0⟩] scope pos) spos) (wSet i (g_ wi g tc te tn.length ix)) :=
 PS.imp (vB hN hi0 hx hc hi O hg hcs he hsw hs hf) fun D σ H hx=>iI hx fun Hs ρ tot E sr h k1 k2 k3 k4=>by
  refine qN ⟨Hs,ρ,tot,_,sr,h,fun v H1 Hs1 m d As g1 r1 f1 q1=>?_⟩
  have q1:match asg m d with
   | some sl=>E.nx (ρ.set i (some sl))
   | none=>False:=q1
  cases e:asg m d with
  | none=>rw [e] at q1; exact q1.elim
  | some sl =>
   rw [e] at q1
   obtain ⟨tot',s'⟩:=(sr.grow g1).set i r1 f1.1 (fun a ha=>⟨(f1.2 a ha).1,fun m=>(sr.sr.own a m).ne (f1.2 a ha).2⟩) e
   exact k1 _ H1 Hs1 _ tot' g1.sh s' q1
end
end L2.Q
namespace L2.Q.R
open PySem PySem.Spec PyProof.Rows L2.Q
section
variable {ρ:Env} {Q:Md->L2.Q.D->Prop} {te:WE} {d:L2.Q.D} {a:Addr} {b:Bool} {LQ:List L2.Q.D->Prop}
theorem HF {f:Option Sl->Prop} {k:Kt f}:onK (some (.lk a b d)) k=f (some (.lk a b d)):=rfl
theorem Jr {f:Option (Option Sl)->Prop} {k:Kt f}:onK (some (some (.lk a b d))) k=f (some (some (.lk a b d))):=rfl
theorem Hc:useS (some (some (.lk a b d))) Q=Q .bo d:=rfl
def own' (o:Option (Option Sl)) (k:Bool->L2.Q.D->Prop):Prop:=match o with
 | some (some (.ow fl d))=>k fl d
 | _=>False
theorem Hj:own' (some (some (.ow b d))) k=k b d:=rfl
theorem Gk:iz te ρ LQ=te ρ fun _ d=>onK d (f:=fun d=>list' d LQ) ⟨⟩:=by unfold iz onK list'; rfl
end
end L2.Q.R
namespace L2
open PySem PySem.Spec PyProof.Rows Builtin Builtin.Str Builtin.Int
section
variable {prog:Program} {w:World} {A:Around} {E:Value->Shared->Prop} {s:Shared} {x:Str} {n:Int} {t u:Tok}
theorem sJ (hok:MulOk x n) (h:∀ t' k,Q (.str (Txt.mul x n) t') { s with toks:=k }):wpAny (model prog w) A (binaryOp .Mult (.int n u) (.str x t)) Q E s:=by
 refine lm_binaryOp_repeat_right (T := "str") (U := "int") (by decide) (fun s'=>typeIs_int s' n u) (typeIs_str s x t) F.fills_int_mul noFill_str_mul F.slot_int_mul lm_noRepeat_int repeat_str F.slot_int_index.lookup
  (call_gives F.slot_int_mul (typeIs_int s n u) F.entry_int_mul (F.args_int_mul_2 _ _) (AutoIntG3.int___mul___int_str_0 n u x t)
   ⟨rfl,typeIs_str _ x t,call_gives F.slot_str_mul (typeIs_str _ x t) F.entry_str_mul (F.args_str_mul_2 _ _) (gives_str_mul x n t u hok.1 hok.2.1 hok.2.2) ?_⟩)
 unfold Txt.mul at h
 by_cases h1:n<1
 ·rw [if_pos h1]; have h':=h s.toks (s.toks+1); rw [if_pos h1] at h'; exact ⟨by decide,h'⟩
 ·rw [if_neg h1]; refine post_val_or_made (fun hc=>fits_reps (hok.2.2 h1 (by simpa using hc))) fun t' k=>?_
  have h':=h t' k; rw [if_neg h1] at h'; exact h'
end
def repS (n:Int) (z:Str):Str:=⟨(List.replicate n.toNat z.cps.toList).flatten.toArray⟩
theorem mZ (xs:Array Nat):∀ (k:Nat) (acc:Array Nat),(List.replicate k xs).foldl (· ++ ·) acc=acc++(List.replicate k xs.toList).flatten.toArray
 | 0,acc=>by simp
 | k+1,acc=>by
  rw [xbL,List.foldl_cons,mZ xs k,xbL,xcc]
  apply Array.ext'
  simp
theorem BR (h:1<=n):Txt.mul z n=repS n z:=by
 unfold Txt.mul repS
 rw [if_neg (by lia)]
 by_cases h1:n=1
 ·subst h1
  simp
 ·by_cases h0:z.length=0
  ·have hz:z.cps = #[]:=xa8 h0
   rw [if_pos (by simp [h0])]
   obtain ⟨c⟩:=z
   cases hz
   simp
  ·rw [if_neg (by simp [h1,h0]),mZ]
   simp
def CK:R2:=fun x y H Q=>match x,y with
 | .int n,.str z=>(1<=n/\n<=100/\z.length<=100)/\Q (.str (repS n z)) H
 | _,_=>False
section
variable {X:Cx}
theorem Bo:OpR X (binaryOp .Mult) CK:=by
 intro pins s σ H x y v u Q I rx ry h
 unfold CK at h
 split at h
 ·rename_i n z
  obtain ⟨⟨h1,h2,h3⟩,q⟩:=h
  obtain ⟨t,rfl⟩:=rx
  obtain ⟨t',rfl⟩:=ry
  refine sJ ⟨?_,fun _ _=>?_,fun _ _=>?_⟩ fun t' k=>⟨.str (repS n z),H,I.tok _,⟨_,by rw [BR h1]⟩,q⟩
  ·have a1:¬ n < -(2 ^ 63:Int):=by lia
   have a2:¬ n >= 2 ^ 63:=by lia
   rw [decide_eq_false a1,decide_eq_false a2]; rfl
  ·have:(2 ^ 63 - 1:Int) / 100<=(2 ^ 63 - 1) / n:=by
    apply Int.le_ediv_of_mul_le (by lia)
    have:(2 ^ 63 - 1:Int) / 100 * n<=(2 ^ 63 - 1:Int) / 100 * 100:=xbT h2 (by decide)
    lia
   have e:(2 ^ 63 - 1:Int) / 100=92233720368547758:=by decide
   lia
  ·have:z.length * n.toNat<=100 * 100:=xaY h3 (by lia)
   have hs:=sizeLine_eq
   simp only [tooLong,decide_eq_false_iff_not]
   generalize z.length * n.toNat=m at this ⊢
   lia
 ·exact h.elim
end
end L2
namespace L2
open PySem PySem.Spec PyProof.Rows
end L2
namespace L2.Q
open PySem PySem.Spec PyProof.Rows
section
variable {X:Cx} {K:PySem.W.Frag} {a b:Expr} {ta tb:WE} {pos:Pos} {x:Str}
def fAll:W1:=fun _ x Q=>match x with
 | .list xs=>∃ bs:List Bool,xs=bs.map D.bl/\Q .sh (.bl (bs.all (fun b=>b)))
 | _=>False
theorem Er {H:Hp} {bs:List Bool} {vs:List V} (r:Reps K H (bs.map D.bl) vs):vs=bs.map V.bl:=by
 induction bs generalizing vs with
 | nil=>exact r.n0
 | cons b bs ih =>
  obtain ⟨u,us,rfl,r1,rs⟩:=Reps.c (d:=D.bl b) r
  cases r1
  rw [ih rs]; rfl
theorem Ep:BrC K (rAll K) fAll:=by
 intro Hs H m x v As Qd Qv w rx h f
 have r1:=rx.rep w
 cases r1 with
 | list z s q =>
  obtain ⟨bs,rfl,h⟩:=h
  cases Er q
  exact ⟨bs,s,f.sh w (.bl _) h⟩
 | _=>exact h.elim
theorem pA (n:Int) (z:Str):(repS n z).length=n.toNat * z.length:=by
 unfold repS Str.length
 rw [xan,len_rep,xaK]
def yr:W2:=fun _ x _ y Q=>match x,y with
 | .int n,.str z=>(1<=n/\n<=100/\z.length<=100)/\Q .sh (.str (repS n z))
 | _,_=>False
theorem Cu:Br2 K CK yr:=by
 intro Hs H m x v As n y u Bs Qd Qv w rx ry h f
 have r1:=rx.rep w
 have r2:=ry.rep w
 cases r1 with
 | int i=>cases r2 with
  | str hz =>
   refine ⟨h.1,xg f w ?_ h.2⟩
   obtain ⟨⟨h1,h2,h3⟩,_⟩:=h
   rw [pA,sizeLine_eq]
   have:=xaY (show i.toNat<=100 by lia) h3
   lia
  | _=>exact h.elim
 | _=>cases r2 <;> exact h.elim
theorem DG (ha:QE X K a ta) (hb:QE X K b tb):QE X K (.BinOp a .Mult b pos) (wOp yr ta tb):=q_op Bo Cu ha hb
theorem zH {H:Hp} {bs:List Int} {vs:List V} (r:Reps K H (bs.map D.int) vs):vs=bs.map V.int:=by
 induction bs generalizing vs with
 | nil=>exact r.n0
 | cons b bs ih =>
  obtain ⟨u,us,rfl,r1,rs⟩:=Reps.c (d:=D.int b) r
  cases r1
  rw [ih rs]; rfl
end
end L2.Q
namespace L2.Q.R
open PySem PySem.Spec PyProof.Rows L2.Q
section
variable {Q:Md->L2.Q.D->Prop} {m m':Md} {xs:List L2.Q.D} {a b:Int} {x:Str}
theorem JM:fAll m (.list xs) Q = ∃ bs:List Bool,xs=bs.map L2.Q.D.bl/\Q .sh (.bl (bs.all (fun b=>b))):=rfl
theorem Jk:yr m (.int a) m' (.str x) Q=((1<=a/\a<=100/\x.length<=100)/\Q .sh (.str (repS a x))):=rfl
end
end L2.Q.R
namespace L2.Q
open PySem PySem.Spec PyProof.Rows
end L2.Q
namespace TS
open PySem PySem.SetTable
def fk:Nat->Nat->Nat
 | 0,s=>s
 | k+1,s=>5 * fk k s+1
theorem Ea (a b s:Nat):fk (a+b) s=fk b (fk a s):=by
 induction b with
 | zero=>rfl
 | succ b ih=>show 5 * fk (a+b) s+1=5 * fk b (fk a s)+1; rw [ih]
theorem vZ (n s:Nat):4 * fk n s+1=5 ^ n * (4 * s+1):=by
 induction n with
 | zero=>simp [fk]
 | succ n ih =>
  show 4 * (5 * fk n s+1)+1=5 ^ (n+1) * (4 * s+1)
  rw [xbt,xcw (5 ^ n) 5,xb6,<- ih]; lia
theorem yP (m:Nat):∃ q,5 ^ 2 ^ m=1+2 ^ (m+2) * q/\q % 2=1:=by
 induction m with
 | zero=>exact ⟨1,by decide,by decide⟩
 | succ m ih =>
  obtain ⟨q,e,o⟩:=ih
  refine ⟨q+2 ^ (m+1) * (q * q),?_,?_⟩
  ·have hp:5 ^ 2 ^ (m+1)=(5 ^ 2 ^ m) ^ 2:=by rw [xbt 2 m,Nat.pow_mul]
   rw [hp,e]
   clear e hp
   have e1:2 ^ (m+1+2)=2 * 2 ^ (m+2):=by rw [show m+1+2=(m+2)+1 by exact xbP ..,xbt]; lia
   have e2:2 ^ (m+2)=2 * 2 ^ (m+1):=by rw [show m+2=(m+1)+1 by rfl,xbt]; lia
   rw [e1,e2]
   generalize 2 ^ (m+1)=y
   rw [Nat.pow_two]
   simp only [Nat.mul_add,Nat.add_mul,Nat.one_mul,Nat.mul_one]
   have a1:2 * y * q * (2 * y * q)=2 * (2 * y) * (y * (q * q)):=by
    simp only [xb6,Nat.mul_left_comm,xcw]
   have a2:2 * (2 * y) * q=2 * y * q+2 * y * q:=by
    rw [xb6 2 (2 * y) q]; lia
   rw [a1,a2]; lia
  ·have:2 ^ (m+1) * (q * q) % 2=0:=by
    rw [xbt,xcw (2 ^ m) 2,xb6,Nat.mul_mod_right]
   lia
theorem Ai (m x:Nat):∃ r,fk (2 ^ m) x=x+2 ^ m * r/\r % 2=1:=by
 obtain ⟨q,e,o⟩:=yP m
 have c:=vZ (2 ^ m) x
 rw [e] at c
 refine ⟨q * (4 * x+1),?_,?_⟩
 ·have e2:2 ^ (m+2)=4 * 2 ^ m:=by rw [Nat.pow_add]; lia
  rw [e2,Nat.add_mul,Nat.one_mul,xb6,xb6] at c
  lia
 ·rw [Nat.mul_mod,o,Nat.one_mul]; lia
theorem Fo (m s e:Nat):∃ k,k+1<=2 ^ m/\fk k s % 2 ^ m=e % 2 ^ m:=by
 induction m with
 | zero=>exact ⟨0,by decide,by simp [Nat.mod_one]⟩
 | succ m ih =>
  obtain ⟨k,hk,h⟩:=ih
  have hp:2 ^ (m+1)=2 ^ m * 2:=xbt ..
  have hpos:0<2 ^ m:=Nat.pow_pos (by decide)
  have key:∀ a:Nat,a % (2 ^ m * 2)=a % 2 ^ m+2 ^ m * (a / 2 ^ m % 2):=fun a=>Nat.mod_mul
  by_cases c:fk k s / 2 ^ m % 2=e / 2 ^ m % 2
  ·exact ⟨k,by walk_at "s4",by rw [hp,key,key,h,c]⟩
  ·refine ⟨k+2 ^ m,by lia,?_⟩
   obtain ⟨r,er,ro⟩:=Ai m (fk k s)
   rw [Ea,er,hp,key,key,Nat.add_mul_mod_self_left,h,Nat.add_mul_div_left _ _ hpos]
   have:(fk k s / 2 ^ m+r) % 2=e / 2 ^ m % 2:=by lia
   rw [this]
def adv (M:Nat) (p:Probe):Probe :=
 if p.more>0 then { p with j:=p.j+1,more:=p.more - 1 } else
 { p with j:=(leap M p.i p.perturb).1,more:=runEnd M (leap M p.i p.perturb).1 - (leap M p.i p.perturb).1,i:=(leap M p.i p.perturb).1,perturb:=(leap M p.i p.perturb).2 }
def ps (M:Nat) (h:Int):Nat->Probe
 | 0=>{ j:=bits h % (M+1),more:=runEnd M (bits h % (M+1)) - bits h % (M+1),i:=bits h % (M+1),perturb:=bits h,dummy:=none }
 | n+1=>adv M (ps M h n)
def J (M:Nat) (h:Int) (n:Nat):Nat:=(ps M h n).j
theorem uo (h:i<=M):i<=runEnd M i/\runEnd M i<=M/\runEnd M i<=i+9:=by
 unfold runEnd; split <;> lia
theorem CV (M:Nat) (h:Int):∀ n,(ps M h n).i<=M/\(ps M h n).j+(ps M h n).more<=M/\(ps M h n).dummy=none/\(ps M h n).more<=9
 | 0=>by
  have h0:bits h % (M+1)<=M:=xbW (xcz _ (xbb _))
  have:=uo h0
  exact ⟨h0,by show bits h % (M+1)+(runEnd M (bits h % (M+1)) - bits h % (M+1))<=M; lia,rfl,by show runEnd M (bits h % (M+1)) - bits h % (M+1)<=9; lia⟩
 | n+1=>by
  obtain ⟨a,b,c,d⟩:=CV M h n
  show (adv M (ps M h n)).i<=M/\_/\(adv M (ps M h n)).dummy=none/\_
  unfold adv
  by_cases hm:(ps M h n).more>0
  ·simp only [hm,if_true]
   show _/\(adv M (ps M h n)).j+(adv M (ps M h n)).more<=M/\_/\(adv M (ps M h n)).more<=9
   simp only [adv,hm,if_true]
   exact ⟨a,by lia,c,by walk_at "s4"⟩
  ·simp only [hm,if_false]
   show _/\(adv M (ps M h n)).j+(adv M (ps M h n)).more<=M/\_/\(adv M (ps M h n)).more<=9
   simp only [adv,hm,if_false]
   have h0:(leap M (ps M h n).i (ps M h n).perturb).1<=M:=xbW (xcz _ (xbb _))
   have:=uo h0
   exact ⟨h0,by lia,c,by lia⟩
theorem J_le (M:Nat) (h:Int) (n:Nat):J M h n<=M:=by
 have:=CV M h n
 unfold J; lia
theorem xf (M:Nat) (h:Int) (n:Nat):∀ r,r<=(ps M h n).more->ps M h (n+r)={ ps M h n with j:=(ps M h n).j+r,more:=(ps M h n).more - r }
 | 0,_=>rfl
 | r+1,hr=>by
  show adv M (ps M h (n+r))=_
  rw [xf M h n r (by exact xaL ‹_›)]
  unfold adv
  rw [if_pos (show (ps M h n).more - r>0 by lia)]
  simp only [Probe.mk.injEq,true_and,and_true]
  walk_at "s1"
def lp (M:Nat) (h:Int):Nat->Nat × Nat
 | 0=>(bits h % (M+1),bits h)
 | k+1=>leap M (lp M h k).1 (lp M h k).2
def blk (M:Nat) (h:Int):Nat->Nat
 | 0=>0
 | k+1=>blk M h k+(runEnd M (lp M h k).1 - (lp M h k).1)+1
theorem Cz (M:Nat) (h:Int):∀ k,(lp M h k).1<=M
 | 0=>xbW (xcz _ (xbb _))
 | k+1=>xbW (xcz _ (xbb _))
theorem wQ (M:Nat) (h:Int):∀ k,blk M h k<=10 * k
 | 0=>xae _
 | k+1=>by
  have:=wQ M h k
  have:=uo (Cz M h k)
  show blk M h k+_+1<=_; lia
theorem uv (M:Nat) (h:Int):∀ k,ps M h (blk M h k)={ j:=(lp M h k).1,more:=runEnd M (lp M h k).1 - (lp M h k).1,i:=(lp M h k).1,perturb:=(lp M h k).2,dummy:=none }
 | 0=>rfl
 | k+1=>by
  have ih:=uv M h k
  have e:=xf M h (blk M h k) (runEnd M (lp M h k).1 - (lp M h k).1) (by rw [ih]; exact xae _)
  show adv M (ps M h (blk M h k+(runEnd M (lp M h k).1 - (lp M h k).1)))=_
  rw [e,ih]
  unfold adv
  rw [if_neg (by simp)]
  rfl
theorem zR (M:Nat) (h:Int):∀ k,(lp M h k).2=bits h / 32 ^ k
 | 0=>by simp [lp]
 | k+1=>by
  show (lp M h k).2 / 32=_
  rw [zR M h k,Nat.div_div_eq_div_mul,xbt]
theorem BV (h:Int):bits h<2 ^ 64:=by
 unfold bits
 have h1:=xaM h (show (2 ^ 64:Int)≠0 by decide)
 have h2:=xaH h (show (0:Int)<2 ^ 64 by decide)
 lia
theorem yj (M:Nat) (h:Int):∀ k,(lp M h (13+k)).1 % (M+1)=fk k (lp M h 13).1 % (M+1)
 | 0=>rfl
 | k+1=>by
  have e:(lp M h (13+k)).2=0:=by
   rw [zR]
   refine Nat.div_eq_of_lt (xaA (BV h) ?_)
   exact xaB (by decide:2 ^ 64<=32 ^ 13) (xb0 (by decide) (by exact xbK _ _))
  show (leap M (lp M h (13+k)).1 (lp M h (13+k)).2).1 % (M+1)=_
  unfold leap
  rw [e]
  show ((lp M h (13+k)).1 * 5+1+0 / 32) % (M+1) % (M+1)=(5 * fk k (lp M h 13).1+1) % (M+1)
  rw [Nat.mod_mod,Nat.zero_div,xbY,Nat.add_mod,Nat.mul_mod,yj M h k,<- Nat.mul_mod,<- Nat.add_mod,xcw]
theorem cover (hM:M+1=2 ^ m) (h:Int) (he:e<=M):∃ k,k<=M+13/\(lp M h k).1=e:=by
 obtain ⟨k,hk,q⟩:=Fo m (lp M h 13).1 e
 rw [<- hM] at hk q
 refine ⟨13+k,by lia,?_⟩
 have:=yj M h k
 rw [q] at this
 rwa [Nat.mod_eq_of_lt (xbe (Cz M h _)),Nat.mod_eq_of_lt (xbe he)] at this
theorem Ft (M:Nat) (h:Int) (k:Nat):J M h (blk M h k)=(lp M h k).1:=by unfold J; rw [uv]
theorem mY (hM:M+1=2 ^ m) (h:Int) (occ:Nat->Bool) (he:e<=M) (hf:occ e=false):∃ n,n<=10 * (M+13)/\occ (J M h n)=false/\∀ k<n,occ (J M h k)=true:=by
 obtain ⟨k,hk,q⟩:=cover hM h he
 have hb:=wQ M h k
 have hB:occ (J M h (blk M h k))=false:=by rw [Ft,q]; exact hf
 generalize blk M h k=b at hb hB
 have go:∀ b,occ (J M h b)=false->∃ n,n<=b/\occ (J M h n)=false/\∀ k<n,occ (J M h k)=true:=by
  intro b
  induction b using Nat.strongRecOn with
  | ind b ih =>
   intro hB
   by_cases c:∃ k,k<b/\occ (J M h k)=false
   ·obtain ⟨k,h1,h2⟩:=c
    obtain ⟨n,a1,a2,a3⟩:=ih k h1 h2
    exact ⟨n,by lia,a2,a3⟩
   ·refine ⟨b,xae _,hB,fun k hk=>?_⟩
    cases z:occ (J M h k) with
    | true=>rfl
    | false=>exact absurd ⟨k,hk,z⟩ c
 obtain ⟨n,a1,a2,a3⟩:=go b hB
 exact ⟨n,by lia,a2,a3⟩
def Up (xs:Array Nat):Prop:=∀ i j:Nat,i<j->j<xs.size->xs.getD i 0<xs.getD j 0
theorem uM {xs:Array Nat} {i d d':Nat} (h:i<xs.size):xs.getD i d=xs.getD i d':=by simp [Array.getD,h]
theorem pM {xs:Array Nat} (U:Up xs) (j:Nat):∀ (fuel lo hi:Nat),hi - lo<=fuel->lo<=hi->hi<=xs.size->(∀ i<lo,xs.getD i 0<j)->(∀ i,hi<=i->i<xs.size->j<=xs.getD i 0) ->
  below.go xs j fuel lo hi<=xs.size/\(∀ i<below.go xs j fuel lo hi,xs.getD i 0<j)/\(∀ i,below.go xs j fuel lo hi<=i->i<xs.size->j<=xs.getD i 0)
 | 0,lo,hi,hf,h1,h2,h3,h4=>by
  obtain rfl:lo=hi:=by lia
  exact ⟨h2,h3,h4⟩
 | fuel+1,lo,hi,hf,h1,h2,h3,h4=>by
  unfold below.go
  by_cases c:lo<hi
  ·rw [if_pos c]
   dsimp only
   have hm:(lo+hi) / 2<xs.size:=by lia
   by_cases d:xs.getD ((lo+hi) / 2) j<j
   ·rw [if_pos d]
    rw [uM (d':=0) hm] at d
    refine pM U j fuel _ _ (by lia) (by lia) h2 (fun i hi'=>?_) h4
    by_cases e:i=(lo+hi) / 2
    ·rw [e]; exact d
    ·exact xcN (U i _ (by lia) hm) d
   ·rw [if_neg d]
    rw [uM (d':=0) hm] at d
    refine pM U j fuel _ _ (by lia) (by lia) (by exact xaL ‹_›) h3 fun i hi' hs=>?_
    by_cases e:i=(lo+hi) / 2
    ·rw [e]; exact xbv ‹_›
    ·have:=U ((lo+hi) / 2) i (by lia) hs; lia
  ·rw [if_neg c]
   obtain rfl:lo=hi:=by lia
   exact ⟨h2,h3,h4⟩
theorem aV (U:Up xs) (j:Nat):below xs j<=xs.size/\(∀ i<below xs j,xs.getD i 0<j)/\(∀ i,below xs j<=i->i<xs.size->j<=xs.getD i 0) :=
 pM U j xs.size 0 xs.size (by lia) (by lia) (xae _) (fun i h=>absurd h (xbD i)) fun i h1 h2=>by lia
theorem below_at (U:Up xs) (h:i<xs.size):below xs (xs.getD i 0)=i:=by
 obtain ⟨a,b,c⟩:=aV U (xs.getD i 0)
 by_cases h1:below xs (xs.getD i 0)<i
 ·have:=c _ (xae _) (by lia)
  have:=U _ i h1 h
  lia
 ·by_cases h2:i<below xs (xs.getD i 0)
  ·have:=b i h2; lia
  ·lia
theorem uU (U:Up xs) (h:i<xs.size):below xs (xs.getD i 0+1)=i+1:=by
 obtain ⟨a,b,c⟩:=aV U (xs.getD i 0+1)
 by_cases h1:below xs (xs.getD i 0+1)<i+1
 ·have:=c i (by lia) h; lia
 ·by_cases h2:i+1<below xs (xs.getD i 0+1)
  ·have:=b (i+1) h2
   have:=U i (i+1) (by lia) (by lia); lia
  ·lia
def taken (xs:Array Nat) (j:Nat):Bool:=xs[below xs j]? == some j
theorem yf {xs:Array Nat} {i j:Nat} (h:xs[i]? = some j):i<xs.size/\xs.getD i 0=j:=by
 obtain ⟨h1,h2⟩:=xa7.mp h
 exact ⟨h1,by simp [Array.getD,h1,h2]⟩
theorem vV {xs:Array Nat} {i:Nat} (h:i<xs.size):xs[i]? = some (xs.getD i 0):=by simp [Array.getD,h]
theorem fK {xs:Array Nat} (U:Up xs) {j:Nat}:taken xs j=true↔∃ i,i<xs.size/\xs.getD i 0=j:=by
 unfold taken
 rw [beq_iff_eq]
 constructor
 ·intro h; exact ⟨_,yf h⟩
 ·rintro ⟨i,h,rfl⟩
  rw [below_at U h]
  exact vV h
theorem jN {xs:Array Nat} (U:Up xs) {j:Nat} (h:taken xs j=true):below xs j<xs.size/\xs.getD (below xs j) 0=j:=by
 unfold taken at h
 rw [beq_iff_eq] at h
 exact yf h
theorem bQ {α:Type} (xs:Array α) {p:Nat} (x:α) (h:p<=xs.size):(insertAt xs p x).size=xs.size+1:=by
 unfold insertAt
 simp
 lia
theorem ins_get {α:Type} (xs:Array α) {p:Nat} (x:α) (h:p<=xs.size) (i:Nat):(insertAt xs p x)[i]? = if i<p then xs[i]? else if i=p then some x else xs[i - 1]? := by
 unfold insertAt
 have hs:((xs.extract 0 p).push x).size=p+1:=by simp; exact xbR ‹_›
 by_cases h1:i<p
 ·rw [if_pos h1,Array.getElem?_append_left (by lia),Array.getElem?_push,if_neg (by simp; lia),xbS]
  rw [if_pos (by lia)]; simp
 ·rw [if_neg h1]
  by_cases h2:i=p
  ·rw [if_pos h2,Array.getElem?_append_left (by lia),Array.getElem?_push,if_pos (by simp; lia)]
  ·rw [if_neg h2,Array.getElem?_append_right (by lia),hs,xbS]
   by_cases h3:i - (p+1)<min xs.size xs.size - p
   ·rw [if_pos h3]
    congr 1; lia
   ·rw [if_neg h3,xbh (by lia)]
theorem dC (h:p<=xs.size) (i:Nat):(insertAt xs p x).getD i 0=if i<p then xs.getD i 0 else if i=p then x else xs.getD (i - 1) 0:=by
 have e:∀ (ys:Array Nat) (k:Nat),ys.getD k 0=ys[k]?.getD 0:=fun ys k=>by
  simp [xaT]
 rw [e,ins_get xs x h]
 split
 ·rw [e]
 ·split
  ·rfl
  ·rw [e]
theorem z_ (U:Up xs) (hj:taken xs j=false):Up (insertAt xs (below xs j) j):=by
 obtain ⟨a,b,c⟩:=aV U j
 have ne:∀ i,i<xs.size->xs.getD i 0≠j:=fun i hi e=>by
  have:=(fK U (j:=j)).mpr ⟨i,hi,e⟩
  rw [hj] at this; cases this
 intro i k hik hk
 rw [bQ xs j a] at hk
 rw [dC a,dC a]
 by_cases h1:k<below xs j
 ·rw [if_pos (by lia),if_pos h1]; exact U i k hik (by lia)
 ·rw [if_neg h1]
  by_cases h2:k=below xs j
  ·rw [if_pos h2,if_pos (by lia)]; exact b i (by lia)
  ·rw [if_neg h2]
   by_cases h3:i<below xs j
   ·rw [if_pos h3]; exact U i (k - 1) (by lia) (by lia)
   ·rw [if_neg h3]
    by_cases h4:i=below xs j
    ·rw [if_pos h4]
     have:=c (k - 1) (by lia) (by lia)
     have:=ne (k - 1) (by lia)
     lia
    ·rw [if_neg h4]; exact U (i - 1) (k - 1) (by lia) (by lia)
theorem wH (U:Up xs) (hj:taken xs j=false):taken (insertAt xs (below xs j) j) k=(decide (k=j) || taken xs k):=by
 have a:=(aV U j).1
 have U':=z_ U hj
 apply xbp.mpr
 rw [fK U',Bool.or_eq_true,decide_eq_true_eq,fK U]
 rw [bQ xs j a]
 constructor
 ·rintro ⟨i,hi,e⟩
  rw [dC a] at e
  by_cases h1:i<below xs j
  ·rw [if_pos h1] at e; exact .inr ⟨i,by lia,e⟩
  ·rw [if_neg h1] at e
   by_cases h2:i=below xs j
   ·rw [if_pos h2] at e; exact .inl e.symm
   ·rw [if_neg h2] at e; exact .inr ⟨i - 1,by lia,e⟩
 ·rintro (rfl | ⟨i,hi,e⟩)
  ·exact ⟨below xs k,by lia,by rw [dC a,if_neg (by lia),if_pos rfl]⟩
  ·by_cases h1:i<below xs j
   ·exact ⟨i,by lia,by rw [dC a,if_pos h1]; exact e⟩
   ·exact ⟨i+1,by lia,by rw [dC a,if_neg (by lia),if_neg (by lia)]; exact e⟩
def Reach (M:Nat) (place:Array Nat) (h:Int) (j:Nat):Prop:=∃ n,n<=10 * (M+13)/\J M h n=j/\∀ k<n,taken place (J M h k)=true
structure TI {α:Type} (t:SetTable) (es:Array (Int × α)):Prop where
 pw:∃ m,t.mask+1=2 ^ m/\3<=m
 sz:t.place.size=es.size
 up:Up t.place
 le:∀ i,i<t.place.size->t.place.getD i 0<=t.mask
 dm:t.dummies = #[]
 few:es.size * 5<t.mask * 3
 path:∀ i h x,es[i]? = some (h,x)->Reach t.mask t.place h (t.place.getD i 0)
section
variable {α:Type} {t:SetTable} {es:Array (Int × α)}
theorem TI.slot (T:TI t es) (j:Nat):t.slot j=if taken t.place j then .live (below t.place j) else .empty:=by
 unfold SetTable.slot taken
 dsimp only
 split
 ·rfl
 ·have:has t.dummies j=false:=by rw [T.dm]; rfl
  rw [this]; rfl
theorem TI.fits (T:TI t es):t.fits es.size=true:=by
 have:=T.few
 simp only [SetTable.fits,fill,T.dm,T.sz,xaC,beq_iff_eq,decide_eq_true_eq,true_and]
 simp; lia
theorem TI.odd (T:TI t es):t.gaveWay=false:=by
 obtain ⟨m,h,h3⟩:=T.pw
 unfold SetTable.gaveWay
 rw [beq_eq_false_iff_ne]
 have:2 ^ m=2 * 2 ^ (m - 1):=by
  rw [show m=(m - 1)+1 by lia,xbt]; simp; lia
 lia
theorem TI.free (T:TI t es):∃ e,e<=t.mask/\taken t.place e=false:=by
 have hf:=T.few
 have hs:=T.sz
 by_cases c:∃ e,e<=t.mask/\taken t.place e=false
 ·exact c
 ·exfalso
  have all:∀ e,e<=t.mask->taken t.place e=true:=fun e he=>by
   cases z:taken t.place e with
   | true=>rfl
   | false=>exact absurd ⟨e,he,z⟩ c
  -- slot e stands at place at most e
  have go:∀ e,e<=t.mask->e<=below t.place e:=by
   intro e
   induction e with
   | zero=>intro _; exact xaq _
   | succ e ih =>
    intro he
    have h1:=jN T.up (all e (by exact xaL ‹_›))
    have h2:=jN T.up (all (e+1) he)
    have:=ih (by exact xaL ‹_›)
    obtain ⟨_,b,c⟩:=aV T.up (e+1)
    by_cases z:below t.place e<below t.place (e+1)
    ·walk_at "s1"
    ·have:=c (below t.place e) (by exact xbv ‹_›) h1.1
     lia
  have:=go t.mask (xae _)
  have:=(jN T.up (all t.mask (xae _))).1
  lia
theorem TI.put (T:TI t es) (hj:j<=t.mask) (hn:taken t.place j=false) (hr:Reach t.mask t.place h j) (ht:t'.mask=t.mask) (hp:t'.place=insertAt t.place (below t.place j) j) (hd:t'.dummies = #[])
  (hf:(es.size+1) * 5<t.mask * 3):TI t' (insertAt es (below t.place j) (h,x)):=by
 have a:=(aV T.up j).1
 have a':below t.place j<=es.size:=by rw [<- T.sz]; exact a
 refine ⟨by rw [ht]; exact T.pw,by rw [hp,bQ _ _ a,bQ _ _ a',T.sz],by rw [hp]; exact z_ T.up hn,fun i hi=>?_,hd,by rw [bQ _ _ a',ht]; exact hf,fun i g y e=>?_⟩
 ·rw [hp,bQ _ _ a] at hi
  rw [hp,dC a,ht]
  split
  ·exact T.le i (by lia)
  ·split
   ·exact hj
   ·exact T.le (i - 1) (by lia)
 ·have mono:∀ {g:Int} {k:Nat},Reach t.mask t.place g k->Reach t'.mask t'.place g k:=fun {g k} ⟨n,h1,h2,h3⟩=>⟨n,by rw [ht]; exact h1,by rw [ht]; exact h2,fun q hq=>by
   rw [hp,ht,wH T.up hn,h3 q hq,Bool.or_true]⟩
  rw [ins_get es _ a'] at e
  rw [hp,dC a,<- hp]
  by_cases h1:i<below t.place j
  ·rw [if_pos h1] at e ⊢
   exact mono (T.path i g y e)
  ·rw [if_neg h1] at e ⊢
   by_cases h2:i=below t.place j
   ·rw [if_pos h2] at e ⊢
    cases e
    exact mono hr
   ·rw [if_neg h2] at e ⊢
    exact mono (T.path (i - 1) g y e)
end
theorem bF {α:Type} [DecidableEq α]:∀ {l m:List α},l.Nodup->(∀ x∈l,x∈m)->l.length<=m.length
 | [],_,_,_=>xaq _
 | x :: l,m,nd,h=>by
  rw [xaO] at nd
  have hx:=h x xah
  have:=bF (l:=l) (m:=m.erase x) nd.2 fun y hy=>(List.mem_erase_of_ne (fun e=>nd.1 (by rw [<- e]; exact hy))).mpr (h y (xaf _ hy))
  rw [List.length_erase_of_mem hx] at this
  have:0<m.length:=List.length_pos_of_mem hx
  simp only [xa0]; lia
def occ (owner:Array (Option Nat)) (j:Nat):Bool:=(owner.getD j (some 0)).isSome
theorem ql (h:Int) (owner:Array (Option Nat)):∀ (fuel k:Nat),(∀ q<blk M h k,occ owner (J M h q)=true)->(∃ K,k<=K/\K<k+fuel/\K<=M+13/\occ owner (lp M h K).1=false) ->
  ∃ j n,layClean.free M owner fuel (lp M h k).1 (lp M h k).2=some j/\J M h n=j/\n<=10 * (M+13)/\occ owner j=false/\∀ q<n,occ owner (J M h q)=true
 | 0,k,_,⟨K,h1,h2,_⟩=>by lia
 | fuel+1,k,hq,⟨K,h1,h2,h3,h4⟩=>by
  have hrun:∀ r,r<=runEnd M (lp M h k).1 - (lp M h k).1->J M h (blk M h k+r)=(lp M h k).1+r:=fun r hr=>by
   unfold J
   rw [xf M h (blk M h k) r (by rw [uv]; exact hr),uv]
  have hle:=uo (Cz M h k)
  have e:∀ r,(owner.getD ((lp M h k).1+r) (some 0)).isNone = !occ owner ((lp M h k).1+r):=fun r=>by
   unfold occ; cases owner.getD ((lp M h k).1+r) (some 0) <;> rfl
  unfold layClean.free
  cases hf:(List.range (runEnd M (lp M h k).1+1 - (lp M h k).1)).find? fun r=>(owner.getD ((lp M h k).1+r) (some 0)).isNone with
  | some r =>
   obtain ⟨a1,a2,a3⟩:=List.find?_range_eq_some.mp hf
   have a2:r<runEnd M (lp M h k).1+1 - (lp M h k).1:=by simpa using a2
   rw [e] at a1
   have a1:occ owner ((lp M h k).1+r)=false:=by simpa using a1
   have occs:∀ q<blk M h k+r,occ owner (J M h q)=true:=fun q hqq=>by
    by_cases z:q<blk M h k
    ·exact hq q z
    ·have:=a3 (q - blk M h k) (by lia)
     rw [e] at this
     have hj:=hrun (q - blk M h k) (by lia)
     rw [show blk M h k+(q - blk M h k)=q by lia] at hj
     rw [hj]
     simpa using this
   refine ⟨_,blk M h k+r,rfl,hrun r (by lia),?_,a1,occs⟩
   have hb:=wQ M h K
   by_cases z:blk M h k+r<=blk M h K
   ·lia
   ·have:=occs (blk M h K) (by lia)
    rw [Ft,h4] at this; cases this
  | none =>
   have hn:=List.find?_eq_none.mp hf
   have occr:∀ r,r<=runEnd M (lp M h k).1 - (lp M h k).1->occ owner ((lp M h k).1+r)=true:=fun r hr=>by
    have:=hn r (by simp; lia)
    rw [e] at this
    simpa using this
   dsimp only
   have hK:K≠k:=fun z=>by
    subst z
    have:=occr 0 (xaq _)
    rw [xbY,h4] at this; cases this
   refine ql h owner fuel (k+1) (fun q hqq=>?_) ⟨K,by lia,by lia,h3,h4⟩
   by_cases z:q<blk M h k
   ·exact hq q z
   ·have hqq:q<blk M h k+(runEnd M (lp M h k).1 - (lp M h k).1)+1:=hqq
    have hj:=hrun (q - blk M h k) (by lia)
    rw [show blk M h k+(q - blk M h k)=q by lia] at hj
    rw [hj]
    exact occr _ (by lia)
structure OI (M:Nat) (hs:List Int) (owner:Array (Option Nat)):Prop where
 sz:owner.size=M+1
 lt:∀ j v:Nat,owner[j]? = some (some v)->v<hs.length
 inj:∀ j j' v:Nat,owner[j]? = some (some v)->owner[j']? = some (some v)->j=j'
 all:∀ v:Nat,v<hs.length->∃ j:Nat,owner[j]? = some (some v)
 path:∀ j v:Nat,owner[j]? = some (some v)->∃ n,n<=10 * (M+13)/\J M (hs.getD v 0) n=j/\∀ q<n,occ owner (J M (hs.getD v 0) q)=true
theorem rR (h:j<owner.size):occ owner j=true↔∃ v,owner[j]? = some (some v):=by
 unfold occ
 rw [xaJ h]
 simp only [Array.getD,h,dite_true,Option.some.injEq]
 cases hh:owner[j] with
 | none =>
  have:owner.getInternal j h=none:=hh
  rw [this]; simp
 | some v =>
  have:owner.getInternal j h=some v:=hh
  rw [this]; simp
theorem OI.free (O:OI M hs owner) (hl:hs.length<=M):∃ e,e<=M/\occ owner e=false:=by
 by_cases c:∃ e,e<=M/\occ owner e=false
 ·exact c
 ·exfalso
  have all:∀ e,e<=M->∃ v,owner[e]? = some (some v):=fun e he=>by
   refine (rR (by rw [O.sz]; lia)).mp ?_
   cases z:occ owner e with
   | true=>rfl
   | false=>exact absurd ⟨e,he,z⟩ c
  have nd:((List.range (M+1)).map fun j=>(owner.getD j none).getD 0).Nodup:=by
   rw [xb3,xaG]
   refine List.Pairwise.imp_of_mem ?_ (xb3.mp xck)
   intro a b ha hb hne z
   obtain ⟨va,ea⟩:=all a (by have:=xaN.mp ha; lia)
   obtain ⟨vb,eb⟩:=all b (by have:=xaN.mp hb; lia)
   rw [xaT,xaT,ea,eb] at z
   have z:va=vb:=z
   subst z
   exact hne (O.inj _ _ _ ea eb)
  have:=bF (m:=List.range hs.length) nd fun x hx=>by
   obtain ⟨j,hj,rfl⟩:=xai.mp hx
   obtain ⟨v,e⟩:=all j (by have:=xaN.mp hj; lia)
   rw [xaT,e]
   exact xaN.mpr (O.lt _ _ e)
  simp at this
  lia
theorem OI.lay (hM:M+1=2 ^ m) (O:OI M hs owner) (hl:hs.length<=M) (h:Int) :
  ∃ j,layClean.free M owner (turns M) (bits h % (M+1)) (bits h)=some j/\OI M (hs++[h]) (owner.setIfInBounds j (some hs.length)):=by
 obtain ⟨e,he,hf⟩:=O.free hl
 obtain ⟨K,hK,hKe⟩:=cover hM h he
 obtain ⟨j,n,e1,e2,e3,e4,e5⟩:=ql h owner (turns M) 0 (fun q hq=>absurd hq (xbD q)) ⟨K,xaq _,by unfold turns; lia,hK,by rw [hKe]; exact hf⟩
 refine ⟨j,e1,?_⟩
 have hj:j<owner.size:=by rw [O.sz,<- e2]; exact xbe (J_le M h n)
 have get:∀ i,(owner.setIfInBounds j (some hs.length))[i]? = if j=i then some (some hs.length) else owner[i]? := fun i=>by
  rw [Array.getElem?_setIfInBounds]
  by_cases z:j=i
  ·subst z; simp [hj]
  ·simp [z]
 have oc:∀ i,occ owner i=true->occ (owner.setIfInBounds j (some hs.length)) i=true:=fun i hi=>by
  unfold occ at hi ⊢
  rw [xaT] at hi ⊢
  rw [get]
  split
  ·rfl
  ·exact hi
 have hne:∀ v,owner[j]?≠some (some v):=fun v z=>by
  have:=(rR hj).mpr ⟨v,z⟩
  rw [e4] at this; cases this
 refine ⟨by rw [Array.size_setIfInBounds]; exact O.sz,fun i v z=>?_,fun i i' v z z'=>?_,fun v hv=>?_,fun i v z=>?_⟩
 ·rw [get] at z
  split at z
  ·cases z; simp
  ·have:=O.lt i v z; simp; lia
 ·rw [get] at z z'
  split at z
  ·cases z
   split at z'
   ·lia
   ·exact absurd (O.lt _ _ z') (xa2 _)
  ·split at z'
   ·cases z'
    exact absurd (O.lt _ _ z) (xa2 _)
   ·exact O.inj i i' v z z'
 ·simp at hv
  by_cases c:v=hs.length
  ·exact ⟨j,by rw [get,if_pos rfl,c]⟩
  ·obtain ⟨i,hi⟩:=O.all v (by lia)
   refine ⟨i,?_⟩
   rw [get,if_neg (fun z=>hne v (by rw [z]; exact hi))]
   exact hi
 ·rw [get] at z
  split at z
  ·rename_i hji
   cases z
   refine ⟨n,e3,?_,fun q hq=>oc _ ?_⟩
   ·rw [xbi,xaI (xae _)]
    simp [e2,hji]
   ·have:=e5 q hq
    rw [xbi,xaI (xae _)]
    simpa using this
  ·have hv:=O.lt i v z
   obtain ⟨n',a1,a2,a3⟩:=O.path i v z
   have eg:(hs++[h]).getD v 0=hs.getD v 0:=by
    rw [xbi,xbi,xa9 hv]
   rw [eg]
   exact ⟨n',a1,a2,fun q hq=>oc _ (a3 q hq)⟩
theorem OI.nil (M:Nat):OI M [] (Array.replicate (M+1) none):=by
 have no:∀ (j v:Nat),¬ (Array.replicate (M+1) (none:Option Nat))[j]? = some (some v):=fun j v z=>by
  rw [Array.getElem?_replicate] at z
  split at z <;> cases z
 exact ⟨by simp,fun j v z=>absurd z (no j v),fun j j' v z _=>absurd z (no j v),fun v hv=>absurd hv (xbD v),fun j v z=>absurd z (no j v)⟩
theorem Bp (hM:M+1=2 ^ m) (hs:Array Int) (hl:hs.size<=M):∃ owner,layClean M hs=some owner/\OI M hs.toList owner:=by
 have go:∀ (l pre:List Int) (owner:Array (Option Nat)),OI M pre owner->pre.length+l.length<=M->∃ owner',l.foldl (fun acc h=>do
   let (owner,k) ← acc
   let j ← layClean.free M owner (turns M) (bits h % (M+1)) (bits h)
   pure (owner.setIfInBounds j (some k),k+1)) (some (owner,pre.length))=some (owner',pre.length+l.length)/\OI M (pre++l) owner':=by
  intro l
  induction l with
  | nil=>intro pre owner O _; exact ⟨owner,rfl,by rw [xaF]; exact O⟩
  | cons h l ih =>
   intro pre owner O hz
   rw [xa0] at hz
   obtain ⟨j,e,O'⟩:=O.lay hM (by lia) h
   obtain ⟨o2,e2,O2⟩:=ih (pre++[h]) _ O' (by simp; lia)
   refine ⟨o2,?_,by rw [xa6] at O2; exact O2⟩
   rw [List.foldl_cons]
   have:(do
    let (owner,k) ← (some (owner,pre.length):Option (Array (Option Nat) × Nat))
    let j ← layClean.free M owner (turns M) (bits h % (M+1)) (bits h)
    pure (owner.setIfInBounds j (some k),k+1))=some (owner.setIfInBounds j (some pre.length),(pre++[h]).length):=by
    simp [e]
   rw [this,e2]
   simp; lia
 obtain ⟨o,e,O⟩:=go hs.toList [] _ (OI.nil M) (by simpa using hl)
 refine ⟨o,?_,by simpa using O⟩
 unfold layClean
 rw [<- Array.foldl_toList]
 have e':=e
 simp only [List.length_nil] at e'
 rw [e']
 rfl
theorem jr {n:Nat}:∀ (fuel a:Nat),3<=a->n<2 ^ (a+fuel)->∃ b,3<=b/\sizeAbove.go n fuel (2 ^ a)=2 ^ b/\n<2 ^ b/\(2 ^ b<=2 * n\/b=a)
 | 0,a,ha,h=>⟨a,ha,rfl,by simpa using h,.inr rfl⟩
 | fuel+1,a,ha,h=>by
  unfold sizeAbove.go
  by_cases c:2 ^ a<=n
  ·rw [if_pos c]
   obtain ⟨b,h1,h2,h3,h4⟩:=jr fuel (a+1) (by exact xaS ‹_›) (by rw [show a+1+fuel=a+(fuel+1) by exact Nat.add_right_comm ..]; exact h)
   refine ⟨b,h1,by rw [xbt] at h2; exact h2,h3,?_⟩
   rcases h4 with h4 | h4
   ·exact .inl h4
   ·left
    rw [h4,xbt]; lia
  ·rw [if_neg c]
   exact ⟨a,ha,rfl,by exact xbw ‹_›,.inr rfl⟩
theorem lQ {n:Nat} (h:n<2 ^ 60):∃ b,3<=b/\sizeAbove n=2 ^ b/\n<2 ^ b/\(2 ^ b<=2 * n\/b=3) :=
 jr 64 3 (xae _) (xcN h (by decide))
section
variable {α:Type}
def bJ (M:Nat) (owner:Array (Option Nat)):List (Nat × Nat):=(List.range (M+1)).filterMap fun j=>(owner.getD j none).map (j,·)
theorem eE {M:Nat} {owner:Array (Option Nat)} {p:Nat × Nat}:p∈bJ M owner↔p.1<M+1/\owner[p.1]? = some (some p.2):=by
 unfold bJ
 rw [xb9]
 constructor
 ·rintro ⟨j,hj,e⟩
  rw [xaT] at e
  cases h:owner[j]? with
  | none=>rw [h] at e; cases e
  | some o =>
   rw [h] at e
   cases o with
   | none=>cases e
   | some v =>
    cases e
    exact ⟨xaN.mp hj,h⟩
 ·rintro ⟨h1,h2⟩
  exact ⟨p.1,xaN.mpr h1,by rw [xaT,h2]; rfl⟩
theorem rN (M:Nat) (owner:Array (Option Nat)):((bJ M owner).map (·.1)).Pairwise (· < ·):=by
 unfold bJ
 rw [xaG,List.pairwise_filterMap]
 refine List.Pairwise.imp ?_ List.pairwise_lt_range
 intro a b hab p hp q hq
 cases h1:owner.getD a none with
 | none=>rw [h1] at hp; cases hp
 | some x =>
  cases h2:owner.getD b none with
  | none=>rw [h2] at hq; cases hq
  | some y =>
   rw [h1] at hp; rw [h2] at hq
   cases hp; cases hq
   exact hab
theorem uz {l:List Nat} (h:l.Pairwise (· < ·)):Up l.toArray:=fun i j hij hj=>by
 have hj:j<l.length:=by simpa using hj
 have:=xb5.mp h i j (by walk_at "s1") hj hij
 have e:∀ k (hk:k<l.length),l.toArray.getD k 0=l[k]:=fun k hk=>by simp [Array.getD,hk]
 rw [e i (by walk_at "s1"),e j hj]
 exact this
theorem tG {β:Type} {f:α->Option β}:∀ {l:List α},(∀ x∈l,(f x).isSome=true)->(l.filterMap f).length=l.length/\∀ i:Nat,(l.filterMap f)[i]? = (l[i]?).bind f
 | [],_=>⟨rfl,fun i=>by simp⟩
 | x :: l,h=>by
  obtain ⟨a,b⟩:=tG (f:=f) (l:=l) fun y hy=>h y (xaf _ hy)
  have hx:=h x xah
  cases e:f x with
  | none=>rw [e] at hx; cases hx
  | some y =>
   rw [xa5,e]
   refine ⟨by simp [a],fun i=>?_⟩
   cases i with
   | zero=>simp [e]
   | succ i=>simpa using b i
theorem ug (es:Array (Int × α)):(List.range es.size).filterMap (fun i=>es[i]?)=es.toList:=by
 apply xbV
 intro i
 rw [(tG (l:=List.range es.size) fun x hx=>by
  have:=xaN.mp hx
  simp [this]).2 i]
 by_cases h:i<es.size
 ·rw [List.getElem?_range h,xaz]; rfl
 ·rw [xa1 (by simpa using h),xa1 (by simpa using h)]; rfl
theorem Ci {M m finger moves:Nat} {led plain:Bool} (hM:M+1=2 ^ m) (hm:3<=m) {es:Array (Int × α)} (hf:es.size * 5<M * 3) :
  ∃ t order,laid M finger moves led plain (es.map (·.1))=some (t,order)/\t.plain=plain/\t.led=led/\t.mask=M/\TI t (order.filterMap fun i=>es[i]?)/\(order.filterMap fun i=>es[i]?).size=es.size/\(order.filterMap fun i=>es[i]?).toList.Perm es.toList/\order.toList.Perm (List.range es.size):=by
 obtain ⟨owner,e,O⟩:=Bp hM (es.map (·.1)) (by rw [Array.size_map]; lia)
 have hn:(es.map (·.1)).toList.length=es.size:=by simp
 refine ⟨{ mask:=M,place:=((bJ M owner).map (·.1)).toArray,dummies:=#[],finger,led,moves,plain },((bJ M owner).map (·.2)).toArray,?_,rfl,rfl,rfl,?_⟩
 ·unfold laid
  rw [e]; rfl
 have vlt:∀ p∈bJ M owner,p.2<es.size:=fun p hp=>by
  have:=O.lt _ _ (eE.mp hp).2
  lia
 have nd:((bJ M owner).map (·.2)).Nodup:=by
  rw [xb3,xaG]
  have:=rN M owner
  rw [xaG] at this
  refine List.Pairwise.imp_of_mem ?_ this
  intro p q hp hq hlt z
  have:=O.inj _ _ _ (eE.mp hp).2 (by rw [z]; exact (eE.mp hq).2)
  lia
 have pm:((bJ M owner).map (·.2)).Perm (List.range es.size):=by
  refine (List.perm_ext_iff_of_nodup nd xck).mpr fun v=>⟨fun hv=>?_,fun hv=>?_⟩
  ·obtain ⟨p,hp,rfl⟩:=xai.mp hv
   exact xaN.mpr (vlt p hp)
  ·obtain ⟨j,hj⟩:=O.all v (by rw [hn]; exact xaN.mp hv)
   have hjs:=(xa7.mp hj).1
   rw [O.sz] at hjs
   exact xai.mpr ⟨(j,v),eE.mpr ⟨hjs,hj⟩,rfl⟩
 have hlen:(bJ M owner).length=es.size:=by
  have:=pm.length_eq
  simpa using this
 have hes:(((bJ M owner).map (·.2)).toArray.filterMap fun i=>es[i]?).toList=(bJ M owner).filterMap fun p=>es[p.2]? := by
  rw [Array.toList_filterMap,xcC]; rfl
 obtain ⟨f1,f2⟩:=tG (l:=bJ M owner) (f:=fun p=>es[p.2]?) fun p hp=>by simp [vlt p hp]
 have hget:∀ i:Nat,(((bJ M owner).map (·.2)).toArray.filterMap fun i=>es[i]?)[i]? = ((bJ M owner)[i]?).bind fun p=>es[p.2]? := fun i=>by
  rw [<- xaz,hes]; exact f2 i
 have hsz:(((bJ M owner).map (·.2)).toArray.filterMap fun i=>es[i]?).size=es.size:=by
  rw [<- xaK,hes,f1,hlen]
 have hpl:∀ i:Nat,∀ p,(bJ M owner)[i]? = some p->((bJ M owner).map (·.1)).toArray.getD i 0=p.1:=fun i p hp=>by
  rw [xaT]
  simp [hp]
 have tk:∀ j,occ owner j=true->j<=M->taken ((bJ M owner).map (·.1)).toArray j=true:=fun j hj hM'=>by
  obtain ⟨v,hv⟩:=(rR (by rw [O.sz]; exact xbe ‹_›)).mp hj
  obtain ⟨i,hi⟩:=xcl.mp (eE.mpr (show ((j,v):Nat × Nat).1<M+1/\owner[((j,v):Nat × Nat).1]? = some (some ((j,v):Nat × Nat).2) from ⟨by show j<M+1; exact xbe ‹_›,hv⟩))
  exact (fK (uz (rN M owner))).mpr ⟨i,by
   have:=(xay.mp hi).1
   simpa using this,hpl i _ hi⟩
 refine ⟨?_,hsz,?_,by simpa using pm⟩
 ·refine ⟨⟨m,hM,hm⟩,?_,uz (rN M owner),fun i hi=>?_,rfl,by rw [hsz]; exact hf,fun i h x hx=>?_⟩
  ·rw [hsz]; simp [hlen]
  ·have hi:i<(bJ M owner).length:=by simpa using hi
   have e1:=xaU hi
   show ((bJ M owner).map (·.1)).toArray.getD i 0<=M
   rw [hpl i _ e1]
   have:=(eE.mp (xaQ e1)).1
   lia
  ·rw [hget] at hx
   cases hp:(bJ M owner)[i]? with
   | none=>rw [hp] at hx; cases hx
   | some p =>
    rw [hp] at hx
    have hx:es[p.2]? = some (h,x):=hx
    have hm':=eE.mp (xaQ hp)
    obtain ⟨n,a1,a2,a3⟩:=O.path _ _ hm'.2
    have hh:(es.map (·.1)).toList.getD p.2 0=h:=by
     rw [xbi,xaz,Array.getElem?_map,hx]; rfl
    rw [hh] at a2 a3
    refine ⟨n,a1,?_,fun q hq=>tk _ (a3 q hq) (J_le M h q)⟩
    show J M h n=((bJ M owner).map (·.1)).toArray.getD i 0
    rw [hpl i _ hp]; exact a2
 ·rw [hes]
  have:=pm.filterMap fun i=>es[i]?
  rw [ug,xcC] at this
  exact this
theorem qz {t:SetTable} {es:Array (Int × α)} (hn:es.size<=10000) :
  ∃ t' order,t.relaid (es.map (·.1)) (grown es.size)=some (t',order)/\t'.plain=t.plain/\t'.led=t.led/\sizeAbove (grown es.size)<=16777216/\(es.size<=2000->t'.mask<=8191)/\TI t' (order.filterMap fun i=>es[i]?)/\(order.filterMap fun i=>es[i]?).size=es.size/\(order.filterMap fun i=>es[i]?).toList.Perm es.toList/\order.toList.Perm (List.range es.size):=by
 have hg:grown es.size=es.size * 4:=by unfold grown; rw [if_neg (by lia)]
 obtain ⟨b,h3,e,hlt,hle⟩:=lQ (n:=es.size * 4) (by lia)
 have h8:8<=2 ^ b:=xb0 (n:=2) (by decide) h3
 unfold relaid
 rw [hg,e]
 obtain ⟨t',order,q1,q2,q3,qm,q4⟩:=Ci (M:=2 ^ b - 1) (m:=b) (finger:=t.finger) (moves:=t.movedTo (2 ^ b - 1)) (led:=t.led) (plain:=t.plain) (by lia) h3 (es:=es) (by lia)
 refine ⟨t',order,q1,q2,q3,?_,fun hz=>?_,q4⟩
 ·rcases hle with hle | rfl
  ·lia
  ·decide
 ·rw [qm]
  rcases hle with hle | rfl
  ·have:b<14:=xbw fun z=>by
    have:=xb0 (n:=2) (by decide) z
    lia
   have:=xb0 (n:=2) (by decide) (xbW this)
   lia
  ·decide
end
section
variable {α:Type} {t:SetTable} {es:Array (Int × α)}
theorem nM (T:TI t es) (hashAt:Nat->Int) (h:Int):∀ (fuel n:Nat),(∃ N,n<=N/\N<n+fuel/\taken t.place (J t.mask h N)=false) ->
  ∃ n',n<=n'/\n'<n+fuel/\(∀ q,n<=q->q<n'->taken t.place (J t.mask h q)=true/\hashAt (below t.place (J t.mask h q))≠h) /\
   ((taken t.place (J t.mask h n')=false/\probe.go t hashAt h fuel (ps t.mask h n)=some (.empty (J t.mask h n') none)) \/
    (taken t.place (J t.mask h n')=true/\hashAt (below t.place (J t.mask h n'))=h/\probe.go t hashAt h fuel (ps t.mask h n)=some (.candidate (J t.mask h n') (below t.place (J t.mask h n')) (ps t.mask h (n'+1)))))
 | 0,n,⟨N,h1,h2,_⟩=>by lia
 | fuel+1,n,⟨N,h1,h2,h3⟩=>by
  unfold probe.go
  have hs:=T.slot (J t.mask h n)
  have hd:=(CV t.mask h n).2.2.1
  by_cases c:taken t.place (J t.mask h n)=true
  ·rw [if_pos c] at hs
   have hs:t.slot (ps t.mask h n).j=.live (below t.place (J t.mask h n)):=hs
   rw [hs]
   dsimp only
   by_cases e:hashAt (below t.place (J t.mask h n))=h
   ·rw [if_pos (by simpa using e)]
    exact ⟨n,xae _,by lia,fun q a b=>by lia,.inr ⟨c,e,rfl⟩⟩
   ·rw [if_neg (by simpa using e)]
    have hN:N≠n:=fun z=>by rw [z,c] at h3; cases h3
    obtain ⟨n',a1,a2,a3,a4⟩:=nM T hashAt h fuel (n+1) ⟨N,by lia,by lia,h3⟩
    refine ⟨n',by exact xaL ‹_›,by lia,fun q b1 b2=>?_,a4⟩
    by_cases z:q=n
    ·subst z; exact ⟨c,e⟩
    ·exact a3 q (by lia) b2
  ·have c:taken t.place (J t.mask h n)=false:=by simpa using c
   rw [if_neg (by rw [c]; exact xap)] at hs
   have hs:t.slot (ps t.mask h n).j=.empty:=hs
   rw [hs]
   dsimp only
   rw [hd]
   exact ⟨n,xae _,by lia,fun q a b=>by lia,.inl ⟨c,rfl⟩⟩
end
section
variable {prog:Program} {w:World} {K:Type} [DecidableEq K] {knd:KeyKind prog w K}
abbrev aX (knd:KeyKind prog w K) (k:List K):Int:=tupleKeyHash knd k
def zK (knd:KeyKind prog w K) (p:List K × Addr):Int × Value:=(aX knd p.1,.ref p.2)
structure SetT (knd:KeyKind prog w K) (h:Heap) (a:Addr) (ks:List (List K × Addr)):Prop where
 ob:∃ o es ep t,h.get? a=some o/\o.ExactSet/\o.data=.set es ep t/\TI t es/\t.mask<=8191/\t.led=(!w.params.followText "set-order")/\es.toList=ks.map (zK knd)
 nd:(ks.map (·.1)).Nodup
 is:∀ p∈ks,IsTupleKey knd h p.1 p.2
variable {A:Around} {E:Value->Shared->Prop} {s:Shared}
theorem lJ (hk:IsTupleKey knd s.heap k a) (h:Q false s):wpAny (model prog w) A (ofAClassStatement 8 (.ref a)) Q E s:=by
 have hT:=hk.typeIs
 obtain ⟨o,items,n,ho,_,hd,hi⟩:=hk
 unfold ofAClassStatement
 refine xaa (wpAny_typeOf hT ?_)
 dsimp only
 refine xaa ?_
 refine xab ?_
 simp only [xcH,xam,if_false]
 refine xaa (wpAny_seqItems ho hd ?_)
 dsimp only
 refine xaa ?_
 rw [<- Array.forIn_toList]
 refine wpAny_forIn_list _ (fun rest r s'=>r.1=none/\s'=s/\∀ v∈rest,carriedByValue v=true) _ ?_ ?_ _ _ ⟨rfl,rfl,hi.byValue⟩
 ·rintro v rest r s' ⟨hr,rfl,hall⟩
  have hv:=hall v xah
  have e:ofAClassStatement 7 v=pure false:=by
   cases v with
   | ref a=>cases hv
   | _=>rfl
  rw [e]
  refine xaa (xab ?_)
  simp only [xam,if_false]
  exact xab ⟨rfl,rfl,fun u hu'=>hall u (xaf _ hu')⟩
 ·rintro ⟨r1,r2⟩ s' ⟨hr,rfl,_⟩
  simp only at hr
  subst hr
  exact xab h
theorem iU (hk:IsTupleKey knd s.heap k a) (hsc:∀ k v,knd.is k v=true->v.scannable=true) (h:∀ b,Q b s):wpAny (model prog w) A (hashByValue 8 (.ref a)) Q E s:=by
 have hT:=hk.typeIs
 obtain ⟨o,items,n,ho,_,hd,hi⟩:=hk
 have hsc':∀ v∈items.toList,v.scannable=true:=by
  clear ho hd
  generalize items.toList=l at hi
  induction hi with
  | nil=>intro v hv; cases hv
  | cons h1 _ ih =>
   intro v hv
   rcases xaj.mp hv with rfl | hv
   ·exact hsc _ _ h1
   ·exact ih v hv
 unfold hashByValue
 refine xaa (wpAny_specialOf hT F.slot_tuple_hash.lookup ?_)
 dsimp only
 refine xaa (wpAny_seqItems ho hd ?_)
 dsimp only [Option.getD]
 refine xaa ?_
 rw [<- Array.forIn_toList]
 refine wpAny_forIn_list _ (fun rest r s'=>s'=s/\∀ v∈rest,v.scannable=true) _ ?_ ?_ _ _ ⟨rfl,hsc'⟩
 ·rintro v rest r s' ⟨rfl,hall⟩
  rw [hashByValue_scannable 7 (hall v xah)]
  refine xaa (xab ?_)
  split
  ·exact xab (xab (h _))
  ·exact xab ⟨rfl,fun u hu'=>hall u (xaf _ hu')⟩
 ·rintro ⟨r1,r2⟩ s' ⟨rfl,_⟩
  cases r1 with
  | none=>exact xab (h true)
  | some b=>exact xab (h b)
end
local macro_rules | `(tactic| walk_at $s:str) => do
 let x:=s.getString
 if x.startsWith "PV" then `(tactic| exact $(Lean.mkIdent (.str (.str (.num (.str (.str (.str .anonymous "_private") "PySem") "SetOps") 0) "PySem") (x.drop 2).toString)))
 else Lean.Macro.throwUnsupported
abbrev vU:Array (Int × Value)->Nat->Int:=by walk_at "PVstoredHashAt"
abbrev CQ:Array (Int × Value)->Option (SetTable × Array Nat)->Sem (Array (Int × Value) × SetTable):=by walk_at "PVreordered"
abbrev nG:Array (Int × Value)->SetTable->Bool:=by walk_at "PVdrawn"
abbrev G8:Array (Int × Value)->SetTable->Sem Unit:=by walk_at "PVmustBeLedForItsPlaces"
abbrev Ds:Bool->Sem Unit:=by walk_at "PVgaveWayHere"
def sU:Array (Int × Value)->Nat->Int:=vU
theorem qy (es:Array (Int × Value)) (i:Nat):sU es i=(es[i]?.map (·.1)).getD 0:=rfl
section
variable {prog:Program} {w:World} {K:Type} [DecidableEq K] {knd:KeyKind prog w K} {A:Around} {E:Value->Shared->Prop} {s:Shared}
theorem u_ (hk:IsTupleKey knd s.heap k a) (hy:∀ y∈ys,∃ k' b,y=.ref b/\IsTupleKey knd s.heap k' b) (h:Q false s):wpAny (model prog w) A (searchCouldBeSeen (.ref a) ys) Q E s:=by
 unfold searchCouldBeSeen
 refine xaa ?_
 refine wpAny_forIn_list _ (fun rest r s'=>r.1=none/\s'=s/\∀ y∈rest,∃ k' b,y=.ref b/\IsTupleKey knd s.heap k' b) _ ?_ ?_ _ _ ⟨rfl,rfl,hy⟩
 ·rintro y rest r s' ⟨hr,rfl,hall⟩
  obtain ⟨k',b,rfl,hb⟩:=hall y xah
  have go:∀ (P:Prop),P->P:=fun _ p=>p
  dsimp only
  split
  ·exact xab ⟨rfl,rfl,fun u hu'=>hall u (xaf _ hu')⟩
  ·refine xaa (wpAny_eqIsQuiet_tuple hk ?_)
   simp only [xcH,xam,if_false]
   refine xaa (wpAny_eqIsQuiet_tuple hb ?_)
   simp only [xcH,xam,if_false]
   refine xaa (lJ hk ?_)
   simp only [xam,if_false]
   refine xaa (lJ hb ?_)
   simp only [xam,if_false]
   exact xab ⟨rfl,rfl,fun u hu'=>hall u (xaf _ hu')⟩
 ·rintro ⟨r1,r2⟩ s' ⟨hr,rfl,_⟩
  simp only at hr
  subst hr
  exact xab h
theorem Gr {K G:Prop} (pk:K) (h:K->G):G:=h pk
theorem qX {a x:Addr} {k:List K} {ks:List (List K × Addr)} {o:Obj} {es:Array (Int × Value)} {ep:Nat} {t:SetTable} (hu:A.units<cLine) (ho:s.heap.get? a=some o) (hd:o.data=.set es ep t) (T:TI t es) (he:es.toList=ks.map (zK knd))
  (his:∀ p∈ks,IsTupleKey knd s.heap p.1 p.2) (hx:IsTupleKey knd s.heap k x) {Q:SetFound->Shared->Prop} (hyes:k∈ks.map (·.1)->Q (.there none) s)
  (nf:Nat) (hnf:nf<=10 * (t.mask+13)) (hfr:taken t.place (J t.mask (aX knd k) nf)=false) (hbf:∀ q<nf,taken t.place (J t.mask (aX knd k) q)=true)
  (hno:k∉ks.map (·.1)->Q (.free (J t.mask (aX knd k) nf) false) s) :
  ∀ (fuel n:Nat) (stand:Option Probe),stand.getD (t.probeStart (aX knd k))=ps t.mask (aX knd k) n->n<=nf->nf<n+fuel ->
   (∀ q<n,∀ p,ks[below t.place (J t.mask (aX knd k) q)]? = some p->p.1≠k)->wpAny (model prog w) A (setSearchFrom a (.ref x) (aX knd k) true fuel stand) Q E s
 | 0,n,stand,_,h1,h2,_=>by lia
 | fuel+1,n,stand,hst,h1,h2,hq=>by
  have hel:∀ i:Nat,es[i]? = (ks[i]?).map (zK knd):=fun i=>by rw [<- xaz,he,xaR]
  unfold setSearchFrom
  refine xaa (wpAny_setState_of ho hd T.fits ?_)
  dsimp only
  rw [if_neg (by rw [T.odd]; exact xap)]
  obtain ⟨n',a1,a2,a3,a4⟩:=nM T (sU es) (aX knd k) (10 * turns t.mask) n ⟨nf,h1,by unfold turns; lia,hfr⟩
  have hn':n'<=nf:=by
   by_cases z:n'<=nf
   ·exact z
   ·have:=(a3 nf h1 (by exact xbw ‹_›)).1
    rw [hfr] at this; cases this
  rcases a4 with ⟨c1,c2⟩ | ⟨c1,c2,c3⟩
  ·have c2:t.probe (sU es) (aX knd k) (stand.getD (t.probeStart (aX knd k)))=some (.empty (J t.mask (aX knd k) n') none):=by rw [hst]; exact c2
   have e:n'=nf:=by
    by_cases z:n'<nf
    ·have:=hbf n' z
     rw [c1] at this; cases this
    ·lia
   have c2:t.probe (vU es) (aX knd k) (stand.getD (t.probeStart (aX knd k)))=some (.empty (J t.mask (aX knd k) n') none):=c2
   rw [c2]
   dsimp only
   rw [e]
   refine xab (hno fun hm=>?_)
   obtain ⟨p,hp,rfl⟩:=xai.mp hm
   obtain ⟨i,hi⟩:=xcl.mp hp
   have ei:es[i]? = some (aX knd p.1,.ref p.2):=by rw [hel,hi]; rfl
   have his':i<t.place.size:=by rw [T.sz]; exact (xa7.mp ei).1
   obtain ⟨ni,b1,b2,b3⟩:=T.path i _ _ ei
   have bt:below t.place (J t.mask (aX knd p.1) ni)=i:=by rw [b2]; exact below_at T.up his'
   have tk:taken t.place (J t.mask (aX knd p.1) ni)=true:=by rw [b2]; exact (fK T.up).mpr ⟨i,his',rfl⟩
   have hlt:ni<nf:=by
    by_cases z:nf<ni
    ·have:=b3 nf z
     rw [hfr] at this; cases this
    ·have:ni≠nf:=fun z=>by rw [z,hfr] at tk; cases tk
     lia
   by_cases z:ni<n
   ·exact hq ni z p (by rw [bt]; exact hi) rfl
   ·refine (a3 ni (by exact xbv ‹_›) (by lia)).2 ?_
    rw [bt,qy,ei]; rfl
  ·have c3:t.probe (vU es) (aX knd k) (stand.getD (t.probeStart (aX knd k)))=some (.candidate (J t.mask (aX knd k) n') (below t.place (J t.mask (aX knd k) n')) (ps t.mask (aX knd k) (n'+1))):=by rw [hst]; exact c3
   rw [c3]
   dsimp only
   have tk:=jN T.up c1
   have hsl:t.slot (J t.mask (aX knd k) n')=.live (below t.place (J t.mask (aX knd k) n')):=by rw [T.slot,if_pos c1]
   generalize hi:below t.place (J t.mask (aX knd k) n')=i at tk c2 hsl ⊢
   have hil:i<es.size:=by rw [<- T.sz]; exact tk.1
   obtain ⟨p,hp⟩:∃ p,ks[i]? = some p:=by
    have:i<ks.length:=by
     have:=congrArg List.length he
     simp at this; lia
    exact ⟨_,xaU this⟩
   have ei:es[i]? = some (aX knd p.1,.ref p.2):=by rw [hel,hp]; rfl
   have hpm:=xaQ hp
   have hne:n'≠nf:=fun z=>by rw [z,hfr] at c1; cases c1
   have again:¬ p.1=k->wpAny (model prog w) A (setSearchFrom a (.ref x) (aX knd k) true fuel (some (ps t.mask (aX knd k) (n'+1)))) Q E s:=fun hpk =>
    qX hu ho hd T he his hx hyes nf hnf hfr hbf hno fuel (n'+1) (some (ps t.mask (aX knd k) (n'+1))) rfl (by lia) (by lia) fun q hqq p' hp'=>by
     by_cases z:q<n
     ·exact hq q z p' hp'
     ·by_cases z2:q=n'
      ·subst z2
       rw [hi,hp] at hp'
       cases hp'
       exact hpk
      ·intro e'
       have:=(a3 q (by exact xbv ‹_›) (by lia)).2
       refine this ?_
       rw [qy,hel,hp']
       show aX knd p'.1=_
       rw [e']
   have hin:p.1=k->k∈ks.map (·.1):=fun e=>e ▸ xai.mpr ⟨p,hpm,rfl⟩
   have seen:∀ y∈List.map (fun x=>x.snd) (Array.filter (fun x=>x.fst == aX knd k) es).toList,∃ k' b,y=.ref b/\IsTupleKey knd s.heap k' b:=fun y hy=>by
    obtain ⟨e',he',rfl⟩:=xai.mp hy
    rw [Array.toList_filter] at he'
    have:=(xbf.mp he').1
    rw [he] at this
    obtain ⟨p',hp',rfl⟩:=xai.mp this
    exact ⟨p'.1,p'.2,rfl,his p' hp'⟩
   refine Gr ?pk (K:=?K) fun key=>?main
   case main =>
    split
    ·refine xaa (u_ hx seen ?_)
     rw [if_neg xap]
     exact key
    ·exact key
   rw [ei]
   dsimp only
   refine xaa (wpAny_holding (wpAny_eqBool_tuple hu (his p hpm) hx ?_))
   refine xaa (wpAny_setState_of ho hd T.fits ?_)
   dsimp only
   by_cases e:p.1=k
   ·rw [if_pos (by simp [e])]
    exact xab (hyes (hin e))
   ·rw [if_neg (by simp [e])]
    have hsm:t.sameMemory t.moves t.mask=some true:=by unfold sameMemory; rw [if_pos (by simp)]
    rw [hsm]
    dsimp only
    rw [if_pos rfl,hsl]
    dsimp only
    rw [ei]
    dsimp only
    refine xaa (m:=isSame (.ref p.2) (.ref p.2)) ?_
    unfold isSame
    dsimp only
    rw [if_pos (by simp)]
    refine xab (xaa (xab ?_))
    rw [if_pos rfl]
    dsimp only
    rw [if_neg (by simp [e])]
    exact again e
end
theorem jw {α β:Type} {f:α->β}:∀ {l l2:List β},l.Perm l2->∀ {m:List α},l2=m.map f->∃ m':List α,l=m'.map f/\m'.Perm m:=by
 intro l l2 p
 induction p with
 | nil=>intro m e; exact ⟨m,by rw [<- e],.refl _⟩
 | cons x _ ih =>
  intro m e
  cases m with
  | nil=>cases e
  | cons y m =>
   simp only [xas,List.cons.injEq] at e
   obtain ⟨m',e1,p1⟩:=ih e.2
   exact ⟨y :: m',by rw [xas,<- e1,e.1],p1.cons _⟩
 | swap x y l =>
  intro m e
  match m,e with
  | a :: b :: m,e =>
   simp only [xas,List.cons.injEq] at e
   exact ⟨b :: a :: m,by simp [e.1,e.2.1,e.2.2],.swap ..⟩
 | trans _ _ ih1 ih2 =>
  intro m e
  obtain ⟨m',e1,p1⟩:=ih2 e
  obtain ⟨m2,e2,p2⟩:=ih1 e1
  exact ⟨m2,e2,p2.trans p1⟩
theorem mQ {α:Type} (xs:Array α) (p:Nat) (x:α):(insertAt xs p x).toList=xs.toList.take p++x :: xs.toList.drop p:=by
 unfold insertAt
 simp
 rw [xbg (by simp)]
theorem qQ (hz:(order.filterMap fun i=>es[i]?).size=es.size)
  (h:Q (order.filterMap fun i=>es[i]?,t) s):wpAny (model prog w) A (CQ es (some (t,order))) Q E s:=by
 show wpAny _ _ (if ((order.filterMap fun i=>es[i]?).size != es.size)=true then (do unsupported "internal:set-table-lost-an-element"; pure (order.filterMap fun i=>es[i]?,t)) else pure (order.filterMap fun i=>es[i]?,t)) _ _ _
 rw [if_neg (by simp [hz])]
 exact xab h
section
variable {prog:Program} {w:World} {K:Type} [DecidableEq K] {knd:KeyKind prog w K} {A:Around} {E:Value->Shared->Prop} {s:Shared}
theorem IsTupleKey.stay (hk:IsTupleKey knd h k a) (e:∀ o,h.get? a=some o->h'.get? a=some o):IsTupleKey knd h' k a:=by
 obtain ⟨o,items,n,ho,r⟩:=hk
 exact ⟨o,items,n,e o ho,r⟩
theorem SetT.stay (S:SetT knd h a ks) (e:∀ b o,h.get? b=some o->h'.get? b=some o):SetT knd h' a ks:=by
 obtain ⟨⟨o,es,ep,t,ho,r⟩,nd,is⟩:=S
 exact ⟨⟨o,es,ep,t,e _ _ ho,r⟩,nd,fun p hp=>IsTupleKey.stay (is p hp) fun o ho=>e _ _ ho⟩
theorem SetT.ne (S:SetT knd h a ks) (hx:IsTupleKey knd h k x):x≠a:=by
 obtain ⟨⟨o,es,ep,t,ho,hex,_⟩,_,_⟩:=S
 obtain ⟨o',items,n,ho',hc,_⟩:=hx
 intro z
 subst z
 rw [ho] at ho'
 cases ho'
 rw [hex.1] at hc
 exact absurd hc (by decide)
theorem Ed (S:SetT knd s.heap a ks) (hx:IsTupleKey knd s.heap k x) (hz:ks.length<2000) (hu:A.units<cLine) (hsc:∀ k v,knd.is k v=true->v.scannable=true)
  (h:∀ (b:Bool) (h':Heap) (ks':List (List K × Addr)),Heap.SameBut a s.heap h'->SetT knd h' a ks'->(k∈ks.map (·.1)/\ks'=ks\/k∉ks.map (·.1)/\ks'.Perm ((k,x) :: ks))->Q b { s with heap:=h' }) :
  wpAny (model prog w) A (setAddHashed a (.ref x) (aX knd k)) Q E s:=by
 obtain ⟨⟨o,es,ep,t,ho,hex,hd,T,hM,hL,he⟩,nd,is⟩:=id S
 have hlen:es.size=ks.length:=by
  have:=congrArg List.length he
  simpa using this
 obtain ⟨m,hm,_⟩:=T.pw
 obtain ⟨e0,he0,hf0⟩:=T.free
 obtain ⟨nf,n1,n2,n3⟩:=mY hm (aX knd k) (taken t.place) he0 hf0
 unfold setAddHashed setAddHashedIn
 refine wpAny_holding (xaa (wpAny_setState_of ho hd T.fits ?_))
 dsimp only
 have hbs:byScan (.ref x) es=false:=by simp [byScan,Value.scannable]
 rw [hbs]
 simp only [xam,if_false]
 refine xaa ?_
 unfold setSearch
 refine qX hu ho hd T he is hx (fun hin=>?_) nf n1 n2 n3 (fun hout=>?_) 100000 0 none rfl (xaq _) (by lia) fun q hq=>absurd hq (xbD q)
 ·dsimp only
  refine xab ?_
  have e:s={ s with heap:=s.heap }:=by cases s; rfl
  rw [e]
  exact h _ _ ks (Heap.SameBut.refl a s.heap) S (.inl ⟨hin,rfl⟩)
 ·dsimp only
  generalize hj:J t.mask (aX knd k) nf=j at n2 ⊢
  have hjm:j<=t.mask:=by rw [<- hj]; exact J_le ..
  have hre:Reach t.mask t.place (aX knd k) j:=⟨nf,n1,hj,n3⟩
  refine xaa (wpAny_setState_of ho hd T.fits ?_)
  dsimp only
  have hput:t.put j=({ t with place:=insertAt t.place (below t.place j) j,dummies:=#[] },below t.place j):=by
   unfold SetTable.put
   have:has t.dummies j=false:=by rw [T.dm]; rfl
   simp only [this,xam,if_false]
   rw [T.dm]
  rw [hput]
  dsimp only
  have hin:(insertAt es (below t.place j) (aX knd k,.ref x)).toList=(ks.take (below t.place j)++(k,x) :: ks.drop (below t.place j)).map (zK knd):=by
   rw [mQ,he,xaP,xas,xcm,xcn]; rfl
  have hperm:(ks.take (below t.place j)++(k,x) :: ks.drop (below t.place j)).Perm ((k,x) :: ks):=by
   refine List.perm_middle.trans ?_
   rw [xbk]
  have hbl:below t.place j<=es.size:=by rw [<- T.sz]; exact (aV T.up j).1
  have hsz':(insertAt es (below t.place j) (aX knd k,Value.ref x)).size=es.size+1:=bQ _ _ hbl
  have hxa:=S.ne hx
  have isK:∀ h',Heap.SameBut a s.heap h'->∀ ks':List (List K × Addr),ks'.Perm ((k,x) :: ks)->∀ p∈ks',IsTupleKey knd h' p.1 p.2:=fun h' sb ks' pm p hp=>by
   have:IsTupleKey knd s.heap p.1 p.2:=by
    rcases xaj.mp (pm.mem_iff.mp hp) with rfl | hp
    ·exact hx
    ·exact is p hp
   exact IsTupleKey.stay this fun o' ho'=>sb.extBut _ _ (S.ne this) ho'
  have ndK:∀ ks':List (List K × Addr),ks'.Perm ((k,x) :: ks)->(ks'.map (·.1)).Nodup:=fun ks' pm=>by
   rw [(pm.map _).nodup_iff,xas,xaO]
   exact ⟨hout,nd⟩
  -- behind the flag
  have main:∀ pl:Bool,wpAny (model prog w) A (do
    storeSet a (insertAt es (below t.place j) (aX knd k,.ref x)) { t with place:=insertAt t.place (below t.place j) j,dummies:=#[],plain:=pl }
    if (!false && ({ t with place:=insertAt t.place (below t.place j) j,dummies:=#[],plain:=pl }:SetTable).tooFull)=true then do
      setRelay a (grown (es.size+1))
      pure true
     else pure true) Q E s:=fun pl=>by
   generalize ht':({ t with place:=insertAt t.place (below t.place j) j,dummies:=#[],plain:=pl }:SetTable)=t'
   have tm:t'.mask=t.mask:=by rw [<- ht']
   have tp:t'.place=insertAt t.place (below t.place j) j:=by rw [<- ht']
   have td:t'.dummies = #[]:=by rw [<- ht']
   have hfill:t'.fill=es.size+1:=by
    unfold SetTable.fill
    rw [tp,td,bQ _ _ (aV T.up j).1,T.sz]; simp
   refine xaa (wpAny_storeSet_of ho hd ?_ (by rw [hsz',sizeLine_eq]; lia))
   have ho1:(s.heap.update a (Obj.putSet (insertAt es (below t.place j) (aX knd k,.ref x)) t')).get? a=some { o with data:=.set (insertAt es (below t.place j) (aX knd k,.ref x)) (ep+1) t' }:=by
    have:=xbc (Obj.putSet (insertAt es (below t.place j) (aX knd k,.ref x)) t') ho (by rw [putSet_of _ _ hd]; rfl)
    rw [putSet_of _ _ hd] at this; exact this
   have sb1:=Heap.SameBut.update s.heap a (Obj.putSet (insertAt es (below t.place j) (aX knd k,.ref x)) t')
   by_cases c:t'.tooFull=true
   ·rw [if_pos (by rw [c]; rfl)]
    have hfit:t'.fits (insertAt es (below t.place j) (aX knd k,Value.ref x)).size=true:=by
     have:=T.few
     simp only [SetTable.fits,hfill,xaC,beq_iff_eq,decide_eq_true_eq]
     rw [tp,bQ _ _ (aV T.up j).1,hsz',T.sz,tm]
     exact ⟨rfl,by lia⟩
    obtain ⟨t2,order,r1,r2,r3,r4,r5,r6,r7,r8,_⟩:=qz (t:=t') (es:=insertAt es (below t.place j) (aX knd k,Value.ref x)) (by lia)
    rw [hsz'] at r1 r4
    unfold setRelay
    refine xaa (xaa (wpAny_setState_of ho1 rfl hfit ?_))
    dsimp only
    rw [if_neg (by rw [sizeLine_eq]; lia)]
    refine xaa ?_
    rw [r1]
    obtain ⟨ks',ek,pk⟩:=jw r8 hin
    refine qQ r7 ?_
    dsimp only
    refine wpAny_storeSet_of ho1 rfl ?_ (by rw [r7,hsz',sizeLine_eq]; lia)
    refine xab ?_
    have sb2:=sb1.trans (Heap.SameBut.update _ a (Obj.putSet (order.filterMap fun i=>(insertAt es (below t.place j) (aX knd k,Value.ref x))[i]?) t2))
    have ho2:=xbc (Obj.putSet (order.filterMap fun i=>(insertAt es (below t.place j) (aX knd k,Value.ref x))[i]?) t2) ho1 (by rw [putSet_of _ _ rfl]; rfl)
    rw [putSet_of _ _ rfl] at ho2
    exact h true _ ks' sb2 ⟨⟨_,_,_,_,ho2,hex,rfl,r6,r5 (by lia),by rw [r3,<- ht']; exact hL,ek⟩,ndK ks' (pk.trans hperm),isK _ sb2 ks' (pk.trans hperm)⟩ (.inr ⟨hout,pk.trans hperm⟩)
   ·rw [if_neg (by simpa using c)]
    refine xab ?_
    have hfew:(es.size+1) * 5<t.mask * 3:=by
     unfold SetTable.tooFull at c
     rw [hfill,tm] at c
     simpa using c
    exact h true _ _ sb1 ⟨⟨_,_,_,_,ho1,hex,rfl,T.put hjm n2 hre tm tp td hfew,by rw [tm]; exact hM,by rw [<- ht']; exact hL,hin⟩,ndK _ hperm,isK _ sb1 _ hperm⟩ (.inr ⟨hout,hperm⟩)
  split
  ·refine xaa (iU hx hsc fun b=>?_)
   cases b with
   | true=>exact main t.plain
   | false=>exact main false
  ·exact xaa (xab (main t.plain))
end
end TS
namespace TS
open PySem PySem.SetTable PyProof.Rows
section
variable {prog:Program} {w:World} {A:Around} {R:Result->Shared->Prop} {I:Addr} {fp wr:List Addr} {n:Nat} {P:Nat->Value->Prop} {St:Nat->Heap->Prop}
theorem yL (W:Walks prog w A.in1 I fp wr n P St) (S:Addr) (hSf:S∉fp) (SI:Nat->Heap->Prop) (keep:∀ i h h',SI i h->(∀ b o,b∉wr->h.get? b=some o->h'.get? b=some o)->SI i h')
  (step:∀ (i:Nat) (v:Value) (s':Shared) (E':Value->Shared->Prop) (Q:Bool->Shared->Prop),P i v->SI i s'.heap->(∀ b h' tk,Heap.SameBut S s'.heap h'->SI (i+1) h'->Q b { s' with heap:=h',toks:=tk })->wpAny (model prog w) A.in1 (setAdd S v) Q E' s') :
  ∀ (k i:Nat) (s:Shared),n - i=k->i<=n->St i s.heap->SI i s.heap ->
   (∀ h' tk,SI n h'->(∀ b o,b∉wr->b≠S->s.heap.get? b=some o->h'.get? b=some o)->R (.ok (.ret .none)) { s with heap:=h',toks:=tk }) ->
   codeAny (model prog w) A (.builtin "set.update.loop" ⟨[.ref S,.ref I],[]⟩) R s:=by
 have hSw:S∉wr:=fun h=>hSf (W.sub _ h)
 intro k
 induction k with
 | zero =>
  intro i s hk hi hst hS hR
  have hin:i=n:=by lia
  subst hin
  refine codeAny_builtin F.entry_set_update_loop ?_
  rw [Around.under_plainId F.plain_set_update_loop _]
  show wpAny _ A.in1 (pyNext (.ref I) >>= _) _ _ s
  refine xaa (W.done s _ _ hst fun h' tk hk'=>?_)
  show wpAny _ A.in1 (ret Value.none) _ _ _
  exact xab (hR h' tk (keep _ _ _ hS hk') fun b o hb _ e=>hk' b o hb e)
 | succ k ih =>
  intro i s hk hi hst hS hR
  have hlt:i<n:=by lia
  refine codeAny_builtin F.entry_set_update_loop ?_
  rw [Around.under_plainId F.plain_set_update_loop _]
  show wpAny _ A.in1 (pyNext (.ref I) >>= _) _ _ s
  refine xaa (W.item i s _ _ hlt hst fun v h' tk hP hst' hk'=>?_)
  show wpAny _ A.in1 (holding [v] (setAdd S v) >>= _) _ _ _
  refine xaa (wpAny_holding (step i v _ _ _ hP (keep _ _ _ hS hk') fun b h2 tk2 sb hS2=>?_))
  refine xab ⟨plainId_quiet F.plain_set_update_loop _,ih (i+1) _ (by lia) hlt (W.frame _ _ _ hst' fun b hb o e=>?_) hS2 fun h3 tk3 hS3 hk3=>?_⟩
  ·exact sb.extBut b o (fun z=>hSf (by rw [<- z]; exact hb)) e
  ·exact hR h3 tk3 hS3 fun b o hb hbS e=>hk3 b o hb hbS (sb.extBut b o hbS (hk' b o hb e))
end
section
variable {prog:Program} {w:World} {A:Around} {E:Value->Shared->Prop} {s:Shared}
theorem xq (a:Value)
  (h:Q₁ (.ref s.heap.objs.size) { s with heap:=s.heap.push { cls:=.type "set",dict:=none,data:=.set #[] 0 (.fresh 0 0 (!w.params.followText "set-order")) } }) :
  codeAny (model prog w) A (.call (.builtin "set.__new__") ⟨[.type "set",a],[]⟩) (wants Q₁ E) s:=by
 refine codeAny_of_tree ?_
 show wpAny _ A.in1 (do checkBuiltinCall "set.__new__" ⟨[.type "set",a],[]⟩; again (.builtin "set.__new__" ⟨[.type "set",a],[]⟩)) _ _ s
 refine xaa (wpAny_of_eq (F.newCall_set_1 a) (xab ⟨plainId_quiet F.plain_set_new _,codeAny_builtin F.entry_set_new ?_⟩))
 rw [Around.under_plainId F.plain_set_new _]
 unfold Builtin.«set.__new__» Builtin.Frozenset.newClass
 have hsub:=sub_set_self
 obtain ⟨hp,g,d,tk,os⟩:=s
 dsimp only
 wp_walk
 refine wpAny_askSetting (xab ?_)
 dsimp only
 simp only [newObj]
 refine xaa (wpAny_alloc (xab ?_))
 exact xab h
theorem jn (hh:A.handled=none) (hl:s.heap.IsList l items) (SI:Nat->Heap->Prop)
  (h0:∀ h,h.get? s.heap.objs.size=some { cls:=.type "set",dict:=none,data:=.set #[] 0 (.fresh 0 0 (!w.params.followText "set-order")) }->(∀ b o,s.heap.get? b=some o->h.get? b=some o)->SI 0 h)
  (keep:∀ i h h',SI i h->(∀ b o,b<=s.heap.objs.size->h.get? b=some o->h'.get? b=some o)->SI i h')
  (step:∀ (i:Nat) (v:Value) (s':Shared) (E':Value->Shared->Prop) (Q:Bool->Shared->Prop),items[i]? = some v->SI i s'.heap->(∀ b h' tk,Heap.SameBut s.heap.objs.size s'.heap h'->SI (i+1) h'->Q b { s' with heap:=h',toks:=tk }) ->
   wpAny (model prog w) A.in1.in1.in1 (setAdd s.heap.objs.size v) Q E' s')
  (h:∀ (h':Heap) (tk:Nat),SI items.size h'->(∀ b o,b<s.heap.objs.size->s.heap.get? b=some o->h'.get? b=some o)->Q (.ref s.heap.objs.size) { s with heap:=h',toks:=tk }) :
  wpAny (model prog w) A (call (.type "set") [.ref l]) Q E s:=by
 obtain ⟨c,tl,hmro⟩:=F.called_set.mro
 have hmade:=F.called_set.made
 have hsub:=F.called_set.sub
 refine wpAny_call (codeAny_of_tree ?_)
 show wpAny _ _ (callAny (.type "set") _) _ _ _
 refine xab ⟨Code.quiet_builtin _ (by decide +kernel),codeAny_builtin F.entry_type_call ?_⟩
 rw [Around.under_plain (weight_type_call_type "set" [.ref l] []) rfl]
 have h1:=F.called_set.notType
 have h2:=F.called_set.canCreate
 have hct:=F.typeCall_set_1 (.ref l)
 repeat (any_goals (first | assumption | wp_step))
 refine codeAny_mono (xq (.ref l) (E:=E) (Q₁:=fun obj s₁=>obj=.ref s.heap.objs.size/\s₁={ s with heap:=s.heap.push { cls:=.type "set",dict:=none,data:=.set #[] 0 (.fresh 0 0 (!w.params.followText "set-order")) } }) ⟨rfl,rfl⟩) fun r s₁ hr=>?_
 cases r with
 | error e=>exact hr
 | ok fl =>
  cases fl with
  | ret obj =>
   obtain ⟨rfl,rfl⟩:=hr
   generalize hled:(!w.params.followText "set-order")=led at h0 ⊢
   have hS:(s.heap.push { cls:=.type "set",dict:=none,data:=.set #[] 0 (.fresh 0 0 led) }).get? s.heap.objs.size=some { cls:=.type "set",dict:=none,data:=.set #[] 0 (.fresh 0 0 led) }:=xao _ rfl
   have hT:Shared.TypeIs { s with heap:=s.heap.push { cls:=.type "set",dict:=none,data:=.set #[] 0 (.fresh 0 0 led) } } (.ref s.heap.objs.size) "set" := ⟨_,hS,rfl⟩
   have hli:=F.called_set.init.lookup
   have hbi:=F.called_set.init.bind (.ref s.heap.objs.size)
   repeat (any_goals (first | assumption | wp_step))
   refine codeAny_mono (codeAny_call_builtin (R:=wants (fun r s₂=>r=.none/\∃ h' tk,s₂={ s with heap:=h',toks:=tk }/\SI items.size h' /\
     (∀ b o,b<s.heap.objs.size->s.heap.get? b=some o->h'.get? b=some o)) E) F.called_set.init.plain F.entry_set_init (check_set_init_1 hT ?_)) fun r₂ s₂ hr₂=>?_
   ·obtain ⟨ol,hol,hcl,nl,hdl⟩:=hl
    obtain ⟨ocls,odict,odata,oslots⟩:=ol
    simp only at hcl hdl
    subst hcl; subst hdl
    have hol':(s.heap.push { cls:=.type "set",dict:=none,data:=.set #[] 0 (.fresh 0 0 led) }).get? l=some { cls:=.type "list",dict:=odict,data:=.seq items nl,slots:=oslots }:=xad _ hol
    have hsls:=F.sub_list_set
    have hslf:=F.sub_list_frozenset
    have hne:(Value.type "list" == Value.type "dict")=false:=by decide
    have hl1:(s.heap.push { cls:=.type "set",dict:=none,data:=.set #[] 0 (.fresh 0 0 led) }).IsList l items:=⟨_,hol',rfl,nl,rfl⟩
    unfold Builtin.«set.__init__» noKeywords Builtin.Frozenset.updateFrom
    generalize hPI:pyIter=PI
    wp_walk
    subst hPI
    refine wpAny_pyIter_list hl1 ?_
    refine xaa (wpAny_runValue ?_)
    have hlS:l<s.heap.objs.size:=xal hol
    have hh3:A.in1.in1.in1.handled=none:=by simp [hh]
    have hsz:(s.heap.push { cls:=.type "set",dict:=none,data:=.set #[] 0 (.fresh 0 0 led) }).objs.size=s.heap.objs.size+1:=xca ..
    have hneI:l≠(s.heap.push { cls:=.type "set",dict:=none,data:=.set #[] 0 (.fresh 0 0 led) }).objs.size:=by
     rw [hsz]; exact xar (xaS hlS)
    have hSf:s.heap.objs.size∉[(s.heap.push { cls:=.type "set",dict:=none,data:=.set #[] 0 (.fresh 0 0 led) }).objs.size,l]:=by
     rw [hsz]; simp only [xaj,xaV,xby,or_false,not_or]
     exact ⟨xar (Nat.lt_succ_self _),Nat.ne_of_gt hlS⟩
    refine yL (Walks.list hh3 _ l hneI items) s.heap.objs.size hSf SI (fun i h h' hi hk=>keep i h h' hi fun b o hb e=>hk b o ?_ e) (fun i v s' E' Q' hP hi hq=>step i v s' E' Q' hP hi hq) (items.size - 0) 0 _ (by lia) (xaq _)
     ⟨⟨_,xao _ rfl,rfl,rfl⟩,(hl1.push _)⟩ ?hS0 ?hR
    ·rw [hsz]
     simp only [xaj,xby,or_false]
     exact xar (xbe hb)
    case hS0 =>
     exact h0 _ (xad _ hS) fun b o e=>xad _ (xad _ e)
    case hR =>
     intro h' tk' hS' hk'
     show wpAny _ _ _ _ _ _
     refine xab ?_
     show wpAny _ _ (ret Value.none) _ _ _
     refine xab ⟨rfl,h',tk',rfl,hS',fun b o hb e=>?_⟩
     refine hk' b o ?_ (xar hb) (xad _ (xad _ e))
     rw [hsz]
     simp only [xaj,xby,or_false]
     exact xar (xaS hb)
   ·cases r₂ with
    | error e=>exact hr₂
    | ok fl₂ =>
     cases fl₂ with
     | ret r =>
      obtain ⟨rfl,h',tk,rfl,hS',hk'⟩:=hr₂
      repeat (any_goals (first | assumption | wp_step))
      exact h _ _ hS' hk'
     | _=>exact hr₂.elim
  | _=>exact hr.elim
end
theorem rC:Manifest.owners.lookup (String.ofList ['r','o','t','a','r','e','t','i','_','t','e','s'].reverse)=some Manifest.sig_set_iterator:=by kernel_rfl
theorem bU:Slot "set_iterator" "__next__" "set_iterator.__next__" :=
 .of (owner := "set_iterator") (n := "__next__") (by rw [typeLookup_type,builtinLookup_eq_fast]; kernel_rfl) (by decide +kernel) (by decide +kernel) (by decide +kernel)
  (by first | exact .inl (by decide +kernel) | exact .inr (by decide +kernel)) (by rw [isSubtype_type]; kernel_rfl)
theorem mC:entryFor table "set_iterator.__next__" = some Builtin.«set_iterator.__next__» := entryFor_of_tree (by kernel_rfl)
theorem pB (a:Value):argsOk "set_iterator.__next__" ⟨[a],[]⟩:=by
 unfold argsOk; rw [signature?_of (id := "set_iterator.__next__") (n:=['_','_','t','x','e','n','_','_']) (o:=['r','o','t','a','r','e','t','i','_','t','e','s']) (by kernel_rfl) rC]; kernel_rfl
theorem iu:Slot "set_iterator" "__iter__" "set_iterator.__iter__" :=
 .of (owner := "set_iterator") (n := "__iter__") (by rw [typeLookup_type,builtinLookup_eq_fast]; kernel_rfl) (by decide +kernel) (by decide +kernel) (by decide +kernel)
  (by first | exact .inl (by decide +kernel) | exact .inr (by decide +kernel)) (by rw [isSubtype_type]; kernel_rfl)
theorem lL:entryFor table "set.__iter__" = some Builtin.«frozenset.__iter__» :=
 entryFor_alias (id' := "frozenset.__iter__") (by kernel_rfl) rfl (by decide +kernel) (by kernel_rfl)
theorem iR {α:Type}:∀ (l:List α) (i:Nat) (h:i<l.length),(l[i] :: l.eraseIdx i).Perm l
 | x :: l,0,_=>.refl _
 | x :: l,i+1,h=>by
  have ih:=iR l i (by simpa using h)
  exact (List.Perm.swap _ _ _).trans (ih.cons x)
theorem wR {α:Type} (next:Nat->Nat):∀ (fuel k:Nat) (left:List α) (out:Array α),left.length=fuel->(pickOrder.go next fuel k left out).toList.Perm (out.toList++left)
 | 0,k,left,out,h=>by
  have:left=[]:=xbO.mp h
  subst this
  unfold pickOrder.go
  rw [xaF]
 | fuel+1,k,left,out,h=>by
  unfold pickOrder.go
  have hlt:next k % left.length<left.length:=xcz _ (by lia)
  rw [xaU hlt]
  dsimp only
  refine (wR next fuel (k+1) _ _ (by rw [List.length_eraseIdx]; split <;> lia)).trans ?_
  rw [xaE,xa6]
  refine List.Perm.append_left _ ?_
  exact iR _ _ hlt
theorem lg {α:Type} (next:Nat->Nat) (xs:Array α):(pickOrder next xs).toList.Perm xs.toList:=by
 unfold pickOrder
 have:=wR next xs.size 0 xs.toList #[] (by simp)
 simpa using this
section
variable {prog:Program} {w:World} {A:Around} {E:Value->Shared->Prop} {s:Shared}
theorem qi (hn:n≠0) (h:∀ i d,i<n->Q i { s with drawn:=d }):wpAny M A (choose src n) Q E s:=fun Γ p _=>⟨hn,h _ _ (xcz _ (Nat.pos_of_ne_zero hn))⟩
theorem Ah {α:Type} (n:Nat):∀ (xs:List α) (s:Shared) (Q:List α->Shared->Prop),xs.length=n->(∀ ys d,ys.Perm xs->Q ys { s with drawn:=d })->wpAny (model prog w) A (drawOrder n xs) Q E s:=by
 induction n with
 | zero =>
  intro xs s Q h q
  have:xs=[]:=xbO.mp h
  subst this
  unfold drawOrder
  exact xab (q [] s.drawn (.refl _))
 | succ n ih =>
  intro xs s Q h q
  cases xs with
  | nil=>cases h
  | cons x xs =>
   unfold drawOrder
   refine xaa (qi (by simp) fun i d hi=>?_)
   rw [xaU hi]
   dsimp only
   refine xaa (ih _ _ _ (by rw [List.length_eraseIdx,if_pos hi]; simp at h ⊢; lia) fun ys d' py=>?_)
   refine xab ?_
   exact q _ d' ((py.cons _).trans (iR _ _ hi))
def SIt (h:Heap) (I:Addr) (first:Value) (i:Nat) (a:Addr) (n ep:Nat):Prop :=
 h.get? I=some { cls:=.type "set_iterator",dict:=none,data:=.fields #[first,.int i 0,.ref a,.int n 0,.int ep 0],slots:=#[] }
def SOb (h:Heap) (a:Addr) (es:Array (Int × Value)) (ep:Nat) (t:SetTable):Prop:=∃ o,h.get? a=some o/\o.data=.set es ep t
variable {a I:Addr} {es:Array (Int × Value)} {ep:Nat} {t:SetTable} {first:Value} {i n:Nat}
theorem SIt.typeIs (h:SIt s.heap I first i a n ep):s.TypeIs (.ref I) "set_iterator" := ⟨_,h,rfl⟩
theorem wU (hit:SIt s.heap I first i a n ep)
  (h:wpAny (model prog w) A.in1 (Builtin.«set_iterator.__next__» ⟨[.ref I],[]⟩) (fun fin s'=>∃ v,fin=.done (.ret v)/\Q (some v) s') (fun e s'=>wpAny (model prog w) A (isInstance e (.type "StopIteration")) (fun b s''=>b=true/\Q none s'') E s') s) :
  wpAny (model prog w) A (pyNext (.ref I)) Q E s:=by
 unfold pyNext
 refine xaa (wpAny_attempt (wpAny_callSpecial?_slot (name:=Str.ofString "__next__") hit.typeIs bU
  (wpAny_call_entry bU hit.typeIs mC ?_ (pB _))))
 refine xaZ h (fun fin s' ⟨v,e,q⟩=>⟨v,e,xab q⟩) fun e s' q=>?_
 refine xaa (xaZ q (fun b s'' hx9=>?_) fun _ _ x=>x)
 obtain ⟨e,q⟩:=hx9
 subst e
 rw [if_pos rfl]
 exact xab q
theorem wu {P:Fin->Shared->Prop} {Q:Option Value->Shared->Prop} (hh:A.handled=none) (hQ:∀ h',(∀ b o,s.heap.get? b=some o->h'.get? b=some o)->Q none { s with heap:=h' }) :
  wpAny (model prog w) A.in1 (newExc (.type "StopIteration") [] >>= fun e=>raiseNew e) P (fun e s'=>wpAny (model prog w) A (isInstance e (.type "StopIteration")) (fun b s''=>b=true/\Q none s'') E s') s:=by
 refine xaa ?_
 simp only [newExc,newTuple]
 refine xaa (wpAny_newObj_type ?_ (by size_fits))
 refine xaa (m:=firstArgMember _ _) (wpAny_of_eq (a:=Value.none) (by first | rfl | (simp only [firstArgMember]; rfl)) ?_)
 refine wpAny_newObj_type ?_ (by size_fits)
 simp only [raiseNew]
 refine xaa (wpAny_handled ?_)
 rw [show A.in1.handled=none from hh]
 refine xaa (xab (wpAny_throw ?_))
 refine wpAny_isInstance (T := "StopIteration") (b:=true) ⟨_,xao _ rfl,rfl⟩ isSubtype_stop ⟨rfl,?_⟩
 exact hQ _ fun b o e=>xad _ (xad _ e)
theorem iw {Q:Option Value->Shared->Prop} {slot:Nat} {r:Option (Value × Nat)} (hh:A.handled=none) (hne:a≠I) (hit:SIt s.heap I (.int slot 0) i a es.size ep) (hob:SOb s.heap a es ep t) (hf:t.fits es.size=true)
  (hr:∀ (A':Around) (E':Value->Shared->Prop) (Q':Option (Value × Nat)->Shared->Prop),Q' r s->wpAny (model prog w) A' (setNext a slot i ep) Q' E' s)
  (h1:∀ x nx h',r=some (x,nx)->SIt h' I (.int nx 0) (i+1) a es.size ep->Heap.SameBut I s.heap h'->Q (some x) { s with heap:=h' })
  (h2:∀ h',r=none->(∀ b o,b≠I->s.heap.get? b=some o->h'.get? b=some o)->Q none { s with heap:=h' }) :
  wpAny (model prog w) A (pyNext (.ref I)) Q E s:=by
 obtain ⟨o,ho,hd⟩:=hob
 refine wU hit ?_
 unfold Builtin.«set_iterator.__next__»
 refine xaa (m:=slotArgs "__next__" 0 ⟨[.ref I],[]⟩) (wpAny_of_eq (a:=(.ref I,[])) rfl ?_)
 dsimp only
 refine xaa (wpAny_fieldsOf hit rfl ?_)
 dsimp only
 refine xaa (wpAny_setEntries_of ho hd hf ?_)
 rw [if_neg (by simp)]
 simp only [xbU]
 refine xaa (hr _ _ _ ?_)
 cases r with
 | some p =>
  obtain ⟨x,nx⟩:=p
  dsimp only
  refine xaa (wpAny_setField_rec hit (by simp) fun g1 e1 sb1=>?_)
  refine xaa (wpAny_setField_rec (s:={ s with heap:=g1 }) e1 (by simp) fun g2 e2 sb2=>?_)
  exact xab ⟨x,rfl,h1 x nx g2 rfl (by unfold SIt; simpa [rawInt] using e2) (sb1.trans sb2)⟩
 | none =>
  dsimp only
  refine xaa (wpAny_setField_rec hit (by simp) fun g1 e1 sb1=>?_)
  exact wu (s:={ s with heap:=g1 }) hh fun h' k=>h2 h' rfl fun b o hb e=>k b o (sb1.extBut b o hb e)
theorem mW {Q:Option Value->Shared->Prop} {T:Addr} {ix:List Nat} {oT:Obj} {kT:Nat} (hh:A.handled=none) (hit:SIt s.heap I (.ref T) i a es.size ep) (hob:SOb s.heap a es ep t) (hf:t.fits es.size=true)
  (hT:s.heap.get? T=some oT) (hTd:oT.data=.seq (ix.map fun (k:Nat)=>Value.int k 0).toArray kT)
  (h1:∀ k e h',ix[i]? = some k->es[k]? = some e->SIt h' I (.ref T) (i+1) a es.size ep->Heap.SameBut I s.heap h'->Q (some e.2) { s with heap:=h' }) (hix:∀ k∈ix,k<es.size)
  (h2:∀ h',ix[i]? = none->(∀ b o,b≠I->s.heap.get? b=some o->h'.get? b=some o)->Q none { s with heap:=h' }) :
  wpAny (model prog w) A (pyNext (.ref I)) Q E s:=by
 obtain ⟨o,ho,hd⟩:=hob
 refine wU hit ?_
 unfold Builtin.«set_iterator.__next__»
 refine xaa (m:=slotArgs "__next__" 0 ⟨[.ref I],[]⟩) (wpAny_of_eq (a:=(.ref I,[])) rfl ?_)
 dsimp only
 refine xaa (wpAny_fieldsOf hit rfl ?_)
 dsimp only
 refine xaa (wpAny_setEntries_of ho hd hf ?_)
 rw [if_neg (by simp)]
 refine xaa (wpAny_seqItems hT hTd ?_)
 dsimp only
 simp only [xbU,List.getElem?_toArray,xaR]
 cases hk:ix[i]? with
 | some k =>
  dsimp only [Option.map]
  have hkl:=hix k (xaQ hk)
  refine xaa ?_
  unfold setNextDrawn
  refine xaa (wpAny_setState_of ho hd hf ?_)
  dsimp only
  simp only [xbU]
  rw [if_neg (by simp),xaJ hkl]
  refine xab ?_
  refine xaa (wpAny_setField_rec hit (by simp) fun g1 e1 sb1=>?_)
  exact xab ⟨_,rfl,h1 k es[k] g1 hk (xaJ hkl) (by unfold SIt; simpa [rawInt] using e1) sb1⟩
 | none =>
  dsimp only [Option.map]
  refine xaa (wpAny_setField_rec hit (by simp) fun g1 e1 sb1=>?_)
  refine xaa (wpAny_setField_rec (s:={ s with heap:=g1 }) e1 (by simp) fun g2 e2 sb2=>?_)
  exact wu (s:={ s with heap:=g2 }) hh fun h' k=>h2 h' hk fun b o hb e=>k b o ((sb1.trans sb2).extBut b o hb e)
theorem nu (a:Value):argsOk "set_iterator.__iter__" ⟨[a],[]⟩:=by
 unfold argsOk; rw [signature?_of (id := "set_iterator.__iter__") (n:=['_','_','r','e','t','i','_','_']) (o:=['r','o','t','a','r','e','t','i','_','t','e','s']) (by kernel_rfl) rC]; kernel_rfl
theorem lV:entryFor table "set_iterator.__iter__" = some Builtin.«dict_keyiterator.__iter__» :=
 entryFor_alias (id' := "dict_keyiterator.__iter__") (by kernel_rfl) rfl (by decide +kernel) (by kernel_rfl)
theorem lB (hit:SIt s.heap I first i a n ep) (h:Q (.ref I) s):wpAny (model prog w) A (pyIter (.ref I)) Q E s:=by
 refine wpAny_pyIter_slot hit.typeIs iu (wpAny_call_entry iu hit.typeIs lV ?_ (nu _))
 show wpAny _ _ (ret (.ref I)) _ _ s
 exact xab ⟨_,rfl, "set_iterator",_,hit.typeIs,bU.lookup,h⟩
theorem rE {slot:Nat} {Q:Option (Value × Nat)->Shared->Prop} (hb:w.params.followText "set-order" = true) (hob:SOb s.heap a es ep t) (hf:t.fits es.size=true)
  (h:Q (((pickOrder (w.params.setOrder a ep) es)[i]?).map fun e=>(e.2,slot)) s):wpAny (model prog w) A (setNext a slot i ep) Q E s:=by
 obtain ⟨o,ho,hd⟩:=hob
 unfold setNext
 refine xaa (wpAny_setState_of ho hd hf ?_)
 dsimp only
 unfold setsByText
 refine xaa (xaa (wpAny_askSetting (xab ?_)))
 dsimp only
 rw [if_pos (by exact hb),if_neg (by simp)]
 refine xaa ?_
 unfold setWalk
 refine xaa (wpAny_setState_of ho hd hf ?_)
 dsimp only
 unfold setsByText
 refine xaa (xaa (wpAny_askSetting (xab ?_)))
 dsimp only
 rw [if_pos (by exact hb)]
 refine xaa (wpAny_askSetting (xab ?_))
 exact xab h
theorem mO {slot:Nat} {Q:Option (Value × Nat)->Shared->Prop} (hb:w.params.followText "set-order" = false) (hl:t.led=true) (hdr:(!t.plain && decide (es.size>1))=false) (hob:SOb s.heap a es ep t) (hf:t.fits es.size=true)
  (h:Q (match es[below t.place slot]?,t.place[below t.place slot]? with
  | some (_,x),some j=>some (x,j+1)
  | _,_=>none) s):wpAny (model prog w) A (setNext a slot i ep) Q E s:=by
 obtain ⟨o,ho,hd⟩:=hob
 unfold setNext
 refine xaa (wpAny_setState_of ho hd hf ?_)
 dsimp only
 unfold setsByText
 refine xaa (xaa (wpAny_askSetting (xab ?_)))
 dsimp only
 rw [if_neg (by rw [show (model prog w).w.params.followText "set-order" = false from hb]; exact xap)]
 have e0:nG es t=(!t.plain && decide (es.size>1)):=rfl
 unfold nG at e0
 rw [e0,hdr,if_neg xap]
 refine xaa (m:=G8 es t) ?_
 show wpAny _ _ (if (!t.led && !es.isEmpty)=true then unsupported "set:maker-not-led" else pure ()) _ _ s
 rw [if_neg (by rw [hl]; simp)]
 exact xab (xab h)
def PV (ys:List (Int × Value)) (i:Nat) (v:Value):Prop:=∃ e,ys[i]? = some e/\v=e.2
theorem SIt.keep (x:SIt h I first i a n ep) (e:∀ o,h.get? I=some o->h'.get? I=some o):SIt h' I first i a n ep:=e _ x
theorem SOb.keep (x:SOb h a es ep t) (e:∀ o,h.get? a=some o->h'.get? a=some o):SOb h' a es ep t:=let ⟨o,ho,r⟩:=x; ⟨o,e _ ho,r⟩
theorem vM (hh:A.handled=none) (hne:a≠I) (hb:w.params.followText "set-order" = true) (hf:t.fits es.size=true) :
  Walks prog w A I [I,a] [I] es.size (PV (pickOrder (w.params.setOrder a ep) es).toList) (fun i h=>(∃ slot:Nat,SIt h I (.int slot 0) i a es.size ep)/\SOb h a es ep t) where
 sub:=fun b hb=>by simp at hb; simp [hb]
 frame:=fun _ _ _ ⟨⟨sl,x⟩,y⟩ hk=>⟨⟨sl,x.keep fun o e=>hk I (by simp) o e⟩,y.keep fun o e=>hk a (by simp) o e⟩
 item:=fun i s Q E hi ⟨⟨sl,x⟩,y⟩ hQ=>by
  have hlen:(pickOrder (w.params.setOrder a ep) es).size=es.size:=by
   have:=(lg (w.params.setOrder a ep) es).length_eq
   simpa using this
  refine iw hh hne x y hf (r:=((pickOrder (w.params.setOrder a ep) es)[i]?).map fun e=>(e.2,sl)) (fun A' E' Q' q=>rE hb y hf q) (fun v nx h' e x' sb=>?_) fun h' e k=>?_
  ·rw [xaJ (by lia)] at e
   cases e
   exact hQ _ h' s.toks ⟨_,by rw [xaz]; exact xaJ (by lia),rfl⟩ ⟨⟨_,x'⟩,y.keep fun o e=>sb.extBut _ _ hne e⟩ fun b o hb e=>sb.extBut b o (fun h=>hb (by simp [h])) e
  ·rw [xaJ (by lia)] at e
   cases e
 done:=fun s Q E ⟨⟨sl,x⟩,y⟩ hQ=>by
  have hlen:(pickOrder (w.params.setOrder a ep) es).size=es.size:=by
   have:=(lg (w.params.setOrder a ep) es).length_eq
   simpa using this
  refine iw hh hne x y hf (r:=((pickOrder (w.params.setOrder a ep) es)[es.size]?).map fun e=>(e.2,sl)) (fun A' E' Q' q=>rE hb y hf q) (fun v nx h' e x' sb=>?_) fun h' e k=>?_
  ·rw [xbh (by lia)] at e
   cases e
  ·exact hQ h' s.toks fun b o hb e=>k b o (fun h=>hb (by simp [h])) e
 self:=fun _ _ _ _ ⟨⟨sl,x⟩,y⟩ hQ=>lB x hQ
def slotAt (t:SetTable):Nat->Nat
 | 0=>0
 | i+1=>t.place.getD i 0+1
theorem jo (U:Up t.place) (h:i<=t.place.size):below t.place (slotAt t i)=i:=by
 cases i with
 | zero =>
  obtain ⟨_,b,_⟩:=aV U 0
  by_cases z:below t.place 0=0
  ·exact z
  ·exact absurd (b 0 (Nat.pos_of_ne_zero z)) (xbD _)
 | succ i=>exact uU U (by lia)
theorem uW (hh:A.handled=none) (hne:a≠I) (hb:w.params.followText "set-order" = false) (hl:t.led=true) (hdr:(!t.plain && decide (es.size>1))=false) (U:Up t.place) (hz:t.place.size=es.size) (hf:t.fits es.size=true) :
  Walks prog w A I [I,a] [I] es.size (PV es.toList) (fun i h=>SIt h I (.int (slotAt t i:Nat) 0) i a es.size ep/\SOb h a es ep t) where
 sub:=fun b hb=>by simp at hb; simp [hb]
 frame:=fun _ _ _ ⟨x,y⟩ hk=>⟨x.keep fun o e=>hk I (by simp) o e,y.keep fun o e=>hk a (by simp) o e⟩
 item:=fun i s Q E hi ⟨x,y⟩ hQ=>by
  have hbl:=jo (t:=t) U (i:=i) (by lia)
  have e1:es[below t.place (slotAt t i)]? = some es[i]:=by rw [hbl]; exact xaJ hi
  have e2:t.place[below t.place (slotAt t i)]? = some (t.place.getD i 0):=by rw [hbl]; exact vV (by lia)
  refine iw hh hne x y hf (r:=some (es[i].2,t.place.getD i 0+1)) (fun A' E' Q' q=>mO hb hl hdr y hf (by rw [e1,e2]; exact q)) (fun v nx h' e x' sb=>?_) fun h' e k=>nomatch e
  cases e
  exact hQ _ h' s.toks ⟨_,by rw [xaz]; exact xaJ hi,rfl⟩ ⟨x',y.keep fun o e=>sb.extBut _ _ hne e⟩ fun b o hb e=>sb.extBut b o (fun h=>hb (by simp [h])) e
 done:=fun s Q E ⟨x,y⟩ hQ=>by
  have hbl:=jo (t:=t) U (i:=es.size) (by lia)
  have e1:es[below t.place (slotAt t es.size)]? = none:=by rw [hbl]; exact xbh (xae _)
  refine iw hh hne x y hf (r:=none) (fun A' E' Q' q=>mO hb hl hdr y hf (by rw [e1]; exact q)) (fun v nx h' e x' sb=>nomatch e) fun h' e k=>?_
  exact hQ h' s.toks fun b o hb e=>k b o (fun h=>hb (by simp [h])) e
 self:=fun _ _ _ _ ⟨x,y⟩ hQ=>lB x hQ
theorem vh {T:Addr} {ix:List Nat} {kT:Nat} (hh:A.handled=none) (hne:a≠I) (hTI:T≠I) (hf:t.fits es.size=true) (hp:ix.Perm (List.range es.size)) :
  Walks prog w A I [I,a,T] [I] es.size (PV (ix.filterMap fun k=>es[k]?)) (fun i h=>SIt h I (.ref T) i a es.size ep/\SOb h a es ep t/\∃ o,h.get? T=some o/\o.data=.seq (ix.map fun (k:Nat)=>Value.int k 0).toArray kT):=by
 have hlen:ix.length=es.size:=by simpa using hp.length_eq
 have hix:∀ k∈ix,k<es.size:=fun k hk=>xaN.mp (hp.mem_iff.mp hk)
 obtain ⟨f1,f2⟩:=tG (l:=ix) (f:=fun k=>es[k]?) fun k hk=>by simp [hix k hk]
 exact {
  sub:=fun b hb=>by simp at hb; simp [hb]
  frame:=fun _ _ _ ⟨x,y,o,z,zd⟩ hk=>⟨x.keep fun o e=>hk I (by simp) o e,y.keep fun o e=>hk a (by simp) o e,o,hk T (by simp) o z,zd⟩
  item:=fun i s Q E hi ⟨x,y,o,z,zd⟩ hQ=>by
   refine mW hh x y hf z zd (fun k e h' e1 e2 x' sb=>?_) hix fun h' e k=>?_
   ·refine hQ _ h' s.toks ⟨e,by rw [f2,e1]; exact e2,rfl⟩ ⟨x',y.keep fun o e=>sb.extBut _ _ hne e,o,sb.extBut _ _ hTI z,zd⟩ fun b o hb e=>sb.extBut b o (fun h=>hb (by simp [h])) e
   ·rw [xaU (by lia)] at e; cases e
  done:=fun s Q E ⟨x,y,o,z,zd⟩ hQ=>by
   refine mW hh x y hf z zd (fun k e h' e1 e2 x' sb=>?_) hix fun h' e k=>?_
   ·rw [xa1 (by lia)] at e1; cases e1
   ·exact hQ h' s.toks fun b o hb e=>k b o (fun h=>hb (by simp [h])) e
  self:=fun _ _ _ _ ⟨x,_⟩ hQ=>lB x hQ }
end
section
variable {prog:Program} {w:World} {A:Around} {E:Value->Shared->Prop} {s:Shared} {a:Addr} {o:Obj} {es:Array (Int × Value)} {ep:Nat} {t:SetTable}
theorem zG (hh:A.handled=none) (ho:s.heap.get? a=some o) (hex:o.ExactSet) (hd:o.data=.set es ep t) (hf:t.fits es.size=true) (U:Up t.place) (hz:t.place.size=es.size) (hl:t.led=(!w.params.followText "set-order")) (hn:es.size<=sizeLine)
  (h:∀ (I:Addr) (h2:Heap) d (fp:List Addr) (St:Nat->Heap->Prop) (ys:List (Int × Value)),(∀ b o,s.heap.get? b=some o->h2.get? b=some o)->s.heap.objs.size<=I->(∀ b∈fp,b=a\/s.heap.objs.size<=b)->ys.Perm es.toList ->
   Walks prog w A I fp [I] es.size (PV ys) St->St 0 h2->Q (.ref I) { s with heap:=h2,drawn:=d }):wpAny (model prog w) A (pyIter (.ref a)) Q E s:=by
 have hT:s.TypeIs (.ref a) "set" := ⟨o,ho,hex.1⟩
 have hlt:a<s.heap.objs.size:=xal ho
 refine wpAny_pyIter_slot hT F.slot_set_iter (wpAny_call_entry F.slot_set_iter hT lL ?_ (F.args_set_iter_1 _))
 unfold Builtin.«frozenset.__iter__»
 refine xaa (m:=Builtin.Frozenset.slot0 "__iter__" ⟨[.ref a],[]⟩) (wpAny_of_eq (a:=a) rfl ?_)
 refine xaa ?_
 unfold Builtin.Frozenset.sizeOf
 refine xaa (wpAny_setEntries_of ho hd hf (xab ?_))
 refine xaa ?_
 unfold setDrawn
 refine xaa (wpAny_setState_of ho hd hf ?_)
 dsimp only
 unfold setsByText
 refine xaa (xaa (wpAny_askSetting (xab ?_)))
 refine xab ?_
 have e0:nG es t=(!t.plain && decide (es.size>1)):=rfl
 unfold nG at e0
 rw [e0]
 show wpAny _ _ (if (!w.params.followText "set-order" && (!t.plain && decide (es.size>1)))=true then _ else _) _ _ s
 cases hb:w.params.followText "set-order" with
 | true =>
  rw [if_neg (by simp)]
  refine xaa (xab ?_)
  refine xaa (wpAny_setEpoch_of ho hd hf ?_)
  refine xaa (wpAny_newObj_type ?_)
  refine xab ⟨_,rfl, "set_iterator",_,⟨_,xao _ rfl,rfl⟩,bU.lookup,?_⟩
  have ho':(s.heap.push { cls:=.type "set_iterator",data:=.fields #[rawInt 0,rawInt 0,.ref a,rawInt es.size,rawInt ep] }).get? a=some o:=xad _ ho
  exact h s.heap.objs.size _ s.drawn _ _ _ (fun b o e=>xad _ e) (xae _) (fun b hb=>by
   rcases xaj.mp hb with rfl | hb
   ·exact .inr (xae _)
   ·exact .inl (xaV.mp hb)) (lg _ _) (vM (ep:=ep) hh (xar hlt) hb hf) ⟨⟨0,xao _ rfl⟩,o,ho',hd⟩
 | false =>
  cases hdr:(!t.plain && decide (es.size>1)) with
  | false =>
   rw [if_neg (by simp)]
   refine xaa (xab ?_)
   refine xaa (wpAny_setEpoch_of ho hd hf ?_)
   refine xaa (wpAny_newObj_type ?_)
   refine xab ⟨_,rfl, "set_iterator",_,⟨_,xao _ rfl,rfl⟩,bU.lookup,?_⟩
   have ho':(s.heap.push { cls:=.type "set_iterator",data:=.fields #[rawInt 0,rawInt 0,.ref a,rawInt es.size,rawInt ep] }).get? a=some o:=xad _ ho
   exact h s.heap.objs.size _ s.drawn _ _ _ (fun b o e=>xad _ e) (xae _) (fun b hb=>by
    rcases xaj.mp hb with rfl | hb
    ·exact .inr (xae _)
    ·exact .inl (xaV.mp hb)) (.refl _) (uW (ep:=ep) hh (xar hlt) hb (by rw [hl,hb]; rfl) hdr U hz hf) ⟨xao _ rfl,o,ho',hd⟩
  | true =>
   rw [if_pos (by simp)]
   refine xaa (Ah es.size (List.range es.size) s _ (by simp) fun ix d hp=>?_)
   refine xaa (wpAny_newObj_type ?_ ?hzz)
   case hzz =>
    have:=hp.length_eq
    rw [xbq] at this
    show (ix.map fun (i:Nat)=>rawInt i).toArray.size<=sizeLine
    rw [xan,xac,this]; exact hn
   have ho1:(s.heap.push { cls:=.type "tuple",data:=.seq (ix.map fun (i:Nat)=>rawInt i).toArray }).get? a=some o:=xad _ ho
   refine xaa (wpAny_setEpoch_of ho1 hd hf ?_)
   refine xaa (wpAny_newObj_type ?_)
   refine xab ⟨_,rfl, "set_iterator",_,⟨_,xao _ rfl,rfl⟩,bU.lookup,?_⟩
   have hs1:(s.heap.push { cls:=.type "tuple",data:=.seq (ix.map fun (i:Nat)=>rawInt i).toArray }).objs.size=s.heap.objs.size+1:=xca ..
   refine h (s.heap.push { cls:=.type "tuple",data:=.seq (ix.map fun (i:Nat)=>rawInt i).toArray }).objs.size _ d [(s.heap.push { cls:=.type "tuple",data:=.seq (ix.map fun (i:Nat)=>rawInt i).toArray }).objs.size,a,s.heap.objs.size] _ (ix.filterMap fun k=>es[k]?) (fun b o e=>xad _ (xad _ e)) (by rw [hs1]; exact Nat.le_succ _) (fun b hb=>?_) ?_
    (vh (ep:=ep) (kT:=0) (T:=s.heap.objs.size) (ix:=ix) (t:=t) hh (by rw [hs1]; exact xar (xaS hlt)) (by rw [hs1]; exact xar (Nat.lt_succ_self _)) hf hp) ⟨xao _ rfl,⟨o,xad _ ho1,hd⟩,_,xad _ (xao _ rfl),rfl⟩
   ·rcases xaj.mp hb with rfl | hb
    ·exact .inr (by rw [hs1]; exact Nat.le_succ _)
    ·rcases xaj.mp hb with rfl | hb
     ·exact .inl rfl
     ·rw [xaV.mp hb]; exact .inr (xae _)
   ·have:=hp.filterMap fun k=>es[k]?
    rw [ug] at this
    exact this
theorem yX (hT:s.TypeIs (.ref a) "set") (h:Q false s):wpAny (model prog w) A (Builtin.List.listLengthHint (.ref a)) Q E s:=by
 unfold Builtin.List.listLengthHint
 refine xaa (wpAny_specialOf hT PySem.F.slot_set_len.lookup ?_)
 generalize hid:("set.__len__" : String)=id0
 wp_delta
 rw [show splitId id0=some ("set", "__len__") from by subst hid; decide +kernel]
 subst hid
 refine xaa (wpAny_isInstance (T := "set") (b:=true) hT (by rw [isSubtype_type]; kernel_rfl) ?_)
 refine wpAny_ite_split (fun hab=>absurd hab (by decide)) (fun _=>?_)
 refine wpAny_ite_split (fun _=>?_) (fun hab=>absurd (by decide +kernel) hab)
 refine xaa (wpAny_typeOf hT ?_)
 exact xab h
theorem CJ {R:Result->Shared->Prop} (hh:A.handled=none) (ho:s.heap.get? a=some o) (hex:o.ExactSet) (hd:o.data=.set es ep t) (hf:t.fits es.size=true) (U:Up t.place) (hz:t.place.size=es.size) (hl:t.led=(!w.params.followText "set-order")) (hn:es.size<=sizeLine)
  (S:Addr) (hSa:S≠a) (res:Value) (c₀:Nat) (hS:s.heap.get? S=some { cls:=.type "list",data:=.seq #[] c₀ })
  (hR:∀ h' tk d acc' c' ys,(∀ b o,b≠S->s.heap.get? b=some o->h'.get? b=some o)->h'.get? S=some { cls:=.type "list",dict:=none,data:=.seq acc' c',slots:=#[] }->ys.Perm es.toList->ItemsOf (PV ys) acc' es.size->R (.ok (.ret res)) { s with heap:=h',toks:=tk,drawn:=d }) :
  wpAny (model prog w) A.in1 (Builtin.List.listExtendWith (.ref S) (.ref a) res)
   (fun fin s'=>match fin with | .done f=>R (.ok f) s' | .again c'=>c'.quiet=true/\codeAny (model prog w) A c' R s') (fun e s'=>R (.error e) s') s:=by
 have hT:s.TypeIs (.ref a) "set" := ⟨o,ho,hex.1⟩
 have hSl:=xal hS
 unfold Builtin.List.listExtendWith
 refine xaa (wpAny_typeOf hT ?_)
 have h1:Builtin.List.listSameRef (.ref S) (.ref a)=false:=by simp [Builtin.List.listSameRef,hSa]
 simp only [h1,show (Value.type "set" == Value.type "list")=false by decide,show (Value.type "set" == Value.type "tuple")=false by decide,Bool.or_false,xam,if_false]
 refine xaa (zG (A:=A.in1) hh ho hex hd hf U hz hl hn fun I h2 d fp St ys kp hI hfp hp W st=>?_)
 have hSf:S∉fp:=fun hm=>by
  rcases hfp S hm with z | z
  ·exact hSa z
  ·exact absurd hSl (Nat.not_lt.mpr z)
 have key:∀ (h:Heap) (c₁ tk:Nat),St 0 h->(∀ b o,b≠S->s.heap.get? b=some o->h.get? b=some o) ->
   h.get? S=some { cls:=.type "list",data:=.seq #[] c₁ }->codeAny (model prog w) A (.builtin "list.extend.loop" ⟨[.ref S,.ref I,res],[]⟩) R { s with heap:=h,toks:=tk,drawn:=d }:=by
  intro h c₁ tk hst hk hS₁
  refine codeAny_extend_loopS W.toS hn S hSf res es.size 0 _ #[] c₁ rfl (xaq _) hst hS₁ (ItemsOf.nil _) fun s' acc' c' hm hS' hacc=>?_
  rw [Moved.eq_with hm]
  refine hR s'.heap s'.toks d acc' c' ys (fun b o hb e=>hm.heap b o (fun hmem=>?_) (hk b o hb e)) hS' hp hacc
  rcases xaj.mp hmem with e' | hmem
  ·exact hb e'
  ·exact absurd (xal e) (by rw [xaV.mp hmem]; exact Nat.not_lt.mpr hI)
 have hS₁:h2.get? S=some { cls:=.type "list",data:=.seq #[] c₀ }:=kp _ _ hS
 refine xaa (wpAny_holding (yX (s:={ s with heap:=h2,drawn:=d }) ⟨o,kp _ _ ho,hex.1⟩ ?_))
 refine wpAny_ite_split (fun _=>?_) (fun _=>xab ⟨plainId_quiet PySem.F.plain_extend_loop _,key _ c₀ _ st (fun b o _ e=>kp b o e) hS₁⟩)
 refine xaa (wpAny_rule ?_)
 refine xaa ?_
 show wpAny _ _ (updateSeq S (·.push .none) >>= fun _=>updateSeq S (·.pop)) _ _ _
 refine xaa (wpAny_updateSeq hS₁ rfl ?_)
 have hS₂:=xbc (Obj.mapSeq (·.push Value.none)) hS₁ rfl
 refine wpAny_updateSeq (hz:=by seq_fits) hS₂ rfl ?_
 have hS₃:=xbc (Obj.mapSeq (·.pop)) hS₂ rfl
 refine xab ⟨plainId_quiet PySem.F.plain_extend_loop _,key _ _ _ ?_ (fun b o hb e=>?_) hS₃⟩
 ·refine W.frame 0 _ _ st fun b hb o e=>?_
  have hbS:b≠S:=fun h=>hSf (h ▸ hb)
  exact (xbx _ _ (Ne.symm hbS)).trans ((xbx _ _ (Ne.symm hbS)).trans e)
 ·exact (xbx _ _ (Ne.symm hb)).trans ((xbx _ _ (Ne.symm hb)).trans (kp _ _ e))
theorem vC (h:ItemsOf (PV ys) acc n) (hn:ys.length=n):acc.toList=ys.map (·.2):=by
 apply xbV
 intro i
 rw [xaR]
 by_cases hi:i<n
 ·have hi':i<acc.size:=by rw [h.1]; exact hi
  have e1:acc[i]? = some acc[i]:=xaJ hi'
  obtain ⟨e,he,hv⟩:=h.2 i acc[i] e1
  rw [xaz,e1,he,hv]; rfl
 ·rw [xa1 (by rw [xaK,h.1]; lia),xa1 (by lia)]; rfl
theorem jz {R:Result->Shared->Prop} (hh:A.handled=none) (ho:s.heap.get? a=some o) (hex:o.ExactSet) (hd:o.data=.set es ep t) (hf:t.fits es.size=true) (U:Up t.place) (hz:t.place.size=es.size) (hl:t.led=(!w.params.followText "set-order")) (hn:es.size<=sizeLine)
  (hR:∀ h' tk d acc' c' ys,(∀ b o,s.heap.get? b=some o->h'.get? b=some o)->h'.get? s.heap.objs.size=some { cls:=.type "list",dict:=none,data:=.seq acc' c',slots:=#[] }->ys.Perm es.toList->ItemsOf (PV ys) acc' es.size->R (.ok (.ret (.ref s.heap.objs.size))) { s with heap:=h',toks:=tk,drawn:=d }) :
  codeAny (model prog w) A (.builtin "proto.collect" ⟨[.ref a],[]⟩) R s:=by
 have hlt:a<s.heap.objs.size:=xal ho
 have hS:(s.heap.push { cls:=.type "list",data:=.seq ([]:List Value).toArray }).get? s.heap.objs.size=some { cls:=.type "list",data:=.seq ([]:List Value).toArray }:=xao _ rfl
 refine codeAny_builtin F.entry_proto_collect ?_
 rw [Around.under_plainId F.plain_proto_collect _]
 show wpAny _ A.in1 (newList [] >>= fun l=>again (.builtin "list.__iadd__" ⟨[l,.ref a],[]⟩)) _ _ s
 refine xaa (wpAny_newObj_type ?_)
 refine xab ⟨plainId_quiet F.plain_list_iadd _,codeAny_builtin F.entry_list_iadd ?_⟩
 rw [Around.under_plainId F.plain_list_iadd _]
 show wpAny _ A.in1 (Builtin.List.listExtendWith (.ref s.heap.objs.size) (.ref a) (.ref s.heap.objs.size)) _ _ _
 exact CJ (R:=R) (s:={ s with heap:=s.heap.push { cls:=.type "list",data:=.seq ([]:List Value).toArray } }) hh (xad _ ho) hex hd hf U hz hl hn s.heap.objs.size (Nat.ne_of_gt hlt) _ 0 hS fun h' tk d acc' c' ys kp eo hp ia =>
  hR h' tk d acc' c' ys (fun b o e=>kp b o (xar (xal e)) (xad _ e)) eo hp ia
theorem kY (hh:A.handled=none) (ho:s.heap.get? a=some o) (hex:o.ExactSet) (hd:o.data=.set es ep t) (hf:t.fits es.size=true) (U:Up t.place) (hz:t.place.size=es.size) (hl:t.led=(!w.params.followText "set-order")) (hn:es.size<=sizeLine)
  (hQ:∀ h' tk d vs,(∀ b o,s.heap.get? b=some o->h'.get? b=some o)->s.heap.objs.size<=h'.objs.size->vs.Perm (es.toList.map (·.2))->Q vs { s with heap:=h',toks:=tk,drawn:=d }):wpAny (model prog w) A (collect (.ref a)) Q E s:=by
 unfold collect
 refine xaa (wpAny_runValue (jz hh ho hex hd hf U hz hl hn fun h' tk d acc c ys kp eo hp ia=>?_))
 show wpAny _ A (load s.heap.objs.size >>= _) _ _ { s with heap:=h',toks:=tk,drawn:=d }
 refine xaa (wpAny_load eo ?_)
 refine xab (hQ h' tk d _ kp (xaL (xal eo)) ?_)
 rw [vC ia (by rw [hp.length_eq]; simp)]
 exact hp.map _
end
end TS
namespace Tim
open PySem PyProof.Rows
section
variable {prog:Program} {w:World} {A:Around} {E:Value->Shared->Prop} {s:Shared} {κ:SortKind} {r:Value->Int} {P:Value->Prop}
theorem lE {R:List Value->Prop}
  (hcol:∀ (A':Around) (E':Value->Shared->Prop) (Q':List Value->Shared->Prop),A'.handled=A.handled->(∀ vs h1 tk d,R vs->(∀ b o,s.heap.get? b=some o->h1.get? b=some o)->s.heap.objs.size<=h1.objs.size->Q' vs { s with heap:=h1,toks:=tk,drawn:=d })->wpAny (model prog w) A' (collect v) Q' E' s)
  (hsz:∀ vs,R vs->vs.length<=sizeLine) (hP:∀ vs,R vs->∀ v∈vs,P v)
  (hk:∀ vs,R vs->2<=vs.length->∀ (A':Around) (E':Value->Shared->Prop) (s':Shared),(∀ b o,s.heap.get? b=some o->s'.heap.get? b=some o)->∀ (Q:SortKind->Shared->Prop),Q κ s'->wpAny (model prog w) A' (keyKind' vs.toArray) Q E' s')
  (C:∀ (s':Shared),(∀ b o,s.heap.get? b=some o->s'.heap.get? b=some o)->Cmp prog w A.in1.in1 s' κ r P)
  (h:∀ (vs:List Value) (h':Heap) (a:Addr) (out:List Value) (n tk:Nat) d,R vs->out.Perm vs->(out.Pairwise fun x y=>r x<=r y)->(∀ b o,s.heap.get? b=some o->h'.get? b=some o)->s.heap.objs.size<=a->h'.get? a=some (seqObj "list" out.toArray n)->Q (.ref a) { s with heap:=h',toks:=tk,drawn:=d }) :
  wpAny (model prog w) A (call (.builtin "sorted") [v]) Q E s:=by
 refine Calls.call_function_entry kind_sorted plain_sorted entry_sorted (args_sorted1 _) ?_
 unfold Builtin.«sorted»
 refine xaa (m:=checkCount "sorted" 1 1 _) (xab ?_)
 refine xaa (hcol _ _ _ rfl fun vs h1 tk d hR kp hz=>?_)
 have hsz':=hsz vs hR
 refine xaa (wpAny_newList ?_ (by simpa using hsz'))
 have hoL:(h1.push (seqObj "list" vs.toArray 0)).get? h1.objs.size=some (seqObj "list" vs.toArray 0):=xao _ rfl
 have old:∀ b o,s.heap.get? b=some o->(dM (h1.push (seqObj "list" vs.toArray 0)) h1.objs.size vs).get? b=some o:=fun b o e=>by
  have hlt:b<h1.objs.size:=xal (kp b o e)
  rw [lC (xar hlt) (by rw [size_push']; exact xaS hlt)]
  exact xad _ (kp b o e)
 show wpAny _ _ _ _ _ { s with heap:=h1.push (seqObj "list" vs.toArray 0),toks:=tk,drawn:=d }
 refine xaa (wpAny_holding (wpAny_call_entry slot_list_sort ⟨_,hoL,rfl⟩ entry_list_sort (jh (r:=r) (s:={ s with heap:=h1.push (seqObj "list" vs.toArray 0),toks:=tk,drawn:=d }) hoL hsz' (hP vs hR)
  (fun h2=>hk vs hR h2 _ _ _ old) (fun h2=>C _ old) fun out a1 a2=>⟨_,rfl,?_⟩) (args_list_sort _)))
 obtain ⟨n,e⟩:=sortedHeap_at (out:=out) hoL
 refine xab ⟨_,rfl,h vs _ h1.objs.size out.toList n tk d hR a1 a2 (fun b o e=>?_) hz (by rw [xcq]; exact e)⟩
 have hlt:b<h1.objs.size:=xal (kp b o e)
 rw [sortedHeap_old (xar hlt) (by rw [size_push']; exact xaS hlt)]
 exact xad _ (kp b o e)
end
end Tim
namespace TS
open PySem PySem.SetTable PyProof.Rows
section
variable {prog:Program} {w:World} {K:Type} [DecidableEq K] {knd:KeyKind prog w K} {A:Around} {E:Value->Shared->Prop} {s:Shared}
theorem tY {α:Type} (led:Bool):TI (α:=α) (SetTable.fresh 0 0 led) #[] :=
 ⟨⟨3,rfl,xae _⟩,rfl,fun i j h hj=>absurd hj (xbD _),fun i hi=>absurd hi (xbD _),rfl,(by show 0 * 5<7 * 3; decide),fun i h x e=>by simp at e⟩
theorem qP {l:Addr} {items:Array Value} {xs:List (List K × Addr)} {Q:Value->Shared->Prop} (hh:A.handled=none) (hu:A.units+8<cLine) (hl:s.heap.IsList l items) (hi:items.toList=xs.map fun p=>Value.ref p.2)
  (his:∀ p∈xs,IsTupleKey knd s.heap p.1 p.2) (hz:xs.length<=2000) (hsc:∀ k v,knd.is k v=true->v.scannable=true)
  (h:∀ h' tk ks,SetT knd h' s.heap.objs.size ks->(∀ k,k∈ks.map (·.1)↔k∈xs.map (·.1))->(∀ p∈ks,p∈xs)->(∀ b o,s.heap.get? b=some o->h'.get? b=some o)->Q (.ref s.heap.objs.size) { s with heap:=h',toks:=tk }) :
  wpAny (model prog w) A (call (.type "set") [.ref l]) Q E s:=by
 have lt:∀ p∈xs,p.2<s.heap.objs.size:=fun p hp=>by
  obtain ⟨o,_,_,ho,_⟩:=his p hp
  exact xal ho
 refine jn hh hl (fun i h=>∃ ks,SetT knd h s.heap.objs.size ks/\(∀ k,k∈ks.map (·.1)↔k∈(xs.take i).map (·.1))/\(∀ p∈ks,p∈xs)/\ks.length<=i/\∀ p∈xs,IsTupleKey knd h p.1 p.2) (fun h e k=>?_) (fun i h h' ⟨ks,S,m1,m2,m3,m4⟩ k=>?_) (fun i v s' E' Q' hv ⟨ks,S,m1,m2,m3,m4⟩ q=>?_) fun h' tk ⟨ks,S,m1,m2,m3,m4⟩ k=>?_
 ·exact ⟨[],⟨⟨_,#[],0,_,e,⟨rfl,rfl,rfl⟩,rfl,tY _,(by show 7<=8191; decide),rfl,rfl⟩,xaX,fun p hp=>nomatch hp⟩,fun k=>by simp,(fun p hp=>nomatch hp),xae _,fun p hp=>IsTupleKey.stay (his p hp) fun o ho=>k _ _ ho⟩
 ·obtain ⟨⟨o,es,ep,t,ho,r⟩,nd,is⟩:=S
  exact ⟨ks,⟨⟨o,es,ep,t,k _ _ (xae _) ho,r⟩,nd,fun p hp=>IsTupleKey.stay (is p hp) fun o ho=>k _ _ (xaL (lt p (m2 p hp))) ho⟩,m1,m2,m3,fun p hp=>IsTupleKey.stay (m4 p hp) fun o ho=>k _ _ (xaL (lt p hp)) ho⟩
 ·have hv':items.toList[i]? = some v:=by rw [xaz]; exact hv
  rw [hi,xaR] at hv'
  cases ex:xs[i]? with
  | none=>rw [ex] at hv'; cases hv'
  | some p =>
   rw [ex] at hv'
   cases hv'
   have hp:=xaQ ex
   have hil:i<xs.length:=(xay.mp ex).1
   have tk1:(xs.take (i+1)).map (·.1)=(xs.take i).map (·.1)++[p.1]:=by
    rw [xbG,ex,xaP]; rfl
   unfold setAdd
   refine wpAny_holding (xaa (wpAny_pyHash_tuple (by show A.units+3<cLine; lia) (m4 p hp) ?_))
   refine Ed (s:={ s' with toks:=s'.toks+(p.1.length+1) }) S (m4 p hp) (by lia) (by show A.units+3<cLine; lia) hsc fun b h' ks' sb S' c=>?_
   refine q b h' _ sb ⟨ks',S',fun k=>?_,fun p' hp'=>?_,?_,fun p' hp'=>IsTupleKey.stay (m4 p' hp') fun o ho=>sb.extBut _ _ (xar (lt p' hp')) ho⟩
   ·rw [tk1,xak,xaV,<- m1]
    rcases c with ⟨c1,rfl⟩ | ⟨c1,c2⟩
    ·exact ⟨.inl,fun z=>z.elim id fun e=>e ▸ c1⟩
    ·rw [(c2.map _).mem_iff,xas,xaj]
     exact ⟨fun z=>z.symm,fun z=>z.symm⟩
   ·rcases c with ⟨c1,rfl⟩ | ⟨c1,c2⟩
    ·exact m2 p' hp'
    ·rcases xaj.mp (c2.mem_iff.mp hp') with rfl | z
     ·exact hp
     ·exact m2 p' z
   ·rcases c with ⟨c1,rfl⟩ | ⟨c1,c2⟩
    ·lia
    ·rw [c2.length_eq]; simp; lia
 ·have e:items.size=xs.length:=by
   have:=congrArg List.length hi
   simpa using this
  rw [e,xbB] at m1
  exact h h' tk ks S m1 m2 fun b o ho=>k b o (xal ho) ho
end
end TS
namespace L2
open PySem PySem.Spec PyProof.Rows
section
variable {X:Cx} {pins:List (Addr × Obj)} {σ:St} {H:Hp} {s:Shared}
theorem Inv.drawn {d} (I:Inv X pins σ H s):Inv X pins σ H { s with drawn:=d }:=⟨I.ok,I.os,I.bare,I.base,I.loc,I.cell,I.free,I.freeC,I.pin,I.hok,I.len⟩
theorem tE:∀ (k:Key) (v:Value),(mixKind prog w).is k v=true->v.scannable=true:=fun k v h=>by
 rcases keyIs_shape h with ⟨i,t,rfl,rfl⟩ | ⟨x,t,rfl,rfl⟩ <;> rfl
def gJ (K:PySem.W.Frag):V->Hp->VK->Prop:=fun x H Q=>match x with
 | .ref p=>∃ ys ks b0 sh,SqL K H p ys/\ys.length<=2000/\cz H ys ks/\(∀ k∈ks,shOf k=b0 :: sh) /\
   ∀ zs ms l,cz H zs ms->ms.Nodup->(∀ k,k∈ms↔k∈ks)->(ms.Pairwise fun a b=>ltK b a=false)->H l=none->Q (.ref l) (upd H l (.lst zs))
 | _=>False
theorem cz.pairs (h:cz H ys ks) (hv:Vals ys vs):∃ xs:List (List Key × Addr),vs=xs.map (fun p=>Value.ref p.2)/\xs.map (·.1)=ks/\∀ p∈xs,H p.2=some (.tup (p.1.map kV)):=by
 induction ys generalizing ks vs with
 | nil=>exact ⟨[],Paired.n0 hv,(show ks=[] from Paired.n0 h).symm,fun p hp=>nomatch hp⟩
 | cons y ys ih =>
  obtain ⟨k,ks,rfl,⟨b,rfl,g⟩,t⟩:=Paired.c h
  obtain ⟨v,vs,rfl,rfl,rs⟩:=Paired.c hv
  obtain ⟨xs,e1,e2,e3⟩:=ih t rs
  refine ⟨(k,b) :: xs,by rw [e1]; rfl,by rw [<- e2]; rfl,fun p hp=>?_⟩
  rcases xaj.mp hp with rfl | hp
  ·exact g
  ·exact e3 p hp
end
section
variable {X:Cx} {e:Expr} {te:TE} {p p2 pos pos2:Pos}
theorem sS (hc:X.calm=true) (hu:X.A.units+64<cLine) (hg:Gl X "sorted") (hm:X.mg "sorted" = none) (hg2:Gl X "set") (hm2:X.mg "set" = none) (he:PE X e te)
  (hv:bootBuiltins "sorted" = some (.builtin "sorted")) (hv2:bootBuiltins "set" = some (.type "set"))
  (hs2:starEach [e] X.env=(false,eval e X.env) :: starEach [] X.env:=by rfl)
  (hs:starEach [.Call (.Name "set" p2) [e] [] pos2] X.env=(false,eval (.Call (.Name "set" p2) [e] [] pos2) X.env) :: starEach [] X.env:=by rfl) :
  PE X (.Call (.Name "sorted" p) [.Call (.Name "set" p2) [e] [] pos2] [] pos) (tUn (gJ X.K) te):=by
 intro pins s σ H Q I h
 refine wpAny_Call_Name_kw (ld_blt I hg hm hv ?_ (by decide) (by decide))
 refine PyProof.Rows.callWith_builtin1 ?_ hs rfl
 rw [hs]
 refine Calls.spliced_cons ?_
 refine wpAny_Call_Name_kw (ld_blt I hg2 hm2 hv2 ?_ (by decide) (by decide))
 refine PyProof.Rows.callWith_type1 ?_ hs2 rfl
 rw [hs2]
 refine Calls.spliced_cons (thn (he pins s σ H _ I h) fun u s1 hx5=>L2.ex2 hx5 fun x H1 I1 r1 q1=>Calls.spliced_nil ?_)
 have q1:gJ X.K x H1 Q:=q1
 obtain ⟨a,rfl⟩:∃ a,x=.ref a:=by
  unfold gJ at q1
  split at q1
  ·exact ⟨_,rfl⟩
  ·exact q1.elim
 obtain ⟨ys,ks,b0,sh,hl,hz1,ht,hsh,q⟩:=q1
 cases r1
 obtain ⟨vs,rv,pl,hz⟩:=I1.list hl
 obtain ⟨xs,ex,ek,hx⟩:=ht.pairs rv
 have hhd:X.A.handled=none:=I1.ok.hd hc
 have hlen:xs.length=ys.length:=by rw [rv.length,ex,xac]
 have his:∀ p∈xs,IsTupleKey (mixKind X.prog X.w) s1.heap p.1 p.2:=fun p hp=>by
  obtain ⟨us,ru,o,e1,c1,n1,d1⟩:=I1.tup (hx p hp)
  exact ⟨o,us.toArray,n1,e1,c1,d1,by simpa using items_are ru⟩
 refine TS.qP (knd:=mixKind X.prog X.w) hhd (by lia) pl.isList (by simpa using ex) his (by lia) tE fun h2 tk ks' S m1 m2 kp=>?_
 refine Calls.spliced_nil ?_
 obtain ⟨⟨o,es,ep,t,ho,hex,hd,T,hM,hL,hes⟩,nd,is⟩:=S
 have hent:es.toList.map (·.2)=ks'.map fun p=>Value.ref p.2:=by rw [hes,xaw]; rfl
 have hksl:ks'.length<=2000:=by
  have:=TS.bF nd (m:=ks) fun k hk=>by rw [<- ek]; exact (m1 k).mp hk
  rw [xac] at this
  have:ks.length=xs.length:=by rw [<- ek,xac]
  lia
 have hesz:es.size=ks'.length:=by
  have:=congrArg List.length hes
  simpa using this
 have memk:∀ p∈ks',p.1∈ks:=fun p hp=>by rw [<- ek]; exact xai.mpr ⟨p,m2 p hp,rfl⟩
 have mem:∀ vs':List Value,vs'.Perm (ks'.map fun p=>Value.ref p.2)->∀ v∈vs',∃ b k,v=.ref b/\H1 b=some (.tup (k.map kV))/\k∈ks:=fun vs' pv v hv=>by
  obtain ⟨p,hp,rfl⟩:=xai.mp (pv.mem_iff.mp hv)
  exact ⟨p.2,p.1,rfl,hx p (m2 p hp),memk p hp⟩
 have h12:s1.heap.objs.size<=h2.objs.size:=xaL (xal ho)
 refine Tim.lE (s:={ s1 with heap:=h2,toks:=tk }) (κ:=tuples' true) (R:=fun vs'=>vs'.Perm (ks'.map fun p=>Value.ref p.2)) (r:=fun v=>rkK ks (lR H1 v)) (P:=fun v=>∃ b k,v=.ref b/\H1 b=some (.tup (k.map kV))/\shOf k=b0 :: sh/\k∈ks)
  (fun A' E' Q' hA hQ=>TS.kY (s:={ s1 with heap:=h2,toks:=tk }) (hA.trans hhd) ho hex hd T.fits T.up T.sz hL (by rw [hesz,sizeLine_eq]; lia) fun h' tk' d vs' kp' hz' pv=>hQ vs' h' tk' d (by rw [<- hent]; exact pv) kp' hz')
  (fun vs' pv=>by rw [pv.length_eq,xac,sizeLine_eq]; lia) (fun vs' pv v hv=>?_) (fun vs' pv h2' A' E' s' kp' Q' q'=>?_) (fun s' kp'=>tX I1 fun b o e=>kp' b o (kp b o e)) fun vs' h' a' out n tk' d pv pm pw kp' ha eo=>?_
 ·obtain ⟨b,k,e1,e2,e3⟩:=mem vs' pv v hv
  exact ⟨b,k,e1,e2,hsh k e3,e3⟩
 ·obtain ⟨zs,z1,z2⟩:=cz.of (H:=H1) (ks:=ks) vs' (mem vs' pv)
  obtain ⟨fs,f1,f2,f3⟩:=kat_tups I1 (s':=s') (fun b o e=>kp' b o (kp b o e)) z1 z2 fun k hk=>by
   obtain ⟨v,hv,rfl⟩:=xai.mp hk
   obtain ⟨b,k,rfl,e2,e3⟩:=mem vs' pv v hv
   rw [cR e2]; exact hsh k e3
  cases b0 with
  | true =>
   refine PySem.W.kat_kind (T:=.type "int") f1 (by lia) (fun f hf=>?_) (by decide) q'
   obtain ⟨i,t,rfl⟩:=(f3 f hf).1 rfl
   exact .now
  | false =>
   refine PySem.W.kat_kind (T:=.type "str") f1 (by lia) (fun f hf=>?_) (by decide) q'
   obtain ⟨i,t,rfl⟩:=(f3 f hf).2 rfl
   exact .now
 ·have pm2:=pm.trans pv
  obtain ⟨zs,z1,z2⟩:=cz.of (H:=H1) (ks:=ks) out fun v hv=>mem _ pm2 v hv
  have zl:=z2.length
  have ol:=pm2.length_eq
  rw [xac] at ol
  have ekk:(ks'.map fun p=>Value.ref p.2).map (lR H1)=ks'.map (·.1):=by
   rw [xaw]
   exact xbu fun p hp=>cR (hx p (m2 p hp))
  have pms:(out.map (lR H1)).Perm (ks'.map (·.1)):=by rw [<- ekk]; exact pm2.map _
  refine ⟨.ref a',_,(I1.laid (a:=a') (t':=tk') (fun b o e=>kp' b o (kp b o e)) (xaB h12 ha) (show ObjOk X.prog X.w _ h' _ (.lst zs) from ⟨by rw [sizeLine_eq]; lia,out,n,z2,eo⟩)).drawn,rfl,
   q zs _ _ z1 (pms.nodup_iff.mpr nd) (fun k=>by rw [pms.mem_iff,m1,ek]) ?_ (I1.hok.fresh (xaB h12 ha))⟩
  rw [xaG]
  refine pw.imp_of_mem fun {x y} mx my hle=>?_
  obtain ⟨b,k,rfl,hb,kk⟩:=mem _ pm2 x mx
  obtain ⟨c,m,rfl,hc',km⟩:=mem _ pm2 y my
  rw [cR hb,cR hc'] at *
  have:=qj (L:=ks) ((hsh m km).trans (hsh k kk).symm) km
  rw [<- this]
  exact decide_eq_false (by lia)
end
end L2
namespace TS
open PySem PySem.SetTable PyProof.Rows
section
variable {t:SetTable} {es:Array (Int × Value)}
theorem vY (T:TI t es) (h:Int) (x:Value):∃ j,j<=t.mask/\taken t.place j=false/\Reach t.mask t.place h j /\
  layNew t es h x=(insertAt es (below t.place j) (h,x),{ t with place:=insertAt t.place (below t.place j) j,dummies:=#[] },false,false):=by
 obtain ⟨m,hm,_⟩:=T.pw
 obtain ⟨e0,he0,hf0⟩:=T.free
 obtain ⟨nf,n1,n2,n3⟩:=mY hm h (taken t.place) he0 hf0
 obtain ⟨n',a1,a2,a3,a4⟩:=nM T (fun _=>h+1) h (10 * turns t.mask) 0 ⟨nf,xaq _,by unfold turns; lia,n2⟩
 rcases a4 with ⟨c1,c2⟩ | ⟨_,c2,_⟩
 ·have hn':n'<=nf:=by
   by_cases z:n'<=nf
   ·exact z
   ·have:=(a3 nf (xaq _) (by exact xbw ‹_›)).1
    rw [n2] at this; cases this
  refine ⟨J t.mask h n',J_le ..,c1,⟨n',by walk_at "s1",rfl,fun q hq=>(a3 q (xaq _) hq).1⟩,?_⟩
  have hfs:t.freeSlot h=some (J t.mask h n',false):=by
   unfold SetTable.freeSlot
   have:t.probe (fun _=>h+1) h (t.probeStart h)=some (.empty (J t.mask h n') none):=c2
   rw [this]; rfl
  have hput:t.put (J t.mask h n')=({ t with place:=insertAt t.place (below t.place (J t.mask h n')) (J t.mask h n'),dummies:=#[] },below t.place (J t.mask h n')):=by
   unfold SetTable.put
   have:has t.dummies (J t.mask h n')=false:=by rw [T.dm]; rfl
   simp only [this,xam,if_false]
   rw [T.dm]
  have hb:=(aV T.up (J t.mask h n')).1
  have hfit:({ t with place:=insertAt t.place (below t.place (J t.mask h n')) (J t.mask h n'),dummies:=#[] }:SetTable).fits (insertAt es (below t.place (J t.mask h n')) (h,x)).size=true:=by
   have:=T.few
   have hsz:(insertAt es (below t.place (J t.mask h n')) (h,x)).size=es.size+1:=bQ _ _ (by rw [<- T.sz]; exact hb)
   simp only [SetTable.fits,SetTable.fill,hsz,bQ _ _ hb,T.sz,xaC,beq_iff_eq,decide_eq_true_eq,true_and]
   simp; lia
  unfold layNew
  rw [hfs]
  dsimp only
  rw [hput]
  dsimp only
  unfold SetTable.orStandIn
  rw [hfit]
  rfl
 ·exact absurd c2 (by lia)
end
section
variable {prog:Program} {w:World} {K:Type} [DecidableEq K] {knd:KeyKind prog w K}
def entK (knd:KeyKind prog w K) (p:K × Value):Int × Value:=(knd.hash p.1,p.2)
structure SetK (knd:KeyKind prog w K) (h:Heap) (a:Addr) (ks:List (K × Value)):Prop where
 ob:∃ o es ep t,h.get? a=some o/\o.ExactSet/\o.data=.set es ep t/\TI t es/\t.mask<=8191/\t.led=(!w.params.followText "set-order")/\es.toList=ks.map (entK knd)
 nd:(ks.map (·.1)).Nodup
 is:∀ p∈ks,knd.is p.1 p.2=true
variable {A:Around} {E:Value->Shared->Prop} {s:Shared}
theorem Bj (S:SetK knd s.heap a ks) (hx:knd.is k x=true) (hz:ks.length<2000) (hsc:∀ k v,knd.is k v=true->v.scannable=true)
  (h:∀ (b:Bool) (h':Heap) (ks':List (K × Value)),Heap.SameBut a s.heap h'->SetK knd h' a ks'->(k∈ks.map (·.1)/\ks'=ks\/k∉ks.map (·.1)/\ks'.Perm ((k,x) :: ks))->Q b { s with heap:=h' }) :
  wpAny (model prog w) A (setAddHashed a x (knd.hash k)) Q E s:=by
 obtain ⟨⟨o,es,ep,t,ho,hex,hd,T,hM,hL,he⟩,nd,is⟩:=id S
 have hlen:es.size=ks.length:=by
  have:=congrArg List.length he
  simpa using this
 have hel:ElemsOf knd es.toList:=fun e hm=>by
  rw [he] at hm
  obtain ⟨p,hp,rfl⟩:=xai.mp hm
  exact ⟨⟨p.1,is p hp,rfl⟩,hsc _ _ (is p hp)⟩
 have hsb:scanBound=4096:=rfl
 unfold setAddHashed setAddHashedIn
 refine wpAny_holding (xaa (wpAny_setState_of ho hd T.fits ?_))
 dsimp only
 rw [byScan_of (hsc _ _ hx) (by lia) hel]
 simp only [↓reduceIte]
 unfold setAddByScan
 refine xaa ?_
 refine xaa (wpAny_rule ?_)
 refine xaa (wpAny_setScan_of hx ho hd T.fits hel ?_)
 cases hr:List.findIdx? (fun e=>knd.is k e.2) es.toList with
 | some j =>
  dsimp only
  refine xab (xab ?_)
  obtain ⟨hj,hpj,_⟩:=List.findIdx?_eq_some_iff_getElem.mp hr
  have hm:es.toList[j]∈ks.map (entK knd):=by rw [<- he]; exact xce hj
  obtain ⟨p,hp,ep'⟩:=xai.mp hm
  rw [<- ep'] at hpj
  have hk:k=p.1:=knd.inj p.2 k p.1 hpj (is p hp)
  have e:s={ s with heap:=s.heap }:=by cases s; rfl
  rw [e]
  exact h _ _ ks (Heap.SameBut.refl a s.heap) S (.inl ⟨xai.mpr ⟨p,hp,hk.symm⟩,rfl⟩)
 | none =>
  dsimp only
  have hout:k∉ks.map (·.1):=fun hm=>by
   obtain ⟨p,hp,rfl⟩:=xai.mp hm
   have:=List.findIdx?_eq_none_iff.mp hr (entK knd p) (by rw [he]; exact xai.mpr ⟨p,hp,rfl⟩)
   rw [show knd.is p.1 (entK knd p).2=true from is p hp] at this
   cases this
  obtain ⟨j,hjm,n2,hre,hlay⟩:=vY T (knd.hash k) x
  rw [hlay]
  dsimp only
  refine xaa (xab ?_)
  have hin:(insertAt es (below t.place j) (knd.hash k,x)).toList=(ks.take (below t.place j)++(k,x) :: ks.drop (below t.place j)).map (entK knd):=by
   rw [mQ,he,xaP,xas,xcm,xcn]; rfl
  have hperm:(ks.take (below t.place j)++(k,x) :: ks.drop (below t.place j)).Perm ((k,x) :: ks):=by
   refine List.perm_middle.trans ?_
   rw [xbk]
  have hbl:below t.place j<=es.size:=by rw [<- T.sz]; exact (aV T.up j).1
  have hsz':(insertAt es (below t.place j) (knd.hash k,x)).size=es.size+1:=bQ _ _ hbl
  have isK:∀ ks':List (K × Value),ks'.Perm ((k,x) :: ks)->∀ p∈ks',knd.is p.1 p.2=true:=fun ks' pm p hp=>by
   rcases xaj.mp (pm.mem_iff.mp hp) with rfl | hp
   ·exact hx
   ·exact is p hp
  have ndK:∀ ks':List (K × Value),ks'.Perm ((k,x) :: ks)->(ks'.map (·.1)).Nodup:=fun ks' pm=>by
   rw [(pm.map _).nodup_iff,xas,xaO]
   exact ⟨hout,nd⟩
  have main:∀ t':SetTable,t'.mask=t.mask->t'.place=insertAt t.place (below t.place j) j->t'.dummies = #[]->t'.led=t.led->wpAny (model prog w) A (do
    storeSet a (insertAt es (below t.place j) (knd.hash k,x)) t'
    if (!false && t'.tooFull)=true then do
      Ds (relayAll t' (insertAt es (below t.place j) (knd.hash k,x)) (grown (insertAt es (below t.place j) (knd.hash k,x)).size)).2.2
      storeSet a (relayAll t' (insertAt es (below t.place j) (knd.hash k,x)) (grown (insertAt es (below t.place j) (knd.hash k,x)).size)).1 (relayAll t' (insertAt es (below t.place j) (knd.hash k,x)) (grown (insertAt es (below t.place j) (knd.hash k,x)).size)).2.1
      pure (some true)
     else pure (some true)) (fun r s'=>wpAny (model prog w) A (match r with | some added=>pure added | none=>setAddHashedIn a x (knd.hash k) 99999) Q E s') E s:=fun t' tm tp td tl=>by
   have hfill:t'.fill=es.size+1:=by
    unfold SetTable.fill
    rw [tp,td,bQ _ _ (aV T.up j).1,T.sz]; simp
   refine xaa (wpAny_storeSet_of ho hd ?_ (by rw [hsz',sizeLine_eq]; lia))
   have ho1:(s.heap.update a (Obj.putSet (insertAt es (below t.place j) (knd.hash k,x)) t')).get? a=some { o with data:=.set (insertAt es (below t.place j) (knd.hash k,x)) (ep+1) t' }:=by
    have:=xbc (Obj.putSet (insertAt es (below t.place j) (knd.hash k,x)) t') ho (by rw [putSet_of _ _ hd]; rfl)
    rw [putSet_of _ _ hd] at this; exact this
   have sb1:=Heap.SameBut.update s.heap a (Obj.putSet (insertAt es (below t.place j) (knd.hash k,x)) t')
   by_cases c:t'.tooFull=true
   ·rw [if_pos (by rw [c]; rfl)]
    obtain ⟨t2,order,r1,r2,r3,r4,r5,r6,r7,r8,r9⟩:=qz (t:=t') (es:=insertAt es (below t.place j) (knd.hash k,x)) (by lia)
    have hrel:relayAll t' (insertAt es (below t.place j) (knd.hash k,x)) (grown (insertAt es (below t.place j) (knd.hash k,x)).size)=(order.filterMap fun i=>(insertAt es (below t.place j) (knd.hash k,x))[i]?,t2,false):=by
     unfold relayAll
     rw [r1]
     dsimp only
     rw [if_pos]
     rw [xaC]
     refine ⟨?_,r6.fits⟩
     unfold coversAll
     rw [List.isPerm_iff]; exact r9
    rw [hrel]
    dsimp only
    refine xaa (xab ?_)
    obtain ⟨ks',ek,pk⟩:=jw r8 hin
    refine xaa (wpAny_storeSet_of ho1 rfl ?_ (by rw [r7,hsz',sizeLine_eq]; lia))
    refine xab (xab ?_)
    have sb2:=sb1.trans (Heap.SameBut.update _ a (Obj.putSet (order.filterMap fun i=>(insertAt es (below t.place j) (knd.hash k,x))[i]?) t2))
    have ho2:=xbc (Obj.putSet (order.filterMap fun i=>(insertAt es (below t.place j) (knd.hash k,x))[i]?) t2) ho1 (by rw [putSet_of _ _ rfl]; rfl)
    rw [putSet_of _ _ rfl] at ho2
    exact h true _ ks' sb2 ⟨⟨_,_,_,_,ho2,hex,rfl,r6,r5 (by lia),by rw [r3,tl]; exact hL,ek⟩,ndK ks' (pk.trans hperm),isK ks' (pk.trans hperm)⟩ (.inr ⟨hout,pk.trans hperm⟩)
   ·rw [if_neg (by simpa using c)]
    refine xab (xab ?_)
    have hfew:(es.size+1) * 5<t.mask * 3:=by
     unfold SetTable.tooFull at c
     rw [hfill,tm] at c
     simpa using c
    exact h true _ _ sb1 ⟨⟨_,_,_,_,ho1,hex,rfl,T.put hjm n2 hre tm tp td hfew,by rw [tm]; exact hM,by rw [tl]; exact hL,hin⟩,ndK _ hperm,isK _ hperm⟩ (.inr ⟨hout,hperm⟩)
  split
  ·refine xaa ?_
   rw [hashByValue_scannable 8 (hsc _ _ hx)]
   refine xab ?_
   split
   ·exact main _ rfl rfl rfl rfl
   ·exact main _ rfl rfl rfl rfl
  ·refine xaa (xab ?_)
   rw [if_pos rfl]
   exact main _ rfl rfl rfl rfl
end
section
variable {prog:Program} {w:World} {K:Type} [DecidableEq K] {knd:KeyKind prog w K} {A:Around} {E:Value->Shared->Prop} {s:Shared}
theorem nO {l:Addr} {items:Array Value} {xs:List (K × Value)} {Q:Value->Shared->Prop} (hh:A.handled=none) (hl:s.heap.IsList l items) (hi:items.toList=xs.map (·.2))
  (his:∀ p∈xs,knd.is p.1 p.2=true) (hz:xs.length<=2000) (hsc:∀ k v,knd.is k v=true->v.scannable=true)
  (h:∀ h' tk ks,SetK knd h' s.heap.objs.size ks->(∀ k,k∈ks.map (·.1)↔k∈xs.map (·.1))->(∀ p∈ks,p∈xs)->(∀ b o,s.heap.get? b=some o->h'.get? b=some o)->Q (.ref s.heap.objs.size) { s with heap:=h',toks:=tk }) :
  wpAny (model prog w) A (call (.type "set") [.ref l]) Q E s:=by
 refine jn hh hl (fun i h=>∃ ks,SetK knd h s.heap.objs.size ks/\(∀ k,k∈ks.map (·.1)↔k∈(xs.take i).map (·.1))/\(∀ p∈ks,p∈xs)/\ks.length<=i) (fun h e k=>?_) (fun i h h' ⟨ks,S,m1,m2,m3⟩ k=>?_) (fun i v s' E' Q' hv ⟨ks,S,m1,m2,m3⟩ q=>?_) fun h' tk ⟨ks,S,m1,m2,m3⟩ k=>?_
 ·exact ⟨[],⟨⟨_,#[],0,_,e,⟨rfl,rfl,rfl⟩,rfl,tY _,(by show 7<=8191; decide),rfl,rfl⟩,xaX,fun p hp=>nomatch hp⟩,fun k=>by simp,(fun p hp=>nomatch hp),xae _⟩
 ·obtain ⟨⟨o,es,ep,t,ho,r⟩,nd,is⟩:=S
  exact ⟨ks,⟨⟨o,es,ep,t,k _ _ (xae _) ho,r⟩,nd,is⟩,m1,m2,m3⟩
 ·have hv':items.toList[i]? = some v:=by rw [xaz]; exact hv
  rw [hi,xaR] at hv'
  cases ex:xs[i]? with
  | none=>rw [ex] at hv'; cases hv'
  | some p =>
   rw [ex] at hv'
   cases hv'
   have hp:=xaQ ex
   have hil:i<xs.length:=(xay.mp ex).1
   have tk1:(xs.take (i+1)).map (·.1)=(xs.take i).map (·.1)++[p.1]:=by
    rw [xbG,ex,xaP]; rfl
   unfold setAdd
   refine wpAny_holding (xaa (knd.pyHash (k:=p.1) (his p hp) ?_))
   refine Bj (s:={ s' with toks:=s'.toks+1 }) S (his p hp) (by lia) hsc fun b h' ks' sb S' c=>?_
   refine q b h' _ sb ⟨ks',S',fun k=>?_,fun p' hp'=>?_,?_⟩
   ·rw [tk1,xak,xaV,<- m1]
    rcases c with ⟨c1,rfl⟩ | ⟨c1,c2⟩
    ·exact ⟨.inl,fun z=>z.elim id fun e=>e ▸ c1⟩
    ·rw [(c2.map _).mem_iff,xas,xaj]
     exact ⟨fun z=>z.symm,fun z=>z.symm⟩
   ·rcases c with ⟨c1,rfl⟩ | ⟨c1,c2⟩
    ·exact m2 p' hp'
    ·rcases xaj.mp (c2.mem_iff.mp hp') with rfl | z
     ·exact hp
     ·exact m2 p' z
   ·rcases c with ⟨c1,rfl⟩ | ⟨c1,c2⟩
    ·lia
    ·rw [c2.length_eq]; simp; lia
 ·have e:items.size=xs.length:=by
   have:=congrArg List.length hi
   simpa using this
  rw [e,xbB] at m1
  exact h h' tk ks S m1 m2 fun b o ho=>k b o (xal ho) ho
end
end TS
namespace L2
open PySem PySem.Spec PyProof.Rows
def iK (K:PySem.W.Frag):V->Hp->VK->Prop:=fun x H Q=>match x with
 | .ref p=>∃ (ks:List Key) (b:Bool),SqL K H p (ks.map kV)/\ks.length<=2000/\(∀ k∈ks,isI k=b) /\
   ∀ (ms:List Key) (l:Addr),ms.Nodup->(∀ k,k∈ms↔k∈ks)->(ms.Pairwise fun a b=>lt1 b a=false)->H l=none->Q (.ref l) (upd H l (.lst (ms.map kV)))
 | _=>False
theorem vq (h:Vals (ks.map kV) vs):∃ xs:List (Key × Value),vs=xs.map (·.2)/\xs.map (·.1)=ks/\∀ p∈xs,RelV (kV p.1) p.2:=by
 induction ks generalizing vs with
 | nil=>exact ⟨[],Paired.n0 h,rfl,fun p hp=>nomatch hp⟩
 | cons k ks ih =>
  obtain ⟨v,vs,rfl,r,rs⟩:=Paired.c h
  obtain ⟨xs,e1,e2,e3⟩:=ih rs
  refine ⟨(k,v) :: xs,by rw [e1]; rfl,by rw [<- e2]; rfl,fun p hp=>?_⟩
  rcases xaj.mp hp with rfl | hp
  ·exact r
  ·exact e3 p hp
section
variable {X:Cx} {e:Expr} {te:TE} {p p2 pos pos2:Pos}
theorem rW (hc:X.calm=true) (hg:Gl X "sorted") (hm:X.mg "sorted" = none) (hg2:Gl X "set") (hm2:X.mg "set" = none) (he:PE X e te)
  (hv:bootBuiltins "sorted" = some (.builtin "sorted")) (hv2:bootBuiltins "set" = some (.type "set"))
  (hs2:starEach [e] X.env=(false,eval e X.env) :: starEach [] X.env:=by rfl)
  (hs:starEach [.Call (.Name "set" p2) [e] [] pos2] X.env=(false,eval (.Call (.Name "set" p2) [e] [] pos2) X.env) :: starEach [] X.env:=by rfl) :
  PE X (.Call (.Name "sorted" p) [.Call (.Name "set" p2) [e] [] pos2] [] pos) (tUn (iK X.K) te):=by
 intro pins s σ H Q I h
 refine wpAny_Call_Name_kw (ld_blt I hg hm hv ?_ (by decide) (by decide))
 refine PyProof.Rows.callWith_builtin1 ?_ hs rfl
 rw [hs]
 refine Calls.spliced_cons ?_
 refine wpAny_Call_Name_kw (ld_blt I hg2 hm2 hv2 ?_ (by decide) (by decide))
 refine PyProof.Rows.callWith_type1 ?_ hs2 rfl
 rw [hs2]
 refine Calls.spliced_cons (thn (he pins s σ H _ I h) fun u s1 hx5=>L2.ex2 hx5 fun x H1 I1 r1 q1=>Calls.spliced_nil ?_)
 have q1:iK X.K x H1 Q:=q1
 obtain ⟨a,rfl⟩:∃ a,x=.ref a:=by
  unfold iK at q1
  split at q1
  ·exact ⟨_,rfl⟩
  ·exact q1.elim
 obtain ⟨ks,b,hl,hz1,hb,q⟩:=q1
 cases r1
 obtain ⟨vs,rv,pl,hz⟩:=I1.list hl
 obtain ⟨xs,ex,ek,hx⟩:=vq rv
 have hhd:X.A.handled=none:=I1.ok.hd hc
 have hlen:xs.length=ks.length:=by rw [<- ek,xac]
 have his:∀ p∈xs,(mixKind X.prog X.w).is p.1 p.2=true:=fun p hp=>by
  obtain ⟨k,v⟩:=p
  have r:=hx _ hp
  rw [mixKind_is]
  cases k with
  | inl i=>obtain ⟨t,e⟩:=r; rw [show v=_ from e]; exact keyIs_int ..
  | inr x=>obtain ⟨t,e⟩:=r; rw [show v=_ from e]; exact keyIs_str ..
 refine TS.nO (knd:=mixKind X.prog X.w) hhd pl.isList (by simpa using ex) his (by lia) tE fun h2 tk ks' S m1 m2 kp=>?_
 refine Calls.spliced_nil ?_
 obtain ⟨⟨o,es,ep,t,ho,hex,hd,T,hM,hL,hes⟩,nd,is⟩:=S
 have hent:es.toList.map (·.2)=ks'.map (·.2):=by rw [hes,xaw]; rfl
 have hksl:ks'.length<=2000:=by
  have:=TS.bF nd (m:=ks) fun k hk=>by rw [<- ek]; exact (m1 k).mp hk
  rw [xac] at this
  lia
 have hesz:es.size=ks'.length:=by
  have:=congrArg List.length hes
  simpa using this
 have memk:∀ p∈ks',p.1∈ks:=fun p hp=>by rw [<- ek]; exact xai.mpr ⟨p,m2 p hp,rfl⟩
 have mem:∀ vs':List Value,vs'.Perm (ks'.map (·.2))->∀ v∈vs',∃ k,RelV (kV k) v/\k∈ks:=fun vs' pv v hv=>by
  obtain ⟨p,hp,rfl⟩:=xai.mp (pv.mem_iff.mp hv)
  exact ⟨p.1,hx p (m2 p hp),memk p hp⟩
 have h12:s1.heap.objs.size<=h2.objs.size:=xaL (xal ho)
 refine Tim.lE (s:={ s1 with heap:=h2,toks:=tk }) (κ:=oneType') (R:=fun vs'=>vs'.Perm (ks'.map (·.2))) (r:=fun v=>rkK (ks.map fun k=>[k]) (jt v)) (P:=fun v=>∃ k,RelV (kV k) v/\isI k=b/\k∈ks)
  (fun A' E' Q' hA hQ=>TS.kY (s:={ s1 with heap:=h2,toks:=tk }) (hA.trans hhd) ho hex hd T.fits T.up T.sz hL (by rw [hesz,sizeLine_eq]; lia) fun h' tk' d vs' kp' hz' pv=>hQ vs' h' tk' d (by rw [<- hent]; exact pv) kp' hz')
  (fun vs' pv=>by rw [pv.length_eq,xac,sizeLine_eq]; lia) (fun vs' pv v hv=>?_) (fun vs' pv h2' A' E' s' kp' Q' q'=>?_) (fun s' kp'=>yW) fun vs' h' a' out n tk' d pv pm pw kp' ha eo=>?_
 ·obtain ⟨k,rk,mk⟩:=mem vs' pv v hv
  exact ⟨k,rk,hb k mk,mk⟩
 ·obtain ⟨ms,rm⟩:=qW (ks:=ks) vs' (mem vs' pv)
  refine wz (b:=b) rm (fun k hk=>?_) h2' q'
  have:(vs'.map jt)=ms.map fun k=>[k]:=keys_map rm
  have hk2:[k]∈vs'.map jt:=by rw [this]; exact xai.mpr ⟨k,hk,rfl⟩
  obtain ⟨v,hv,e⟩:=xai.mp hk2
  obtain ⟨k',rk,mk⟩:=mem vs' pv v hv
  rw [lr rk] at e
  cases e
  exact hb _ mk
 ·have pm2:=pm.trans pv
  obtain ⟨ms,rm⟩:=qW (ks:=ks) out (mem _ pm2)
  have ekk:(ks'.map (·.2)).map jt=(ks'.map (·.1)).map fun k=>[k]:=by
   rw [xaw,xaw]
   exact xbu fun p hp=>lr (hx p (m2 p hp))
  have pk:ms.Perm (ks'.map (·.1)):=wA (by rw [<- keys_map rm,<- ekk]; exact pm2.map _)
  have hml:ms.length=ks'.length:=by simpa using pk.length_eq
  have mems:∀ k∈ms,k∈ks:=fun k hk=>by rw [<- ek]; exact (m1 k).mp (pk.mem_iff.mp hk)
  refine ⟨.ref a',_,(I1.laid (a:=a') (t':=tk') (fun b o e=>kp' b o (kp b o e)) (xaB h12 ha) (show ObjOk X.prog X.w _ h' _ (.lst (ms.map kV)) from ⟨by rw [xac,sizeLine_eq]; lia,out,n,rm,eo⟩)).drawn,rfl,
   q ms _ (pk.nodup_iff.mpr nd) (fun k=>by rw [pk.mem_iff,m1,ek]) ?_ (I1.hok.fresh (xaB h12 ha))⟩
  have pw2:(out.map jt).Pairwise fun x y=>rkK (ks.map fun k=>[k]) x<=rkK (ks.map fun k=>[k]) y:=xaG.mpr pw
  rw [keys_map rm,xaG] at pw2
  refine pw2.imp_of_mem fun {x y} mx my hle=>?_
  have mx:=mems x mx
  have my:=mems y my
  rw [<- wM,<- qj (L:=ks.map fun k=>[k]) (by simp [shOf,hb x mx,hb y my]) (xai.mpr ⟨y,my,rfl⟩)]
  exact decide_eq_false (by lia)
end
end L2
namespace L2.Q
open PySem PySem.Spec PyProof.Rows
section
variable {X:Cx} {K:PySem.W.Frag} {e:Expr} {te:WE} {p p2 pos pos2:Pos}
theorem zU:bootBuiltins "set" = some (.type "set"):=by decide +kernel
def iH:W1:=fun _ x Q=>match x with
 | .list xs=>∃ (ks:List (List Key)) (sh:List Bool),xs=ks.map keyT/\ks.length<=2000/\(∀ k∈ks,shOf k=true :: sh)/\∀ ms:List (List Key),ms.Nodup->(∀ k,k∈ms↔k∈ks)->(ms.Pairwise fun a b=>ltK b a=false)->Q (.ow true) (.list (ms.map keyT))
 | _=>False
def kJ:W1:=fun _ x Q=>match x with
 | .list xs=>∃ (ks:List Key) (b:Bool),xs=ks.map keyD/\ks.length<=2000/\(∀ k∈ks,isI k=b)/\∀ ms:List Key,ms.Nodup->(∀ k,k∈ms↔k∈ks)->(ms.Pairwise fun a b=>lt1 b a=false)->Q (.ow true) (.list (ms.map keyD))
 | _=>False
theorem rG:Br1 K (gJ K) iH:=by
 intro Hs H m x v As Qd Qv w rx h f
 have r1:=rx.rep w
 cases r1 with
 | list z s q =>
  obtain ⟨ks,sh,rfl,hz,hs,h⟩:=h
  obtain ⟨ta,ok⟩:=xY q
  have hl:=q.length
  rw [xac] at hl
  refine ⟨_,ks,true,sh,s,by lia,ta,hs,fun zs ms l tz nd mm pw hl'=>?_⟩
  have rr:=nQ (K:=K) tz fun k hk=>ok k ((mm k).mp hk)
  have:ms.length<=ks.length:=TS.bF nd fun k hk=>(mm k).mp hk
  exact f.lst w (by rw [xac,sizeLine_eq]; lia) rr (iy ms) (h ms nd mm pw) l hl'
 | _=>exact h.elim
theorem sV:Br1 K (iK K) kJ:=by
 intro Hs H m x v As Qd Qv w rx h f
 have r1:=rx.rep w
 cases r1 with
 | list z s q =>
  obtain ⟨ks,b,rfl,hz,hb,h⟩:=h
  obtain ⟨e,ok⟩:=xX q
  subst e
  refine ⟨ks,b,s,hz,hb,fun ms l nd mm pw hl=>?_⟩
  have:ms.length<=ks.length:=TS.bF nd fun k hk=>(mm k).mp hk
  exact f.lst w (by rw [xac,sizeLine_eq]; lia) (oU fun k hk=>ok k ((mm k).mp hk)) (lF ms) (h ms nd mm pw) l hl
 | _=>exact h.elim
theorem m8 (hu:X.A.units+64<cLine) (hg:Gl X "sorted") (hm:X.mg "sorted" = none) (hg2:Gl X "set") (hm2:X.mg "set" = none) (he:QE X K e te) (hc:X.calm=true:=by rfl) (hK:X.K=K:=by rfl)
  (hs2:starEach [e] X.env=(false,eval e X.env) :: starEach [] X.env:=by rfl)
  (hs:starEach [.Call (.Name "set" p2) [e] [] pos2] X.env=(false,eval (.Call (.Name "set" p2) [e] [] pos2) X.env) :: starEach [] X.env:=by rfl) :
  QE X K (.Call (.Name "sorted" p) [.Call (.Name "set" p2) [e] [] pos2] [] pos) (wUn iH te):=by
 subst hK
 refine PE.imp (sS hc hu hg hm hg2 hm2 he jQ zU hs2 hs) fun σ H Qv hx9=>?_
 obtain ⟨Hs,ρ,tot,Q,sr,h,fin⟩:=hx9
 exact ⟨Hs,ρ,tot,_,sr,h,fun v H1 Hs1 m x As g1 r1 f1 q1=>rG Hs1 H1 m x v As Q Qv g1.wf r1 q1 (Fin.after fin g1)⟩
theorem uX (hg:Gl X "sorted") (hm:X.mg "sorted" = none) (hg2:Gl X "set") (hm2:X.mg "set" = none) (he:QE X K e te) (hc:X.calm=true:=by rfl) (hK:X.K=K:=by rfl)
  (hs2:starEach [e] X.env=(false,eval e X.env) :: starEach [] X.env:=by rfl)
  (hs:starEach [.Call (.Name "set" p2) [e] [] pos2] X.env=(false,eval (.Call (.Name "set" p2) [e] [] pos2) X.env) :: starEach [] X.env:=by rfl) :
  QE X K (.Call (.Name "sorted" p) [.Call (.Name "set" p2) [e] [] pos2] [] pos) (wUn kJ te):=by
 subst hK
 refine PE.imp (rW hc hg hm hg2 hm2 he jQ zU hs2 hs) fun σ H Qv hx9=>?_
 obtain ⟨Hs,ρ,tot,Q,sr,h,fin⟩:=hx9
 exact ⟨Hs,ρ,tot,_,sr,h,fun v H1 Hs1 m x As g1 r1 f1 q1=>sV Hs1 H1 m x v As Q Qv g1.wf r1 q1 (Fin.after fin g1)⟩
end
end L2.Q
namespace L2.Q.R
open PySem PySem.Spec PyProof.Rows L2.Q
end L2.Q.R
namespace L2
open PySem PySem.Spec PyProof.Rows
end L2
namespace L2.Q
open PySem PySem.Spec PyProof.Rows
end L2.Q
namespace L2.Q.R
open PySem PySem.Spec PyProof.Rows L2.Q
end L2.Q.R
namespace L2.Q
open PySem PySem.Spec PyProof.Rows PySem.W
abbrev bmVE:List Value:=[.type "ValueError",.type "Exception",.type "BaseException",.type "object"]
structure XcK (K:PySem.W.Frag) (C:Addr):Prop where
 ex:excIn K C bmVE "ValueError.__new__" = true
 gx:findIn K (.ref C) "__getattr__" = some none
 ga:findIn K (.ref C) "__getattribute__" = some (some (.builtin "BaseException.__getattribute__"))
 cl:findIn K (.ref C) "__class__" = some (some (.builtin "object.__class__"))
 ob:mroIn K C (.type "object")=some true
theorem XcK.obj {K:PySem.W.Frag} (x:XcK K C) (X:K.In h):∃ bm N nm q bs hdct sn sub ab col dd k0 k1 k2 k3 k5 mN,
  h.get? C=some (excClassObj nm q C N bs bm hdct sn sub ab col dd k0 k1 k2 k3 k5 "ValueError.__new__")/\h.Ns N mN/\mN "__init__" = none/\OwnTail h bmVE bm:=by
 have q:=x.ex
 unfold excIn at q
 split at q
 ·rename_i dd cd sl ho
  split at q
  ·rename_i C' bm k0 k1 k2 k3 n k5 hm hs
   simp only [xaC,beq_iff_eq,xcG] at q
   obtain ⟨⟨⟨⟨⟨e1,e2⟩,hdel⟩,ht⟩,hok⟩,hni⟩:=q
   cases e1; cases e2
   cases cd
   dsimp only at hm hdel hok hni
   cases hm; cases hdel
   have hsl:sl = #[k0,k1,k2,k3,some (.builtin "ValueError.__new__"),k5]:=by
    cases sl
    dsimp only at hs
    rw [hs]
   cases hsl
   exact ⟨bm,_,_,_,_,_,_,_,_,_,dd,k0,k1,k2,k3,k5,_,X _ _ ho,.of_isNs (isNs_of_in X hok),nsMap_none_of_in X hok hni,tail_of_in X ht⟩
  ·cases q
 ·cases q
def XAt (a C:Addr) (h:Heap):Prop:=∃ o,h.get? a=some o/\o.cls=.ref C
theorem rM {K:PySem.W.Frag} {a C R:Addr} {os:OsState} (x:XcK K C) (r:XcK K R) (sub:mroIn K C (.ref R)=some true) (X:K.In h) (p:XAt a C h)
  (hq:Q true ⟨h,g,d,t,os⟩):wpAny M A (excMatches (.ref a) (.ref R)) Q E ⟨h,g,d,t,os⟩:=by
 obtain ⟨bm,N,nm,q,bs,hdct,sn,sub',ab,col,dd,k0,k1,k2,k3,k5,mN,hC,hN,hni,T⟩:=r.obj X
 obtain ⟨oe,he,hcls⟩:=p
 have hcB:(Value.ref R :: bm).contains (.type "BaseException")=true:=by rw [List.contains_cons,T.hasType (X := "BaseException") (b:=true) rfl]; rfl
 have f:=tc_notTuple
 have Lk:=looks_mroIn (M:=M) X sub
 unfold excMatches
 repeat (first | (with_reducible refine wpAny_loadPart_at he ?_; rw [hcls]) | with_reducible refine wpAny_loadPart_at hC ?_ | (with_reducible refine wpAny_isSubtype_exc hC ?_; rw [hcB]) | with_reducible refine Lk.at ?_ | wp_step)
 exact hq
theorem FunFrames.rebase {h base B:Heap}:∀ {l:List PySem.Env},h.FunFrames base l->(∀ b∈frs l,B.get? b=none)->h.FunFrames B l
 | [],_,_=>trivial
 | env :: rest,⟨hk,⟨L,o,hf,hn,ho,hd⟩,hr⟩,hB=>⟨hk,⟨L,o,hf,hB L (by unfold frs; rw [xa5,hf]; exact xah),ho,hd⟩,
   FunFrames.rebase hr fun b hb=>hB b (by unfold frs; rw [xa5,hf]; exact xaf _ hb)⟩
theorem ObjOk.there {P:Program} (x:ObjOk P w H h a o):∃ u,h.get? a=some u:=by
 cases o with
 | lst xs=>obtain ⟨_,_,_,_,e⟩:=x; exact ⟨_,e⟩
 | tup xs=>obtain ⟨_,_,_,_,e,_⟩:=x; exact ⟨_,e⟩
 | dK kvs=>obtain ⟨_,_,_,_,o,_,_,e,_⟩:=x; exact ⟨_,e⟩
 | dT kvs=>obtain ⟨_,_,_,_,o,_,_,e,_⟩:=x; exact ⟨_,e⟩
 | set S n=>obtain ⟨o,_,_,_,e,_⟩:=x; exact ⟨_,e⟩
 | ins C dx fs=>obtain ⟨_,_,_,e,_⟩:=x; exact ⟨_,e⟩
 | own y=>exact x
 | xd fs=>obtain ⟨_,⟨_,_,_,e,_⟩,_⟩:=x; exact ⟨_,e⟩
 | rng lo hi=>obtain ⟨_,_,_,e⟩:=x; exact ⟨_,e⟩
 | frz ob u=>obtain ⟨e,_⟩:=x; exact ⟨_,e⟩
 | tbl ps=>exact ⟨_,(show h.get? a=some _ from x)⟩
 | met f y=>exact ⟨_,(show h.get? a=some _ from x)⟩
 | ext φ=>obtain ⟨_,e,_⟩:=x; exact e
def Cov (B:Heap) (fs:List Addr) (H':Hp) (h₀ h:Heap):Prop:=∀ b o,h.get? b=some o->(H' b≠none\/h₀.get? b≠none)->b∉fs->B.get? b=some o
def CXx (P:Program) (w:World) (mg:Str->Option Value) (rn:List Str):CXT:=fun outer H s E e s' =>
 ∃ a n C a0 H' B,e=.ref a/\(n∈rn/\mg n=some (.ref C))/\s'.os=s.os/\AllBare s'.gens/\Un (frs outer) [] H H' s.heap s'.heap/\HOk P w H' s'.heap /\
  Heap.FlyingW B outer a (.ref C) a0 s'.heap/\Cov B (frs outer) H' s.heap s'.heap/\(∀ b∈frs outer,H' b=none)/\E (.ref C) none H'
structure eO (fs:List Addr) (H':Hp) (h₀ h h':Heap):Prop where
 keep:∀ b o,h.get? b=some o->(H' b≠none\/h₀.get? b≠none)->b∉fs->h'.get? b=some o
 slot:∀ b o,h.get? b=some o->b∈fs->∃ sl,h'.get? b=some { o with slots:=sl }
theorem eO.of {B:Heap} (c:Cov B (frs l) H' h₀ h) (st:B.StaysIn h') (up:h.UpToSlots h') (ff:h.FunFrames base l):eO (frs l) H' h₀ h h' :=
 ⟨fun b o e k n=>st b o (c b o e k n),fun b o e m=>by
  obtain ⟨_,o',e',d⟩:=ff.mem m
  rw [e] at e'; cases e'
  exact up b o e d⟩
theorem eO.trans (a:eO fs H' h₀ h h1) (b:eO fs H' h₀ h1 h2):eO fs H' h₀ h h2 :=
 ⟨fun x o e k n=>b.keep x o (a.keep x o e k n) k n,fun x o e m=>by
  obtain ⟨_,e1⟩:=a.slot x o e m
  obtain ⟨sl,e2⟩:=b.slot x _ e1 m
  exact ⟨sl,e2⟩⟩
theorem eO.un (m:eO fs H' h₀ h h') (u:Un fs [] H H' h₀ h):Un fs [] H H' h₀ h' where
 keep:=fun b o e n nb nx=>m.keep b o (u.keep b o e n nb nx) (.inr (by rw [e]; exact fun z=>nomatch z)) nb
 slot:=fun b o e n hb nx=>by
  obtain ⟨_,e1⟩:=u.slot b o e n hb nx
  obtain ⟨sl,e2⟩:=m.slot b _ e1 hb
  exact ⟨sl,e2⟩
 free:=u.free
 there:=fun b o e nx=>by
  obtain ⟨o',e1⟩:=u.there b o e nx
  by_cases hb:b∈fs
  ·obtain ⟨sl,e2⟩:=m.slot b o' e1 hb
   exact ⟨_,e2⟩
  ·exact ⟨o',m.keep b o' e1 (.inr (by rw [e]; exact fun z=>nomatch z)) hb⟩
 tups:=u.tups
 frzs:=u.frzs
 tbls:=u.tbls
theorem eO.hok {P:Program} (m:eO fs H' h₀ h h') (f:∀ b∈fs,H' b=none) (x:HOk P w H' h):HOk P w H' h':=fun a o e =>
 (x a o e).stay (fun b u hb q=>by
  have hH:H' b≠none:=by
   rcases hb with z | z
   ·rw [z,e]; exact fun z=>nomatch z
   ·rw [z]; exact fun z=>nomatch z
  exact m.keep b u q (.inl hH) fun z=>hH (f b z)) (fun _ q=>q) fun _ _ q=>q
section
variable {X:Cx} {pins:List (Addr × Obj)} {σ:St} {H H':Hp} {s:Shared} {e:Value}
theorem Cov.up {B h h':Heap} (hst:X.stack=X.env :: X.outer) (hf:X.env.frame=some X.env.locals) (hex:X.ex=[]) (I:Inv X pins σ H s) (un:Un (frs X.stack) [] H H' s.heap h) (c:Cov B (frs X.stack) H' s.heap h) (m:eO (frs X.stack) H' s.heap h h') (fr:∀ b∈frs X.stack,H' b=none) (hok:HOk X.prog X.w H' h) :
  Un X.fs [] X.H₀ H' X.s₀.heap h'/\Cov B X.fs H' X.s₀.heap h':=by
 have hs:∀ b,b∈frs X.stack↔b=X.env.locals\/b∈X.fs:=fun b=>by
  rw [hst]; unfold frs; rw [xa5,hf]; exact xaj
 have neL:∀ b o,X.s₀.heap.get? b=some o->b≠X.env.locals:=fun b o e=>xar (xaA (xal e) I.ok.above)
 have nex:∀ b:Addr,b∉X.ex:=fun b z=>by rw [hex] at z; exact nomatch z
 have m':=m.un un
 have th:∀ b o,X.s₀.heap.get? b=some o->∃ o',s.heap.get? b=some o':=fun b o e=>I.base.there b o e (nex b)
 refine ⟨⟨fun b o e n nb nx=>?_,fun b o e n hb nx=>?_,fun b o e n nx=>?_,fun b o e nx=>?_,fun b xs e=>un.tups b xs (I.base.tups b xs e),fun b ob u e=>un.frzs b ob u (I.base.frzs b ob u e),fun b ps e=>?_⟩,fun b o e k nb=>?_⟩
 ·exact m'.keep b o (I.base.keep b o e n nb (nex b)) (I.base.free b o e n (nex b)) (fun z=>((hs b).mp z).elim (neL b o e) nb) (by simp)
 ·obtain ⟨_,e1⟩:=I.base.slot b o e n hb (nex b)
  obtain ⟨sl,e2⟩:=m'.slot b _ e1 (I.base.free b o e n (nex b)) ((hs b).mpr (.inr hb)) (by simp)
  exact ⟨sl,e2⟩
 ·obtain ⟨o',e1⟩:=th b o e
  exact un.free b o' e1 (I.base.free b o e n (nex b)) (by simp)
 ·obtain ⟨o',e1⟩:=th b o e
  exact m'.there b o' e1 (by simp)
 ·obtain ⟨m1,e1⟩:=I.base.tbls b ps e
  obtain ⟨m2,e2⟩:=un.tbls b _ e1
  exact ⟨m1++m2,by rw [e2,xbC]⟩
 ·have key:∀ o',h.get? b=some o'->(H' b≠none\/s.heap.get? b≠none)->b∉frs X.stack->B.get? b=some o:=fun o' e' k' n'=>by
   have:=m.keep b o' e' k' n'
   rw [e] at this; cases this
   exact c b o e' k' n'
  rcases k with k | k
  ·have nf:b∉frs X.stack:=fun z=>k (fr b z)
   cases q:H' b with
   | none=>exact absurd q k
   | some u =>
    obtain ⟨o',e'⟩:=ObjOk.there (hok b u q)
    exact key o' e' (.inl k) nf
  ·cases q:X.s₀.heap.get? b with
   | none=>exact absurd q k
   | some o0 =>
    obtain ⟨o1,e1⟩:=th b o0 q
    obtain ⟨o2,e2⟩:=un.there b o1 e1 (by simp)
    exact key o2 e2 (.inr (by rw [e1]; exact fun z=>nomatch z)) fun z=>((hs b).mp z).elim (neL b o0 q) nb
end
section
variable {P:Program} {w:World} {K:PySem.W.Frag} {mg:Str->Option Value} {base:Heap} {N:List Str} {qual:Str} {scope:Scope} {f:Addr} {cd:Value} {A:Around} {outer:List PySem.Env} {s₀:Shared} {H₀:Hp} {E:XK} {rn:List Str}
theorem xR (hf:env.frame=some L) (h:b∈frs l):b∈frs (env :: l):=by
 unfold frs; rw [xa5,hf]; exact xaf _ h
theorem Ad:Passes (CXx P w mg rn) (cxOf (CXx P w mg rn) P w K mg base N qual scope f cd A outer s₀ H₀ E) E:=by
 intro pins σ H s e s' I hx
 obtain ⟨a,n,C,a0,H',B,he,hn,os,bare,un,hok,fly,cov,fr,hE⟩:=hx
 subst he
 refine wpAny_leaves_onW I.ok.frames rfl fly fun h' fly' up=>?_
 have mv:=eO.of cov fly'.1 up fly.2.2.1
 obtain ⟨u1,c1⟩:=Cov.up (X:=cxOf (CXx P w mg rn) P w K mg base N qual scope f cd A outer s₀ H₀ E) rfl rfl rfl I un cov mv fr hok
 exact ⟨a,n,C,a0,H',B,rfl,hn,os.trans I.os,bare,u1,mv.hok fr hok,fly',c1,fun b hb=>fr b (xR rfl hb),hE⟩
def rT (X:Cx) (rn:List Str) (E:XK):Prop:=∀ (pins:List (Addr × Obj)) (σ:St) (H:Hp) (s:Shared) (h':Heap) (e:Addr) (n:Str) (C:Addr) (vs:List Value),Inv X pins σ H s->Heap.MadeExcOf s.heap h' e (.ref C) vs ->
 n∈rn->X.mg n=some (.ref C)->E (.ref C) none H->X.xe (.ref e) { s with heap:=h' }
theorem sX:rT (cxOf (CXx P w mg rn) P w K mg base N qual scope f cd A outer s₀ H₀ E) rn E:=by
 intro pins σ H s h' e n C vs I hx hn hm hE
 have st:=I.stack
 have ff:s.heap.FunFrames (hideAll s.heap (frs (envOfC qual scope s₀.heap.objs.size f cd :: outer))) (envOfC qual scope s₀.heap.objs.size f cd :: outer):=FunFrames.rebase st fun b hb=>hideAll_none _ hb
 refine wpAny_leaves_madeW (h:=s.heap) I.ok.frames rfl (fun b o q=>of_hideAll _ q) ff hx fun h'' t fly tup hnt up=>?_
 have ff':h'.FunFrames (hideAll s.heap (frs (envOfC qual scope s₀.heap.objs.size f cd :: outer))) (envOfC qual scope s₀.heap.objs.size f cd :: outer):=ff.of_keeps fun b o q _=>⟨o,hx.keeps b o q,rfl⟩
 have hok:HOk P w H h':=I.hok.kept hx.keeps
 have fr:∀ b∈frs (envOfC qual scope s₀.heap.objs.size f cd :: outer),H b=none:=I.stkFree
 have cov:Cov (hideAll s.heap (frs (envOfC qual scope s₀.heap.objs.size f cd :: outer))) (frs (envOfC qual scope s₀.heap.objs.size f cd :: outer)) H s.heap h':=fun b o q k nb=>by
  have ho:∃ o1,s.heap.get? b=some o1:=by
   rcases k with k | k
   ·cases z:H b with
    | none=>exact absurd z k
    | some u=>exact ObjOk.there (I.hok b u z)
   ·exact Option.ne_none_iff_exists'.mp k
  obtain ⟨o1,e1⟩:=ho
  have e2:=hx.keeps b o1 e1
  rw [q] at e2; cases e2
  exact hideAll_get _ e1 nb
 have mv:eO (frs (envOfC qual scope s₀.heap.objs.size f cd :: outer)) H s.heap h' h'':=eO.of cov fly.1 up ff'
 obtain ⟨u1,c1⟩:=Cov.up (X:=cxOf (CXx P w mg rn) P w K mg base N qual scope f cd A outer s₀ H₀ E) rfl rfl rfl I (Un.kept hx.keeps) cov mv fr hok
 exact ⟨e,n,C,_,H,_,rfl,⟨hn,hm⟩,I.os,I.bare,u1,mv.hok fr hok,fly,c1,fun b hb=>fr b (xR rfl hb),hE⟩
def LX (rn:List Str) (mg:Str->Option Value) (E:XK):Str->Hp->Prop:=fun n H'=>n∈rn->∀ C,mg n=some (.ref C)->E (.ref C) none H'
def dq (K:PySem.W.Frag) (rn:List Str) (mg:Str->Option Value) (sp:SpD):Sp:=fun vs H Qv E=>∃ ds Qd,Reps K H ds vs/\sp ds Qd /\
 (∀ v H' Hs' m d As,Same H Hs'->Wf Hs' H'->RM K Hs' H' m d v As->As.Nodup->(∀ a∈As,Hs' a=none)->Qd m d->Qv v H') /\
 ∀ n H',Same H H'->Qd (.ow false) (.str n)->LX rn mg E n H'
theorem vH (h:dq K rn mg sp vs H Qv E) (hp:∀ ds Q,sp ds Q->t { nx:=fun _=>Q .sh .non,rt:=Q } (bh N.length ds)) :
  tpS K (LX rn mg E) t { nx:=fun _ H'=>Qv .non H',rt:=Qv } (start N vs) H:=by
 obtain ⟨ds,Qd,rs,hs,fin,fx⟩:=h
 have hl:=rs.length
 refine ⟨H,bh N.length ds,[],{ nx:=fun _=>Qd .sh .non,rt:=Qd },⟨?_,⟨Same.refl _,fun _ _ e=>e⟩,xaX,fun a h=>nomatch h⟩,hp ds Qd hs,?_,?_,?_,?_,fx⟩
 ·unfold bh start
  rw [hl]
  exact SR.start rs
 ·exact fun σ' H' Hs' ρ' tot' s sr q=>fin .non H' Hs' .sh .non [] s sr.wf ⟨rfl,.non⟩ xaX (fun a h=>nomatch h) q
 ·exact fun σ' H' Hs' ρ' tot' s sr q=>q.elim
 ·exact fun σ' H' Hs' ρ' tot' s sr q=>q.elim
 ·exact fun v H' Hs' m d As s w r nd own q=>fin v H' Hs' m d As s w r nd own q
theorem FunX.ok {st:Stmt} {ps:List Str} (F:Fun K x qual st f fd) (S:FnScope N ps (defScope st)) (len:∀ ds Q,sp ds Q->ds.length=ps.length)
  (hbody:∀ (cdv:Value) (A:Around) (outer:List PySem.Env) (s:Shared) (H:Hp) (E:XK),Room k (A.deeper (envOfC qual (defScope st) s.heap.objs.size f cdv))->QSs (cxOf (CXx P w mg rn) P w K mg base N qual (defScope st) f cdv A outer s H E) K (LX rn mg E) (defBody st) t)
  (hp:∀ ds Q,sp ds Q->t { nx:=fun _=>Q .sh .non,rt:=Q } (bh N.length ds)):FnOk P w K mg base (CXx P w mg rn) (k+1) f fd ps (dq K rn mg sp):=by
 obtain ⟨oc,od,kV,doc,pm,an,cdv,ct,osl,rfl,lk,hcd⟩:=F.ex
 exact fn_of lk hcd S (fun vs H Q E ⟨ds,Qd,rs,hs,_⟩=>by rw [<- rs.length]; exact len ds Qd hs) fun A outer s H vs Q E hr hsp=>⟨_,hbody cdv A outer s H E hr,vH hsp hp⟩
structure CalX (P:Program) (w:World) (K:PySem.W.Frag) (mg:Str->Option Value) (base:Heap) (rn:List Str) (k:Nat) (x:Str) (ps:List Str) (sp:SpD):Prop where
 ex:∃ (g:Addr) (fd:FuncData),mg x=some (.ref g)/\PySem.W.keepIn K (.ref g)=true/\Binds K fd ps []/\FnOk P w K mg base (CXx P w mg rn) k g fd ps (dq K rn mg sp)
theorem Fun.calX {st:Stmt} {ps:List Str} (F:Fun K x qual st f fd) (hm:mg x=some (.ref f)) (ok:FnOk P w K mg base (CXx P w mg rn) k f fd ps (dq K rn mg sp))
  (h:∀ (kV doc pm:Value) (an:Option Addr) (cdv ct:Value) (us:List Value),us.length=ps.length->bindArgs (PySem.W.fnOf x qual (defArgs st) (defBody st) (defScope st) .none kV doc pm an cdv ct) ⟨us,[]⟩=pure (ps.zip us)):CalX P w K mg base rn k x ps sp:=⟨f,fd,hm,F.kp,F.binds h,ok⟩
end
def XCl (K:PySem.W.Frag) (mg:Str->Option Value) (n:Str):Prop:=∃ C,mg n=some (.ref C)/\XcK K C
def xch (m:Md) (d:D) (Y:Str->Prop) (N:Prop):Prop:=match m,d with
 | .ow false,.str n=>Y n
 | _,_=>N
theorem wV {K:PySem.W.Frag} (r:RM K Hs H m d v As) (h:xch m d Y N):N:=by
 unfold xch at h
 split at h
 ·obtain ⟨r,ne⟩:=r
  cases r
  exact absurd rfl ne
 ·exact h
section
variable {X:Cx} {K:PySem.W.Frag} {rn:List Str} {E:XK} {e:Expr} {es:List Expr} {te:WE} {t:WA} {pos:Pos}
def m7 (n:Str) (te:WE):WS:=fun E ρ=>te ρ fun _ _=>E.rt (.ow false) (.str n)
theorem yO (hc:X.calm=true) (ok:rT X rn E) (hn:x∈rn) (hm:X.mg x=some (.ref C)) (xc:XcK X.K C) (ha:PA X [e] ta) (hg:Gl X x) (hdb:(x == ("__debug__" : Str))=false)
  (he:starEach [e] X.env=[(false,eval e X.env)]):PS X (.Raise (some (.Call (.Name x np) [e] [] cpos)) none pos) (fun D σ H=>ta σ H fun vs H1=>vs.length<=sizeLine/\E (.ref C) none H1):=by
 intro pins s σ H D I h
 obtain ⟨bm,N,nm,q,bs,hdct,sn,sub,ab,col,dd,k0,k1,k2,k3,k5,mN,hC,hN,hni,T⟩:=xc.obj I.mod.kin
 refine wpAny_Raise_call_subT (C:=C) (nm:=nm) (q:=q) (N:=N) (bs:=bs) (bm:=bm) (hdct:=hdct) (sn:=sn) (sub:=sub) (ab:=ab) (col:=col) (dd:=dd) (k0:=k0) (k1:=k1) (k2:=k2) (k3:=k3) (k5:=k5)
  F.excBase_ValueError (mN:=mN) (T.hasType F.excBase_ValueError.hasBase) (I.ok.hd hc) (by rw [he]; rfl) hni (ld_glob I hg hm ⟨rfl,?_⟩ hdb)
 have h2:=ha cpos pins s σ H _ I h
 rw [he] at h2 ⊢
 exact Calls.evalArgs_plain (thn h2 fun vs s1 ⟨xs,H1,I1,r,hl,q⟩=>⟨rfl,by rw [<- r.length]; exact hl,I1.bk _ _ hC,hN.keeps I1.bk,T.keeps I1.bk,fun h' e' hx=>ok pins σ H1 s1 h' e' x C vs I1 hx hn hm q⟩)
theorem jJ (hc:X.calm=true) (ok:rT X rn E) (xc:XCl K X.mg x) (hn:x∈rn) (he:QE X K e te) (hg:Gl X x:=by rfl) (hdb:(x == ("__debug__" : Str))=false:=by decide) (hK:X.K=K:=by rfl)
  (hs:starEach [e] X.env=[(false,eval e X.env)]:=by rfl):QS X K (LX rn X.mg E) (.Raise (some (.Call (.Name x np) [e] [] cpos)) none pos) (m7 x te):=by
 subst hK
 obtain ⟨C,hm,xc⟩:=xc
 refine PS.imp (yO hc ok hn hm xc (pa_cons he pa_nil hs) hg hdb hs) fun D σ H hx=>jP hx fun Hs ρ tot E' sr h k1 k2 k3 k4 kx=>?_
 exact ⟨Hs,ρ,tot,_,sr,h,fun v H1 Hs1 m d As g1 r1 f1 q1=>⟨(by decide:1<=sizeLine),kx x H1 (g1.sh.trans g1.wf.sub) q1 hn C hm⟩⟩
section
variable {k:Nat} {x:Str} {ps:List Str} {sp:SpD} {p cpos:Pos}
theorem Ao (C:CalX X.prog X.w X.K X.mg X.base rn k x ps sp) (hr:Room k X.A) (hx:Passes (CXx X.prog X.w X.mg rn) X E) (ha:PA X (e :: es) ta) (hg:Gl X x) (hdb:(x == ("__debug__" : Str))=false) (he:starEach (e :: es) X.env=(false,eval e X.env) :: starEach es X.env)
  (hpl:(backTo pos (starEach es X.env)).any (·.1)=false):PE X (.Call (.Name x p) (e :: es) [] pos) (tCall (dq X.K rn X.mg sp) [] E ta):=by
 obtain ⟨g,fd,hm,hk,hb,F⟩:=C.ex
 exact pe_call F hr hg hm hk hb .nil hx ha hdb he hpl
theorem vA {σ:St} {H:Hp} {Qv:VK} {Hs:Hp} {ρ:Env} {tot:List Addr} {Y:Str->Prop} {Q:Md->D->Prop} (sr:SRel K Hs ρ σ H tot) (h:t ρ fun ps=>sp (ps.map (·.2)) fun m d=>xch m d Y (onK (m,d) (f:=fun p=>Q (retM p.1 p.2) p.2) ⟨⟩))
  (f:∀ v H' Hs' m d As,Grow Hs H Hs' H'->RM K Hs' H' m d v As->cV Hs' H As->Q m d->Qv v H') (fx:∀ n H',Same Hs H'->Y n->LX rn X.mg E n H'):tCall (dq K rn X.mg sp) [] E (tpA K t) σ H Qv:=by
 refine ⟨Hs,ρ,tot,_,sr,h,fun vs H1 Hs1 ps As g1 r1 f1 q1=>?_⟩
 refine ⟨_,_,by rw [xaF]; exact r1.reps g1.wf,q1,fun v H' Hs' m d As s w r nd own q=>?_,fun n H' s q=>fx n H' (g1.sh.trans (g1.wf.sub.trans s)) q⟩
 obtain ⟨As',r',fr⟩:=pU g1.wf s w r nd own
 exact Fin.after f g1 v H' _ (retM m d) d As' (dR g1.wf s w) r' fr (wV r q)
def qw (sp:SpD) (t:WA):WS:=fun E ρ=>t ρ fun ps=>sp (ps.map (·.2)) fun m d=>xch m d (fun n=>E.rt (.ow false) (.str n)) (onK (m,d) (f:=fun _=>E.nx ρ) ⟨⟩)
variable (C:CalX X.prog X.w X.K X.mg X.base rn k x ps sp) (hr:Room k X.A)
include C hr
variable (hx:Passes (CXx X.prog X.w X.mg rn) X E)
include hx
theorem pQ (ha:QA X K (e :: es) t) (hs:swapsWith (.Call (.Name x p) (e :: es) [] cpos) none pos.line X.env=pure false:=by rfl) (hK:X.K=K:=by rfl) (hg:Gl X x:=by rfl) (hdb:(x == ("__debug__" : Str))=false:=by decide) (he:starEach (e :: es) X.env=(false,eval e X.env) :: starEach es X.env:=by rfl)
  (hpl:(backTo cpos (starEach es X.env)).any (·.1)=false:=by rfl):QS X K (LX rn X.mg E) (.Expr (.Call (.Name x p) (e :: es) [] cpos) pos) (qw sp t):=by
 subst hK
 exact PS.imp (ps_expr (Ao C hr hx ha hg hdb he hpl) hs) fun D σ H hx=>jP hx fun Hs ρ tot E' sr h k1 k2 k3 k4 kx=>vA (Q:=fun _ _=>E'.nx ρ) sr h (fun v H1 Hs1 m d As g1 r1 f1 q1=>k1 σ H1 Hs1 ρ tot g1.sh (sr.grow g1) q1) kx
end
end
abbrev gM (X:Cx) (pn:List (Addr × Obj)) (xe:Value->Shared->Prop):Cx:={ X with pn:=pn,xe:=xe }
abbrev inHand (X:Cx) (pn:List (Addr × Obj)) (a:Addr):Cx:={ X with A:=X.A.mark (some (.ref a)),calm:=false,pn:=pn,xe:=fun _ _=>False }
abbrev EY (X:Cx) (H:Hp) (s:Shared) (p:Addr × Obj):Prop:=s.heap.get? p.1=some p.2/\H p.1=none/\p.1≠X.env.locals/\p.1∉X.fs/\∀ v,p.2.data≠.cell v
section
variable {X:Cx} {pins pins' pn:List (Addr × Obj)} {σ:St} {H:Hp} {s:Shared} {xe:Value->Shared->Prop} {a:Addr}
theorem Inv.gM (I:Inv X pins σ H s) (h:∀ p∈pn++pins',EY X H s p):Inv (gM X pn xe) pins' σ H s :=
 ⟨⟨I.ok.mod,I.ok.kind,I.ok.glob,I.ok.blt,I.ok.above,I.ok.inj,I.ok.has,I.ok.cab,I.ok.hd,I.ok.frames,I.ok.stk,I.ok.exf,I.ok.bs,I.ok.bsz,I.ok.noex,I.ok.exfs,I.ok.funs,I.ok.frf⟩,I.os,I.bare,I.base,I.loc,I.cell,I.free,I.freeC,h,I.hok,I.len⟩
theorem Inv.mV (I:Inv (L2.Q.gM X pn xe) pins' σ H s) (h:∀ p∈X.pn++pins,p∈pn++pins'):Inv X pins σ H s :=
 ⟨⟨I.ok.mod,I.ok.kind,I.ok.glob,I.ok.blt,I.ok.above,I.ok.inj,I.ok.has,I.ok.cab,I.ok.hd,I.ok.frames,I.ok.stk,I.ok.exf,I.ok.bs,I.ok.bsz,I.ok.noex,I.ok.exfs,I.ok.funs,I.ok.frf⟩,I.os,I.bare,I.base,I.loc,I.cell,I.free,I.freeC,fun p hp=>I.pin p (h p hp),I.hok,I.len⟩
theorem Inv.inHand (I:Inv (L2.Q.gM X pn xe) pins' σ H s) (h:∀ p∈pn2++pins2,EY X H s p):Inv (L2.Q.inHand X pn2 a) pins2 σ H s :=
 ⟨⟨I.ok.mod,I.ok.kind,I.ok.glob,I.ok.blt,I.ok.above,I.ok.inj,I.ok.has,I.ok.cab,(fun z=>nomatch z),I.ok.frames,I.ok.stk,I.ok.exf,I.ok.bs,I.ok.bsz,I.ok.noex,I.ok.exfs,I.ok.funs,I.ok.frf⟩,I.os,I.bare,I.base,I.loc,I.cell,I.free,I.freeC,h,I.hok,I.len⟩
theorem Inv.Ha (I:Inv (L2.Q.gM X pn xe) pins σ H s):Inv (L2.Q.gM X pn xe2) pins σ H s :=
 ⟨⟨I.ok.mod,I.ok.kind,I.ok.glob,I.ok.blt,I.ok.above,I.ok.inj,I.ok.has,I.ok.cab,I.ok.hd,I.ok.frames,I.ok.stk,I.ok.exf,I.ok.bs,I.ok.bsz,I.ok.noex,I.ok.exfs,I.ok.funs,I.ok.frf⟩,I.os,I.bare,I.base,I.loc,I.cell,I.free,I.freeC,I.pin,I.hok,I.len⟩
theorem Inv.Cm (I:Inv (L2.Q.inHand X pn a) pins' σ H s) (hd:X.calm=true->X.A.handled=none) (h:∀ p∈X.pn++pins,p∈pn++pins'):Inv X pins σ H s :=
 ⟨⟨I.ok.mod,I.ok.kind,I.ok.glob,I.ok.blt,I.ok.above,I.ok.inj,I.ok.has,I.ok.cab,hd,I.ok.frames,I.ok.stk,I.ok.exf,I.ok.bs,I.ok.bsz,I.ok.noex,I.ok.exfs,I.ok.funs,I.ok.frf⟩,I.os,I.bare,I.base,I.loc,I.cell,I.free,I.freeC,fun p hp=>I.pin p (h p hp),I.hok,I.len⟩
theorem SP.mV {D:Ends} (h:SP (L2.Q.gM X pn xe) pins' D f s) (hp:∀ p∈X.pn++pins,p∈pn++pins'):SP X pins D f s:=by
 cases f with
 | next=>obtain ⟨σ',H',I,q⟩:=h; exact ⟨σ',H',Inv.mV I hp,q⟩
 | brk=>obtain ⟨σ',H',I,q⟩:=h; exact ⟨σ',H',Inv.mV I hp,q⟩
 | cont=>obtain ⟨σ',H',I,q⟩:=h; exact ⟨σ',H',Inv.mV I hp,q⟩
 | ret u=>obtain ⟨v,σ',H',I,r,q⟩:=h; exact ⟨v,σ',H',Inv.mV I hp,r,q⟩
end
theorem Cov.next {P:Program} {B:Heap} (c:Cov B fs H' h₀ h) (m:eO fs H' h₀ h h') (hok:HOk P w H' h) (th:∀ b o,h₀.get? b=some o->∃ o',h.get? b=some o'):Cov B fs H' h₀ h':=fun b o e k nb=>by
 have ho:∃ o',h.get? b=some o':=by
  rcases k with k | k
  ·cases z:H' b with
   | none=>exact absurd z k
   | some u=>exact ObjOk.there (hok b u z)
  ·obtain ⟨o0,e0⟩:=Option.ne_none_iff_exists'.mp k
   exact th b o0 e0
 obtain ⟨o',e'⟩:=ho
 have e2:=m.keep b o' e' k nb
 rw [e] at e2; cases e2
 exact c b o e' k nb
structure Fz (K:PySem.W.Frag) (mg:Str->Option Value) (rn:List Str) (R:Str):Prop where
 ex:∃ r,mg R=some (.ref r)/\XcK K r/\∀ n C,n∈rn->mg n=some (.ref C)->XcK K C/\mroIn K C (.ref r)=some true
end L2.Q
namespace L2.Q
open PySem PySem.Spec PyProof.Rows
end L2.Q
namespace L2.Q.R
open PySem PySem.Spec PyProof.Rows L2.Q
section
variable {E:rD} {ρ:Env} {Q:Md->L2.Q.D->Prop} {te:WE} {tar:WA} {b:Bool} {sp:SpD} {n:Str} {d:L2.Q.D} {Y:Str->Prop} {N:Prop}
theorem Gs:m7 n te E ρ=te ρ fun _ _=>E.rt (.ow false) (.str n):=rfl
theorem GR:qw sp tar E ρ=tar ρ fun ps=>sp (ps.map (·.2)) fun m d=>xch m d (fun n=>E.rt (.ow false) (.str n)) (onK (m,d) (f:=fun _=>E.nx ρ) ⟨⟩):=rfl
theorem JX:xch (.ow false) (.str n) Y N=Y n:=rfl
theorem Jd:xch .sh d Y N=N:=rfl
theorem Js:xch .bo d Y N=N:=rfl
theorem Jg:xch (.ow true) d Y N=N:=rfl
theorem Kp:xch (.ow b) (.list xs) Y N=N:=by cases b <;> rfl
theorem Kv:xch (.ow b) (.tup xs) Y N=N:=by cases b <;> rfl
theorem Km:xch (.ow b) (.dK xs) Y N=N:=by cases b <;> rfl
theorem J9:xch (.ow b) (.dT xs) Y N=N:=by cases b <;> rfl
end
end L2.Q.R
namespace L2
open PySem PySem.Spec PyProof.Rows Builtin Builtin.Str Builtin.Int
end L2
namespace L2.Q
open PySem PySem.Spec PyProof.Rows
section
variable {X:Cx} {K:PySem.W.Frag} {a:Expr} {ta:WE}
def wFz (t:WE):WE:=fun ρ Q=>t ρ fun m d=>lU m/\Q .sh d
theorem q_fz (h:QE X K a ta):QE X K a (wFz ta):=by
 refine PE.imp h fun σ H Qv hx=>ex4 hx fun Hs ρ tot Q sr h fin=>?_
 refine ⟨Hs,ρ,tot,_,sr,h,fun v H1 Hs1 m d As g1 r1 f1 q1=>?_⟩
 obtain ⟨nb,q⟩:=q1
 cases m with
 | sh=>exact fin v H1 Hs1 .sh d As g1 r1 f1 q
 | bo=>exact nb.elim
 | ow fl =>
  obtain ⟨r,ne⟩:=r1
  have hn:∀ a∈As,Hs1 a=none:=fun a h=>(f1.2 a h).1
  have s:=iM (H:=H1) hn
  refine fin v H1 (frzH Hs1 H1 As) .sh d [] ⟨g1.all,g1.sh.trans s,vW g1.wf r.own,fun c hc=>?_⟩ ⟨rfl,r.rep s fun c hc=>by unfold frzH; rw [if_pos hc]⟩ ⟨xaX,fun _ h=>mem0 h⟩ q
  unfold frzH at hc
  split at hc
  ·rename_i m
   exact .inr (f1.2 c m).2
  ·exact g1.new c hc
def owl (o:Option (Option Sl)) (k:List D->Prop):Prop:=match o with
 | some (some (.ow true (.list xs)))=>k xs
 | _=>False
def intD (y:D) (k:Int->Prop):Prop:=match y with
 | .int i=>k i
 | _=>False
def outM (d:D):Md:=bif d.flat then .sh else .ow true
end
end L2.Q
namespace L2.Q.R
open PySem PySem.Spec PyProof.Rows L2.Q
section
variable {ρ:Env} {te:WE} {m:Md} {ys:List L2.Q.D} {Q:Md->L2.Q.D->Prop}
theorem Jq:owl (some (some (.ow true (.list ys)))) k=k ys:=rfl
theorem Iw:intD (.int i) k=k i:=rfl
theorem wFz_:wFz te ρ Q=te ρ fun m d=>lU m/\Q .sh d:=rfl
end
end L2.Q.R
namespace L2
open PySem PySem.Spec PyProof.Rows
end L2
namespace L2.Q
open PySem PySem.Spec PyProof.Rows
section
variable {K:PySem.W.Frag} {a:Expr}
def onD (x:D) (f:List (Key × D)->Prop) (g:List (List Key × D)->Prop):Prop:=match x with
 | .dK kvs=>f kvs
 | .dT kvs=>g kvs
 | _=>False
def tupD (y:D) (k:List D->Prop):Prop:=match y with
 | .tup ys=>k ys
 | _=>False
def gotG (o:Option D) (m n:Md) (z:D) (Q:Md->D->Prop):Prop:=match o with
 | some d=>Q (itm m d) d
 | none=>Q n z
def owdT (o:Option (Option Sl)) (k:List (List Key × D)->Prop):Prop:=match o with
 | some (some (.ow true (.dT kvs)))=>k kvs
 | _=>False
theorem d_ {κ β:Type} [DecidableEq κ] (p:κ × β) (r:List (κ × β)) (k:κ):getG (p :: r) k=if p.1=k then some p.2 else getG r k:=by
 by_cases h:p.1=k <;> simp [getG,h]
theorem SRel.place (sr:SRel K Hs ρ σ H tot) (e:ρ[i]? = some (some (.ow fl d))):∃ v,σ[i]? = some (some v)/\Place K Hs H σ fl d v fun fl2 d2=>ρ.set i (some (.ow fl2 d2)):=by
 obtain ⟨v,As,t,e2,ne,r,sb,g⟩:=SR.put i sr.sr e sr.nod
 refine ⟨v,e2,As,r,ne,sb.nodup sr.nod,fun a h=>sr.own a (sb.subset h),fun Hs2 H2 fl2 d2 As2 s2 w2 n2 _ r2 ne2 nd2 o2 st=>?_⟩
 obtain ⟨t2,x,y,z⟩:=g Hs2 H2 fl2 d2 As2 s2 r2 ne2 nd2 (fun a ha m=>(o2 a ha).2.elim id fun q=>absurd q (sr.sr.own a m).ne) fun a ha m=>st a (sr.sr.own a ha).ne m
 exact ⟨t2,z,w2,x,fun a h=>(y a h).elim (fun q=>n2 a (sr.own a q) (sr.sr.own a q).ne) fun q=>(o2 a q).1⟩
end
end L2.Q
namespace L2
open PySem PySem.Spec PyProof.Rows
end L2
namespace L2.Q
open PySem PySem.Spec PyProof.Rows
section
variable {K:PySem.W.Frag} {a b c:Expr}
def owdK (d:D) (k:List (Key × D)->Prop):Prop:=match d with
 | .dK kvs=>k kvs
 | _=>False
theorem SR.take (i:Nat) (s:SR K Hs H ρ σ tot):ρ[i]? = some (some (.ow fl d))->tot.Nodup ->
  ∃ (v:V) (As tot':List Addr),σ[i]? = some (some v)/\RepO K Hs H fl d v As/\As.Sublist tot/\tot'.Sublist tot/\(∀ a∈As,a∉tot')/\SR K Hs H (ρ.set i none) σ tot':=by
 induction s generalizing i with
 | nil=>intro e; simp at e
 | non q ih =>
  intro e n
  cases i with
  | zero=>simp at e
  | succ i =>
   obtain ⟨v,As,t,o,a,b,c,d,f⟩:=ih i e n
   exact ⟨v,As,t,o,a,b,c,d,.non f⟩
 | sh r q ih =>
  intro e n
  cases i with
  | zero=>simp at e
  | succ i =>
   obtain ⟨v,As,t,o,a,b,c,d,f⟩:=ih i e n
   exact ⟨v,As,t,o,a,b,c,d,.sh r f⟩
 | xc q ih =>
  intro e n
  cases i with
  | zero=>simp at e
  | succ i =>
   obtain ⟨v,As,t,o,a,b,c,d,f⟩:=ih i e n
   exact ⟨v,As,t,o,a,b,c,d,.xc f⟩
 | ow ne r q ih =>
  intro e n
  obtain ⟨n1,n2,n3⟩:=xax.mp n
  cases i with
  | zero =>
   simp at e
   obtain ⟨rfl,rfl⟩:=e
   exact ⟨_,_,_,rfl,r,xbd _ _,xau _ _,fun a h m=>n3 a h a m rfl,.non q⟩
  | succ i =>
   obtain ⟨v,As,t,o,a,b,c,d,f⟩:=ih i e n2
   exact ⟨v,As,_,o,a,b.trans (xau _ _),c.append_left _,oN n b d,.ow ne r f⟩
 | lk ne r q ih =>
  intro e n
  obtain ⟨n1,n2,n3⟩:=xax.mp n
  cases i with
  | zero=>simp at e
  | succ i =>
   obtain ⟨v,As,t,o,a,b,c,d,f⟩:=ih i e n2
   exact ⟨v,As,_,o,a,b.trans (xau _ _),c.append_left _,oN n b d,.lk ne r f⟩
end
end L2.Q
namespace L2.Q.R
open PySem PySem.Spec PyProof.Rows L2.Q
section
variable {ys:List L2.Q.D} {Q:Md->L2.Q.D->Prop} {k:Nat}
theorem JK {kvs:List (Key × L2.Q.D)} {k:List (Key × L2.Q.D)->Prop}:owdK (.dK kvs) k=k kvs:=rfl
theorem Ka:onD (.dK kvs) f g=f kvs:=rfl
theorem Ke:onD (.dT kvs) f g=g kvs:=rfl
theorem Ku {k:List L2.Q.D->Prop}:tupD (.tup ys) k=k ys:=rfl
theorem Kq {kvs:List (List Key × L2.Q.D)} {k:List (List Key × L2.Q.D)->Prop}:owdT (some (some (.ow true (.dT kvs)))) k=k kvs:=rfl
end
end L2.Q.R
namespace L2
open PySem PySem.Spec PyProof.Rows
section
variable {X:Cx}
def insL {α:Type} (xs:List α) (k:Nat) (y:α):List α:=xs.take k++y :: xs.drop k
def rIns:V->List V->Hp->VK->Prop:=fun x vs H Q=>∃ l xs i y,x=.ref l/\vs=[.int i,y]/\H l=some (.lst xs)/\0<=i/\i<=sizeLine/\xs.length<sizeLine/\Q .non (upd H l (.lst (insL xs i.toNat y)))
theorem BW {α:Type} (xs:List α) (k:Nat) (y:α):(xs.toArray.extract 0 (min k xs.length)).push y++xs.toArray.extract (min k xs.length)=(insL xs k y).toArray:=by
 apply xb2.mp
 rcases Nat.le_total k xs.length with h | h
 ·rw [xbR h]
  simp [insL]
  exact xbg (by rw [xa4]; lia)
 ·rw [Nat.min_eq_right h]
  simp [insL,xbg h,List.drop_eq_nil_of_le h]
theorem Fe:MtM X "list.insert" rIns:=by
 intro pins s σ H x vs v us Q I rx rv h
 obtain ⟨l,xs,i,y,rfl,rfl,hH,h0,h1,hz,q⟩:=h
 cases rx
 obtain ⟨u,w,rfl,ru,rw'⟩:=rv.two
 obtain ⟨t,rfl⟩:=ru
 obtain ⟨z,its,n,r,hl,e⟩:=I.lstM hH
 have hs:sizeLine<2 ^ 62:=by rw [sizeLine_eq]; decide
 have hfit:¬ (!Builtin.List.listFitsIndex i)=true:=by rw [fitsIndex_both (by lia) (by lia)]; decide
 refine call_meets F.slot_list_insert ⟨_,e,rfl⟩ F.entry_list_insert (F.args_list_insert_3 _ _ _) (AutoSeq1.list_insert_list_int_val_1 l its.toArray n i t w hfit (by rw [xan]; lia)) ⟨e,?_⟩
 have ei:(if i<0 then (i+(its.toArray.size:Int)).toNat else min i.toNat its.toArray.size)=min i.toNat its.length:=by
  rw [if_neg (by lia),xan]
 have rl:Vals (insL xs i.toNat y) (insL its i.toNat w):=(r.take i.toNat).append (.cons rw' (r.drop i.toNat))
 refine ⟨.non,_,I.lset (its':=insL its i.toNat w) hH e ?_ rl ?_,rfl,q⟩
 ·show (its.toArray.extract 0 (if i<0 then (i+(its.toArray.size:Int)).toNat else min i.toNat its.toArray.size)).push w++its.toArray.extract (if i<0 then (i+(its.toArray.size:Int)).toNat else min i.toNat its.toArray.size)=_
  rw [ei]
  exact BW its i.toNat w
 ·unfold insL
  simp
  lia
end
end L2
namespace L2.Q
open PySem PySem.Spec PyProof.Rows
section
variable {X:Cx} {K:PySem.W.Frag} {L:Str->Hp->Prop} {e e2 e3:Expr} {p:WP} {te te2 te3:WE} {apos cpos pos:Pos}
theorem zV:bootBuiltins "int" = some (.type "int"):=by decide +kernel
theorem aA.ins (r:RepO K Hs H fl d v []) (k:Nat) (q:aA K Hs H fl ds vs As):aA K Hs H fl (insL ds k d) (insL vs k v) As:=by
 induction k generalizing ds vs As with
 | zero=>exact aA.cons r q
 | succ k ih =>
  cases ds with
  | nil =>
   obtain ⟨rfl,rfl⟩:=q.n0
   exact aA.cons r .nil
  | cons e ds =>
   obtain ⟨u,us,A,B,rfl,rfl,q,qs⟩:=q.c
   exact aA.cons q (ih qs)
def wIns (p:WP) (tk te:WE):WS:=fun E ρ=>p ρ fun fl d up=>match d with
 | .list xs=>tk ρ fun _ j=>te ρ fun _ x=>match j with
  | .int j=>0<=j/\j<=sizeLine/\xs.length<sizeLine/\x.flat=true/\E.nx (up fl (.list (insL xs j.toNat x)))
  | _=>False
 | _=>False
theorem Dg (ho:QP X K e p) (he:QE X K e2 te2) (he3:QE X K e3 te3) (hK:X.K=K:=by rfl)
  (hbase:attributeBase e "insert" X.env (eval e X.env)=eval e X.env:=by rfl)
  (hfew:((backTo cpos (starEach [e2,e3] X.env)).all (fun x=>!x.1) && (backToKw cpos (keywordEach [] X.env)).all (fun x=>x.1.isSome)
   && decide ([e2,e3].length+([]:List Keyword).length+(if ([]:List Keyword).isEmpty then 0 else 1)<30))=true:=by rfl)
  (hline:(apos.endLine == cpos.line)=true:=by rfl) (hss:starEach (e2 :: [e3]) X.env=(false,eval e2 X.env) :: starEach [e3] X.env:=by rfl) (hs3:starEach (e3 :: []) X.env=(false,eval e3 X.env) :: starEach [] X.env:=by rfl) (hplain:(backTo cpos (starEach [e3] X.env)).any (·.1)=false:=by rfl)
  (hs:swapsWith (.Call (.Attribute e "insert" apos) [e2,e3] [] cpos) none pos.line X.env=pure false:=by rfl) :
  QS X K L (.Expr (.Call (.Attribute e "insert" apos) [e2,e3] [] cpos) pos) (wIns p te2 te3):=by
 subst hK
 refine PS.imp (ps_expr (pe_bm PySem.F.plainAttrs_list PySem.F.slot_list_insert PySem.F.type_list_insert Fe ho (pa_cons he (pa_cons he3 pa_nil hs3) hss) hbase hfew hline hss hplain) hs) fun D σ H hx=>iI hx fun Hs ρ tot E sr h k1 k2 k3 k4=>?_
 refine ⟨Hs,ρ,tot,_,sr,h,fun v H1 Hs1 fl d up g1 p1 q1=>?_⟩
 cases d with
 | list xs =>
  obtain ⟨a1,vs1,e1,s1⟩:=p1.isL g1.wf
  refine ⟨by subst e1; exact .inl ⟨rfl,_,s1⟩,Hs1,ρ,tot,_,sr.grow g1,q1,fun w H2 Hs2 m jd As g2 r2 f2 q2=>⟨Hs2,ρ,tot,_,(sr.grow g1).grow g2,q2,fun y H3 Hs3 m3 x As3 g3 r3 f3 q3=>?_⟩⟩
  have rj:=(r2.grow g3).rep g3.wf
  cases rj with
  | int j =>
   obtain ⟨h0,h1,hz,fx,q3⟩:=q3
   obtain ⟨a,vs,A,ea,e2,e21,rs,nd,hn,k⟩:=p1.put (g2.trans g3)
   obtain ⟨nA,ndA⟩:=xaO.mp nd
   have hl:=rs.length
   refine ⟨a,vs,j,y,ea,rfl,e2,h0,h1,by lia,?_⟩
   obtain ⟨tot2,sr2⟩:=k fl _ _ A id (aA.ins (.sh (fun _=>fx) (r3.flat g3.wf fx)) j.toNat rs) (by unfold insL; simp; lia) ndA nA (fun x hx=>.inl hx)
   exact k1 _ _ Hs3 _ tot2 ((g1.sh.trans g2.sh).trans g3.sh) sr2 q3
  | _=>exact q3.elim
 | _=>exact q1.elim
def wExt (p:WP) (te:WE):WS:=fun E ρ=>p ρ fun fl d up=>match d with
 | .list xs=>te ρ fun m y=>m=.ow true/\match y with
  | .list ys=>flats ys=true/\xs.length+ys.length<=sizeLine/\E.nx (up fl (.list (xs++ys)))
  | _=>False
 | _=>False
theorem wD (ho:QP X K e p) (he:QE X K e2 te) (hK:X.K=K:=by rfl) (hs:swapsWith (.Call (.Attribute e "extend" apos) [e2] [] cpos) none pos.line X.env=pure false:=by rfl)
  (hbase:attributeBase e "extend" X.env (eval e X.env)=eval e X.env:=by rfl)
  (hfew:((backTo cpos (starEach [e2] X.env)).all (fun x=>!x.1) && (backToKw cpos (keywordEach [] X.env)).all (fun x=>x.1.isSome)
   && decide ([e2].length+([]:List Keyword).length+(if ([]:List Keyword).isEmpty then 0 else 1)<30))=true:=by rfl)
  (hline:(apos.endLine == cpos.line)=true:=by rfl) (hss:starEach (e2 :: []) X.env=(false,eval e2 X.env) :: starEach [] X.env:=by rfl) (hplain:(backTo cpos (starEach [] X.env)).any (·.1)=false:=by rfl) :
  QS X K L (.Expr (.Call (.Attribute e "extend" apos) [e2] [] cpos) pos) (wExt p te):=by
 subst hK
 refine PS.imp (ps_expr (pe_bm PySem.F.plainAttrs_list PySem.F.slot_list_extend PySem.F.type_list_extend mt_extend ho (pa_cons he pa_nil hss) hbase hfew hline hss hplain) hs) fun D σ H hx=>iI hx fun Hs ρ tot E sr h k1 k2 k3 k4=>?_
 refine ⟨Hs,ρ,tot,_,sr,h,fun v H1 Hs1 fl d up g1 p1 q1=>?_⟩
 cases d with
 | list xs =>
  obtain ⟨a1,vs1,e1,s1⟩:=p1.isL g1.wf
  refine ⟨by subst e1; exact .inl ⟨rfl,_,s1⟩,Hs1,ρ,tot,_,sr.grow g1,q1,fun y H2 Hs2 m x As g2 r2 f2 q2=>?_⟩
  obtain ⟨rfl,q2⟩:=q2
  obtain ⟨a,vs,A,ea,e2,e21,rs,nd,hn,k⟩:=p1.put g2
  obtain ⟨r,ne⟩:=r2
  cases r with
  | sh _ _=>exact absurd rfl ne
  | list hz e3 rs2 =>
   obtain ⟨fy,hl,q2⟩:=q2
   obtain ⟨nA,ndA⟩:=xaO.mp nd
   have l1:=rs.length
   have l2:=rs2.length
   refine ⟨a,_,vs,_,ea,rfl,e2,e3,by lia,?_⟩
   obtain ⟨tot2,sr2⟩:=k fl (xs++_) (vs++_) (A++[]) id (rs.append (Reps.owned ((rs2.reps g2.wf.sub fun _ _=>rfl).jk g2.wf.tups fy) fy)) (by rw [xaD]; lia) (by simpa using ndA) (by simpa using nA) (fun x hx=>.inl (by simpa using hx))
   exact k1 _ _ Hs2 _ tot2 (g1.sh.trans g2.sh) sr2 q2
  | _=>exact q2.elim
 | _=>exact q1.elim
end
end L2.Q
namespace L2.Q.R
open PySem PySem.Spec PyProof.Rows L2.Q
section
variable {ρ:Env} {E:rD} {te tk:WE} {m:Md} {Q:Md->L2.Q.D->Prop} {p:WP} {xs ys:List L2.Q.D} {k:List L2.Q.D->Prop}
def lstD (d:L2.Q.D) (k:List L2.Q.D->Prop):Prop:=match d with
 | .list xs=>k xs
 | _=>False
theorem KD:lstD (.list xs) k=k xs:=rfl
theorem J3:wIns p tk te E ρ=p ρ fun fl d up=>onK d (f:=fun d=>lstD d fun xs=>tk ρ fun _ j=>te ρ fun _ x=>onK j (f:=fun j=>intD j fun j=>0<=j/\j<=sizeLine/\xs.length<sizeLine/\x.flat=true/\E.nx (up fl (.list (insL xs j.toNat x)))) ⟨⟩) ⟨⟩:=rfl
theorem Kg:wExt p te E ρ=p ρ fun fl d up=>onK d (f:=fun d=>lstD d fun xs=>te ρ fun m y=>m=.ow true/\onK y (f:=fun y=>lstD y fun ys=>flats ys=true/\xs.length+ys.length<=sizeLine/\E.nx (up fl (.list (xs++ys)))) ⟨⟩) ⟨⟩:=rfl
theorem I_:gotG (some d) m n z Q=Q (itm m d) d:=rfl
theorem HQ:gotG none m n z Q=Q n z:=rfl
end
end L2.Q.R
namespace L2
open PySem PySem.Spec PyProof.Rows
theorem uZ {ns:List Int}:∀ {us:List Value},Vals (ns.map V.int) us->∃ ts:List Tok,us=(ns.zip ts).map (fun p=>Value.int p.1 p.2)/\ts.length=ns.length:=by
 induction ns with
 | nil=>intro us h; cases h; exact ⟨[],rfl,rfl⟩
 | cons n ns ih =>
  intro us h
  cases h with
  | cons a b =>
   obtain ⟨ts,rfl,e⟩:=ih b
   obtain ⟨t,rfl⟩:=a
   exact ⟨t :: ts,rfl,by simp [e]⟩
theorem vN {ns:List Int} {its:List Value} (r:Vals (ns.map V.int) its) (l:List Value) (h:∀ v∈l,v∈its):∃ ms:List Int,Vals (ms.map V.int) l/\∀ m∈ms,m∈ns:=by
 obtain ⟨ts,ei,et⟩:=uZ r
 induction l with
 | nil=>exact ⟨[],.nil,fun m hm=>nomatch hm⟩
 | cons v l ih =>
  obtain ⟨ms,a,b⟩:=ih fun u hu=>h u (xaf _ hu)
  have hv:=h v xah
  rw [ei] at hv
  obtain ⟨p,hp,rfl⟩:=xai.mp hv
  refine ⟨p.1 :: ms,.cons ⟨_,rfl⟩ a,fun m hm=>?_⟩
  rcases xaj.mp hm with rfl | hm
  ·exact (xcs hp).1
  ·exact b m hm
end L2
namespace L2.Q
open PySem PySem.Spec PyProof.Rows
section
variable {X:Cx} {K:PySem.W.Frag} {e:Expr} {te:WE} {pos:Pos}
theorem yS {es rest:List Expr}:starEach (.Tuple es k p :: rest) env=(false,eval (.Tuple es k p) env) :: starEach rest env:=by rfl
def shA (m:Md) (P:Prop):Prop:=match m with
 | .sh=>P
 | _=>False
def CT (te:WE) (g:WG):WS:=fun E ρ=>te ρ fun m d=>shA m (g d ρ E.nx)
theorem Bx (he:QE X K e te) (hg:QG X K tg g) (hs:swapsWithSole [tg] e pos.line X.env=pure false:=by rfl) (hw:swappedStores [tg] e X.env=pure none:=by rfl)
  (h1:(assignEach [tg] X.env).map (·.2)=[assign tg X.env]:=by rfl) (hK:X.K=K:=by rfl):QS X K L (.Assign [tg] e pos) (CT te g):=by
 subst hK
 refine PS.imp (ps_asg he hg hs hw h1) fun D σ H hx=>iI hx fun Hs ρ tot E sr h k1 k2 k3 k4=>?_
 refine ⟨Hs,ρ,tot,_,sr,h,fun v H1 Hs1 m d As g1 r1 f1 q1=>?_⟩
 unfold shA at q1
 split at q1
 ·exact ⟨Hs1,ρ,tot,d,E.nx,sr.grow g1,r1.2,q1,fun σ' ρ' tot' s _ q=>k1 σ' H1 Hs1 ρ' tot' g1.sh s q⟩
 ·exact q1.elim
end
end L2.Q
namespace L2.Q.R
open PySem PySem.Spec PyProof.Rows L2.Q
theorem Jh:CT te g E ρ=te ρ fun m d=>onK (m,d) (f:=fun p=>shA p.1 (g p.2 ρ E.nx)) ⟨⟩:=rfl
theorem HX {P:Prop}:shA .sh P=P:=rfl
end L2.Q.R
namespace L2
open PySem PySem.Spec PyProof.Rows
theorem xQ (a b:Int) (n:Nat) (h0:0<=a) (h1:b<=n):3 * (sliceRange a b 3).length<=n+2:=by
 unfold sliceRange
 simp only [xac,xbq]
 by_cases hab:a<b
 ·simp only [show (3:Int)>0 by decide,hab,if_true]
  lia
 ·simp only [show (3:Int)>0 by decide,hab,if_true,if_false]
  simp
theorem uQ (items:Array Value) (lo hi:Option Int):3 * (slicePick items lo hi (some 3)).size<=items.size+2:=by
 unfold slicePick
 rw [xan]
 refine xaB (Nat.mul_le_mul_left 3 (List.length_filterMap_le _ _)) ?_
 have e:(sliceBounds lo hi (some 3) items.size).2.2=3:=rfl
 rw [e]
 refine xQ _ _ _ ?_ ?_
 ·simp only [sliceBounds]
  cases lo with
  | none=>simp
  | some i=>simp; lia
 ·simp only [sliceBounds]
  cases hi with
  | none=>simp
  | some i=>simp; lia
def Gn (K:PySem.W.Frag) (te:TE) (tl th ts:TO):TE:=fun σ H Q=>te σ H fun x H1=>tl σ H1 fun _ H2=>th σ H2 fun _ H3=>ts σ H3 fun k H4 =>
 ∃ a,∃ ns:List Int,x=.ref a/\k=some 3/\SqL K H4 a (ns.map V.int)/\∀ p (ms:List Int),H4 p=none->(∀ m∈ms,m∈ns)->3 * ms.length<=ns.length+2->Q (.ref p) (upd H4 p (.lst (ms.map V.int)))
section
variable {X:Cx} {e st:Expr} {te:TE} {lo hi:Option Expr} {tl th ts:TO} {pos p2:Pos}
theorem uY (he:PE X e te) (hl:PO X lo tl) (hu:PO X hi th) (ht:PO X (some st) ts):PE X (.Subscript e (.Slice lo hi (some st) p2) pos) (Gn X.K te tl th ts):=by
 intro pins s σ H Q I h
 refine Subscript_ (thn (he pins s σ H _ I h) fun v s1 hx5=>L2.ex2 hx5 fun x H1 I1 r1 q1=>?_)
 refine wpAny_Slice (thn (hl pins s1 σ H1 _ I1 q1) fun vl s2 hx5=>L2.ex2 hx5 fun l H2 I2 pl q2=>thn (hu pins s2 σ H2 _ I2 q2) fun vu s3 hx5=>L2.ex2 hx5 fun u H3 I3 pu q3=>thn (ht pins s3 σ H3 _ I3 q3) fun vs s4 hx5=>L2.ex2 hx5 fun k H4 I4 ps q4=>?_)
 obtain ⟨a,ns,rfl,rfl,hq,q⟩:=q4
 cases r1
 have I5:Inv X pins σ H4 { s4 with heap:=s4.heap.push { cls:=.type "slice",data:=.fields #[vl,vu,vs] } }:=I4.kept (t':=s4.toks) fun b ob q=>xad _ q
 obtain ⟨its,r,pl',hz⟩:=I5.list hq
 have hlen:its.length=ns.length:=by have:=r.length; simpa using this.symm
 obtain ⟨ms,vm,mm⟩:=vN r (slicePick its.toArray l u (some 3)).toList fun v hv=>by
  unfold slicePick at hv
  obtain ⟨i,_,e⟩:=xb9.mp hv
  have:=Array.mem_of_getElem? e
  simpa using this
 have hz':its.length<=sizeLine:=by rw [hlen]; simpa using hz
 have hsz:(slicePick its.toArray l u (some 3)).size<=its.length:=by have:=slicePick_size_le its.toArray l u (some 3); simpa using this
 have hml:ms.length=(slicePick its.toArray l u (some 3)).size:=by
  have:=vm.length
  rw [xac] at this
  rw [this,xaK]
 show wpAny (model X.prog X.w) X.A (subscriptTail e (.Slice lo hi (some st) p2) (.ref a) (.ref s4.heap.objs.size)) (EP X pins σ Q) X.xe { s4 with heap:=s4.heap.push { cls:=.type "slice",data:=.fields #[vl,vu,vs] } }
 refine tail_any (ops:=[.ref a,.ref s4.heap.objs.size]) pl'.isList.typeIs PySem.slot_list_getitem.lookup ?_ (by with_unfolding_all rfl)
 refine wpAny_getItem_list_slice pl'.isList (Heap.IsSliceOf.new ..) pl pu ps (by decide) ?_ (by rw [xan,hlen]; rwa [xac] at hz)
 have I6:=I5.lnew (its:=(slicePick its.toArray l u (some 3)).toList) (t':=s4.toks) vm (by rw [xac,hml]; exact xaB hsz hz')
 refine ⟨.ref _,_,?_,rfl,q _ ms (I5.hok.fresh (xae _)) mm (by rw [hml,<- hlen]; have:=uQ its.toArray l u; simpa using this)⟩
 simpa using I6
end
end L2
namespace L2.Q
open PySem PySem.Spec PyProof.Rows
section
variable {X:Cx} {K:PySem.W.Frag} {e st:Expr} {te:WE} {lo hi:Option Expr} {tl th ts:WO} {pos p2:Pos}
def Bm (te:WE) (tl th ts:WO):WE:=fun ρ Q=>te ρ fun _ x=>tl ρ fun _=>th ρ fun _=>ts ρ fun k=>R.lstD x fun xs=>k=some 3/\∃ ns:List Int,xs=ns.map .int/\∀ ms:List Int,(∀ m∈ms,m∈ns)->3 * ms.length<=ns.length+2->Q (.ow true) (.list (ms.map .int))
theorem v_ (he:QE X K e te) (hl:QO X K lo tl) (hh:QO X K hi th) (ht:QO X K (some st) ts) (hK:X.K=K:=by rfl):QE X K (.Subscript e (.Slice lo hi (some st) p2) pos) (Bm te tl th ts):=by
 subst hK
 refine PE.imp (uY he hl hh ht) fun σ H Qv hx=>ex4 hx fun Hs ρ tot Q sr h f=>?_
 refine ⟨Hs,ρ,tot,_,sr,h,fun v H1 Hs1 m x As g1 r1 f1 q1=>⟨Hs1,ρ,tot,_,sr.grow g1,q1,fun l H2 Hs2 g2 q2=>⟨Hs2,ρ,tot,_,(sr.grow g1).grow g2,q2,fun u H3 Hs3 g3 q3=>⟨Hs3,ρ,tot,_,((sr.grow g1).grow g2).grow g3,q3,fun k H4 Hs4 g4 q4=>?_⟩⟩⟩⟩
 have r4:=((r1.grow g2).grow g3).grow g4
 have fin:Fin X.K Hs4 H4 Q Qv:=Fin.after f (((g1.trans g2).trans g3).trans g4)
 have rr:=r4.rep g4.wf
 cases rr with
 | list z s q =>
  obtain ⟨rfl,ns,rfl,q4⟩:=q4
  have ev:=zH q
  subst ev
  refine ⟨_,ns,rfl,rfl,s,fun p ms hp mm hl=>?_⟩
  have hz:=q.length
  simp only [xac] at hz z
  exact fin.lst g4.wf (by rw [xac]; lia) (ints_rep ms) (lu.mpr fun x hx=>by obtain ⟨i,_,rfl⟩:=xai.mp hx; rfl) (q4 ms mm hl) p hp
 | _=>exact q4.elim
end
end L2.Q
namespace L2.Q.R
open PySem PySem.Spec PyProof.Rows L2.Q
theorem Ik {te:WE} {tl th ts:WO} {ρ:L2.Q.Env} {Q:Md->L2.Q.D->Prop}:Bm te tl th ts ρ Q=te ρ fun _ x=>tl ρ fun _=>th ρ fun _=>ts ρ fun k=>onK x (f:=fun x=>lstD x fun xs=>k=some 3/\∃ ns:List Int,xs=ns.map .int/\∀ ms:List Int,(∀ m∈ms,m∈ns)->3 * ms.length<=ns.length+2->Q (.ow true) (.list (ms.map .int))) ⟨⟩:=rfl
end L2.Q.R
namespace L2.Q
open PySem PySem.Spec PyProof.Rows PySem.W
abbrev WX:=Env->(Md->D->Prop)->(Str->Prop)->Prop
def tpX (K:PySem.W.Frag) (rn:List Str) (mg:Str->Option Value) (E1:XK) (σ0:St) (t:WX):TE:=fun σ H Qv=>σ=σ0/\∃ Hs ρ tot Q Y,SRel K Hs ρ σ H tot/\t ρ Q Y /\
 (∀ v H' Hs' m d As,Grow Hs H Hs' H'->RM K Hs' H' m d v As->cV Hs' H As->Q m d->Qv v H')/\∀ n H',Same H H'->Y n->LX rn mg E1 n H'
def xJ (rn:List Str) (X:Cx) (σ0:St) (E1:XK):Prop:=∀ pins H s e s',Inv X pins σ0 H s->CXx X.prog X.w X.mg rn X.stack H s E1 e s'->X.xe e s'
def Dy (sp:SpD) (t:WA):WX:=fun ρ Q Y=>t ρ fun ps=>sp (ps.map (·.2)) fun m d=>xch m d Y (onK (m,d) (f:=fun p=>Q (retM p.1 p.2) p.2) ⟨⟩)
def Af (c:D) (sp:SpD) (t:WA):WX:=fun ρ Q Y=>t ρ fun ps=>sp (ps.map (·.2)) fun m d=>xch m d Y (onK (m,d) (f:=fun p=>c.flat=true/\retM p.1 p.2=.ow true/\p.2.flat=false/\Q (.ow true) (.tup [c,p.2])) ⟨⟩)
section
variable {X:Cx} {K:PySem.W.Frag} {rn:List Str} {E:XK} {σ0:St} {e c:Expr} {es:List Expr} {t:WA} {ta:TA} {pos p cpos:Pos} {k:Nat} {x:Str} {ps:List Str} {sp:SpD}
theorem wj (C:CalX X.prog X.w X.K X.mg X.base rn k x ps sp) (hr:Room k X.A) (hx:xJ rn X σ0 E) (ha:PA X (e :: es) ta) (hg:Gl X x) (hdb:(x == ("__debug__" : Str))=false) (he:starEach (e :: es) X.env=(false,eval e X.env) :: starEach es X.env)
  (hpl:(backTo pos (starEach es X.env)).any (·.1)=false):PE X (.Call (.Name x p) (e :: es) [] pos) (fun σ H Q=>σ=σ0/\tCall (dq X.K rn X.mg sp) [] E ta σ H Q):=by
 intro pins s σ H Q I ⟨e0,h⟩
 subst e0
 obtain ⟨g,fd,hm,hk,hb,F⟩:=C.ex
 refine wpAny_Call_Name_kw (ld_glob I hg hm ?_ hdb)
 refine PySem.W.callWith_K (h₀:=X.base) I.ok.mod.kin hk (thn (ha pos pins s σ H _ I h) fun us s1 hx5=>L2.ex2 hx5 fun vs H1 I1 r q=>⟨I1.kIn,?_⟩) he hpl
 have r2:Vals (vs++[]) (us++[]):=r.append .nil
 have hl:(us++[]).length=ps.length:=by rw [<- r2.length]; exact F.len _ _ _ _ q
 refine wpAny_call (codeAny_mono (F.run X.A X.stack s1 H1 ⟨us,[]⟩ (us++[]) (vs++[]) Q E hr I1.env0 (hb s1 us I1.kIn hl) r2 q) fun r s' hq=>?_)
 cases r with
 | error e=>exact hx pins H1 s1 e s' I1 hq
 | ok fl =>
  cases fl with
  | ret u=>exact I1.after hq
  | next=>exact False.elim hq
  | brk=>exact False.elim hq
  | cont=>exact False.elim hq
theorem sH {σ:St} {H:Hp} {Qv:VK} {Hs:Hp} {ρ:Env} {tot:List Addr} {Y:Str->Prop} {N:Md->D->Prop} (sr:SRel K Hs ρ σ H tot) (h:t ρ fun ps=>sp (ps.map (·.2)) fun m d=>xch m d Y (N m d))
  (f:∀ v H1 Hs1 H' Hs' m d As,Grow Hs H Hs1 H1->Same H1 Hs'->Wf Hs' H'->RM K Hs' H' m d v As->As.Nodup->(∀ a∈As,Hs' a=none)->N m d->Qv v H') (fx:∀ n H',Same H H'->Y n->LX rn X.mg E n H'):tCall (dq K rn X.mg sp) [] E (tpA K t) σ H Qv:=by
 refine ⟨Hs,ρ,tot,_,sr,h,fun vs H1 Hs1 ps As g1 r1 f1 q1=>?_⟩
 exact ⟨_,_,by rw [xaF]; exact r1.reps g1.wf,q1,fun v H' Hs' m d As s w r nd own q=>f v H1 Hs1 H' Hs' m d As g1 s w r nd own (wV r q),fun n H' s q=>fx n H' (g1.all.trans s) q⟩
theorem D_ {c0:D} {v0:V} {x1:Nat} (hc:PE X c (tC v0)) (hc0:∀ H,Rep K H c0 v0) (C:CalX X.prog X.w X.K X.mg X.base rn k x ps sp) (hr:Room k X.A) (hx:xJ rn X σ0 E) (ha:QA X K (e :: es) t) (hK:X.K=K:=by rfl) (hg:Gl X x:=by rfl) (hdb:(x == ("__debug__" : Str))=false:=by decide) (he:starEach (e :: es) X.env=(false,eval e X.env) :: starEach es X.env:=by rfl)
  (hpl:(backTo cpos (starEach es X.env)).any (·.1)=false:=by rfl) (hs1:starEach (c :: [.Call (.Name x p) (e :: es) [] cpos]) X.env=(false,eval c X.env) :: starEach [.Call (.Name x p) (e :: es) [] cpos] X.env:=by rfl) (hs2:starEach (.Call (.Name x p) (e :: es) [] cpos :: []) X.env=(false,eval (.Call (.Name x p) (e :: es) [] cpos) X.env) :: starEach [] X.env:=by rfl) :
  PE X (.Tuple [c,.Call (.Name x p) (e :: es) [] cpos] x1 pos) (tpX K rn X.mg E σ0 (Af c0 sp t)):=by
 subst hK
 refine PE.imp (pe_tup (pa_cons hc (pa_cons (wj C hr hx ha hg hdb he hpl) pa_nil hs2) hs1)) fun σ H Qv hx9=>?_
 obtain ⟨e0,Hs,ρ,tot,Q,Y,sr,h,f,fx⟩:=hx9
 refine ⟨e0,sH sr h (fun v H1 Hs1 H' Hs' m d As g1 s w r nd own q=>?_) fx⟩
 obtain ⟨fc,em,fd,q⟩:=q
 obtain ⟨As',r',fr⟩:=pU g1.wf s w r nd own
 rw [show retM m d=.ow true from em] at r'
 obtain ⟨ro,ne⟩:=r'
 have g2:=dR g1.wf s w
 refine ⟨(by decide:2<=sizeLine),fun p hp=>?_⟩
 have g3:=newT (vs:=[v0,v]) g2.wf hp
 have hnp:∀ a∈As',a≠p:=fun a ha z=>by
  have:=(ro.own a ha).ne
  rw [z,hp] at this
  exact this rfl
 refine Fin.after f g1 (.ref p) _ _ (.ow true) (.tup [c0,d]) As' (g2.trans g3) ⟨?_,ne⟩ ⟨fr.1,fun a ha=>⟨by rw [upd_ne (hnp a ha)]; exact (fr.2 a ha).1,(fr.2 a ha).2⟩⟩ q
 have h2:=ro.stay (H':=upd H' p (.tup [v0,v])) g3.sh fun a ha=>upd_ne (hnp a ha)
 have h1:RepO X.K (upd (jH Hs1 H1 Hs' H') p (.tup [v0,v])) (upd H' p (.tup [v0,v])) true c0 v0 []:=.sh (fun _=>fc) (hc0 _)
 have:=RepO.tup (K:=X.K) (fl:=true) (a:=p) (vs:=[v0,v]) (ds:=[c0,d]) (show 2<=sizeLine by decide) upd_same (by simp [flats,fd]) (.cons h1 (.cons h2 .nil))
 simpa using this
def yF (i:Nat) (wb:WX) (R:Str) (hd:WS):WS:=fun E ρ=>wb ρ (fun m d=>match asg m d with
 | some sl=>E.nx (ρ.set i (some sl))
 | none=>False) fun n=>n=R/\hd E ρ
theorem B_ {L:Str->Hp->Prop} {R y:Str} {i:Nat} {suite:List Stmt} {b₀:Stmt} {np hpos apos pos':Pos} {wb:WX} {hd:WS}
  (xr:Fz X.K X.mg [R] R) (hN:X.N.Nodup) (hi:X.N[i]? = some y) (hy:Loc X.env.scope y) (hst:X.stack=X.env :: X.outer) (hf:X.env.frame=some X.env.locals)
  (hb:∀ pn xe E1 σ0,xJ rn (gM X pn xe) σ0 E1->PE (gM X pn xe) e (tpX K rn X.mg E1 σ0 wb))
  (hh:∀ pn a,QSs (inHand X pn a) K L (b₀ :: suite) hd) (hg:Gl X R:=by rfl) (hdb:(R == ("__debug__" : Str))=false:=by decide)
  (hs:swapsWith e (some (.Name y pos')) apos.line X.env=pure false:=by rfl) (hfn:X.fn y=true\/X.env.scope.names.lookup y=some .local:=by first | exact .inl rfl | exact .inr rfl | assumption) :
  QS X K L (.Try [.Assign [.Name y pos'] e apos] [.ExceptHandler (some (.Name R np)) none (b₀ :: suite) hpos] [] [] pos) (yF i wb R hd):=by
 intro pins s σ H D I hx
 obtain ⟨Hs,ρ,tot,E,sr,h,k1,k2,k3,k4,kx⟩:=hx
 obtain ⟨r,hm,xr,sub⟩:=xr.ex
 have sp0:∀ p∈X.pn++pins,p∈(X.pn++pins)++[]:=fun p hp=>by rw [xaF]; exact hp
 have hbody:=pss_one (ps_set (X:=gM X (X.pn++pins) (fun e s'=>∃ pins' H1 s1,Inv (gM X (X.pn++pins) X.xe) pins' σ H1 s1/\CXx X.prog X.w X.mg rn X.stack H1 s1 (fun c _ H'=>X.mg R=some c/\Same H H'/\hd E ρ) e s')) hN hi hy (hb (X.pn++pins) _ (fun c _ H'=>X.mg R=some c/\Same H H'/\hd E ρ) σ
  (fun pins' H1 s1 e s' I1 c=>⟨pins',H1,s1,Inv.Ha I1,c⟩)) hs hfn) [] s σ H D (Inv.gM I fun p hp=>I.pin p (by rw [xaF] at hp; exact hp))
  ⟨rfl,Hs,ρ,tot,_,_,sr,h,fun v H' Hs' m d As g1 r1 f1 q1=>?_,fun n H' s2 q hn C hC=>⟨by rw [<- q.1]; exact hC,s2,q.2⟩⟩
 ·refine wpAny_Try_except (xaZ hbody (fun f s1 hs=>?_) fun e s' hx=>?_)
  ·have hs:=SP.mV hs sp0
   cases f with
   | next =>
    obtain ⟨σ',H',I',q⟩:=hs
    exact pss_nil pins s1 σ' H' D I' q
   | brk=>exact hs
   | cont=>exact hs
   | ret u=>exact hs
  ·obtain ⟨pins',H1,s1,I1,a,n',C,a0,H',B,rfl,hn',os,bare,un,hok,fly,cov,fr,hm2,sm,hq⟩:=hx
   obtain ⟨xc,hsub⟩:=sub R C (xaV.mpr rfl) hm2
   obtain ⟨hh',g',d',t',os'⟩:=s'
   obtain rfl:os'=s1.os:=os
   have fly1:Heap.FlyingW B (X.env :: X.outer) a (.ref C) a0 hh':=hst ▸ fly
   have th:∀ b o,s1.heap.get? b=some o->∃ o',hh'.get? b=some o':=fun b o e=>un.there b o e (by simp)
   refine wpAny_looks_onW (hst ▸ I.ok.frames) hf fly1 fun h4 held up4=>wpAny_landsW held fun h5 fly5 up5=>?_
   have mv5:eO (frs X.stack) H' s1.heap hh' h5:=eO.of cov fly5.1 (up4.trans up5) fly.2.2.1
   have cov5:=cov.next mv5 hok th
   have un5:=mv5.un un
   have hok5:=mv5.hok fr hok
   have I5:Inv (gM X (X.pn++pins) X.xe) pins' σ H' ⟨h5,g',d',t',s1.os⟩:=I1.call (h':=h5) (g':=g') (d':=d') (t':=t') (ch:=[]) un5 hok5 bare (fun b z=>absurd z (by simp))
   refine wpAny_handleBy_cons (codeAny_handlers_test ?_) (by intro q; cases q)
   refine ld_glob (X:=inHand X (X.pn++pins) a) (pins:=pins') (Inv.inHand I5 fun p hp=>I5.pin p hp) hg hm ?_ hdb
   refine rM xc xr hsub I5.kIn fly5.there (codeAny_handlers_suite ?_)
   refine lands_againW fly5 fun h6 fly6 up6=>?_
   have ff5:h5.FunFrames B X.stack:=hst ▸ fly5.2.2.1
   have mv6:eO (frs X.stack) H' s1.heap h5 h6:=eO.of cov5 fly6.1 up6 ff5
   have un6:=mv6.un un5
   have hok6:=mv6.hok fr hok5
   have I6:Inv (gM X (X.pn++pins) X.xe) pins' σ H' ⟨h6,g',d',t',s1.os⟩:=I1.call (h':=h6) (g':=g') (d':=d') (t':=t') (ch:=[]) un6 hok6 bare (fun b z=>absurd z (by simp))
   have I6h:Inv (inHand X (X.pn++pins) a) [] σ H' ⟨h6,g',d',t',s1.os⟩:=Inv.inHand I6 fun p hp=>by
    rw [xaF] at hp
    exact I6.pin p (xav _ hp)
   have gr:=dR sr.wf sm ⟨Same.refl H',fun _ _ e=>e⟩
   refine xaZ (hh (X.pn++pins) a [] _ σ H' D I6h ⟨_,ρ,tot,E,sr.grow gr,hq,fun σ' H2 Hs2 ρ' tot' s2=>k1 σ' H2 Hs2 ρ' tot' (gr.sh.trans s2),fun σ' H2 Hs2 ρ' tot' s2=>k2 σ' H2 Hs2 ρ' tot' (gr.sh.trans s2),fun σ' H2 Hs2 ρ' tot' s2=>k3 σ' H2 Hs2 ρ' tot' (gr.sh.trans s2),
    fun v H2 Hs2 m d As s2=>k4 v H2 Hs2 m d As (gr.sh.trans s2),fun n H2 s2=>kx n H2 (gr.sh.trans s2)⟩) (fun f s8 hs=>?_) fun _ _ z=>z.elim
   have out:∀ {σ8 H8},Inv (inHand X (X.pn++pins) a) [] σ8 H8 s8->Inv X pins σ8 H8 s8:=fun I8=>Inv.Cm I8 I.ok.hd fun p hp=>by rw [xaF]; exact hp
   cases f with
   | next=>obtain ⟨σ8,H8,I8,q⟩:=hs; exact ⟨σ8,H8,out I8,q⟩
   | brk=>obtain ⟨σ8,H8,I8,q⟩:=hs; exact ⟨σ8,H8,out I8,q⟩
   | cont=>obtain ⟨σ8,H8,I8,q⟩:=hs; exact ⟨σ8,H8,out I8,q⟩
   | ret u=>obtain ⟨v,σ8,H8,I8,rv,q⟩:=hs; exact ⟨v,σ8,H8,out I8,rv,q⟩
 ·have q1:match asg m d with
   | some sl=>E.nx (ρ.set i (some sl))
   | none=>False:=q1
  cases ea:asg m d with
  | none=>rw [ea] at q1; exact q1.elim
  | some sl =>
   rw [ea] at q1
   obtain ⟨tot',s'⟩:=(sr.grow g1).set i r1 f1.1 (fun a ha=>⟨(f1.2 a ha).1,fun m=>(sr.sr.own a m).ne (f1.2 a ha).2⟩) ea
   exact k1 _ H' Hs' _ tot' g1.sh s' q1
end
end L2.Q
namespace L2.Q.R
open PySem PySem.Spec PyProof.Rows L2.Q
section
variable {ρ:L2.Q.Env} {E:rD} {i:Nat} {R:Str} {hd:WS} {sp:SpD} {t:WA} {c:L2.Q.D}
theorem Hf:yF i (Dy sp t) R hd E ρ=t ρ fun ps=>sp (ps.map (·.2)) fun m d=>xch m d (fun n=>n=R/\hd E ρ) (onK (m,d) (f:=fun p=>onK (asg (retM p.1 p.2) p.2) (f:=fun o=>put o fun sl=>E.nx (ρ.set i (some sl))) ⟨⟩) ⟨⟩):=rfl
theorem Hd:yF i (Af c sp t) R hd E ρ=t ρ fun ps=>sp (ps.map (·.2)) fun m d=>xch m d (fun n=>n=R/\hd E ρ) (onK (m,d) (f:=fun p=>c.flat=true/\retM p.1 p.2=.ow true/\p.2.flat=false/\E.nx (ρ.set i (some (.ow true (.tup [c,p.2]))))) ⟨⟩):=rfl
end
end L2.Q.R
namespace L2.Q
open PySem PySem.Spec PyProof.Rows
def gLst (K:PySem.W.Frag) (n:Nat) (t:TGs):TG:=fun v σ H Q=>∃ a xs,v=.ref a/\SqL K H a xs/\xs.length=n/\t xs σ H Q
def gL (n:Nat) (gs:WGs):WG:=fun d ρ Q=>match d with
 | .list ds=>ds.length=n/\gs ds ρ Q
 | _=>False
section
variable {X:Cx} {K:PySem.W.Frag} {es:List Expr} {gs:WGs} {pos:Pos}
theorem Ei {k:Nat} {t:TGs} {n:Nat} (hc:X.calm=true) (h:PGs X es t)
  (hn:(assignEach es X.env).length=n:=by rfl) (hst:(assignEach es X.env).findIdx? (·.1)=none:=by rfl):PG X (.Tuple es k pos) (gLst X.K n t):=by
 intro pins s σ H v u Q I r hw
 obtain ⟨a,xs,e1,hq,hl,hw⟩:=hw
 subst e1
 cases r
 obtain ⟨its,rv,⟨o,m,ho,hcl,hdi,hd⟩,hz⟩:=I.list hq
 rw [assign_Tuple]
 refine xaa (wpAny_standAt ?_)
 unfold unpack
 rw [hst,show (assignEach es X.env).length=its.toArray.size by simp [hn,<- hl,rv.length]]
 refine xaa (wpAny_holding (PySem.W.kun_itemsOf (I.ok.hd hc) ⟨o,ho,hcl,m,hd⟩ fun h' hx=>?_))
 have I1:Inv X pins σ H { s with heap:=h' }:=I.kept (t':=s.toks) fun b o e=>hx b o (xar (xal e)) e
 exact h pins _ σ H xs _ Q I1 (by simpa using rv) hw
theorem Dc {k n:Nat} (hc:X.calm=true) (h:QGs X K es gs) (hn:(assignEach es X.env).length=n:=by rfl) (hst:(assignEach es X.env).findIdx? (·.1)=none:=by rfl) (hK:X.K=K:=by rfl):QG X K (.Tuple es k pos) (gL n gs):=by
 subst hK
 refine PG.imp (Ei hc h hn hst) fun v σ H Qv hx9=>?_
 obtain ⟨Hs,ρ,tot,d,Q,sr,r,h,k⟩:=hx9
 cases r with
 | list z s rs=>exact ⟨_,_,rfl,Same.lst sr.wf.sub s,by rw [<- rs.length]; exact h.1,Hs,ρ,tot,_,Q,sr,rs,h.2,k⟩
 | _=>exact h.elim
end
theorem jx {X:Cx} {K:PySem.W.Frag} {a b c:Int} {k k1 k2 k3:Nat} {pos p1 p2 p3:Pos} {es:List Expr} {t:WA} (hr:QA X K es t):QA X K (.Tuple [.Constant (.int a) k1 p1,.Constant (.int b) k2 p2,.Constant (.int c) k3 p3] k pos :: es) (ak (wTup (ak (wC (.int a)) (ak (wC (.int b)) (ak (wC (.int c)) wNil)))) t):=aa (cL (aa ao (aa ao (aa ao aq)))) hr (hs:=yS)
theorem yM {X:Cx} {K:PySem.W.Frag} {L:Str->Hp->Prop} {es:List Expr} {t:WA} {i:Nat} {x:Str} {p1 pos pos':Pos} {rest:List Stmt} {u:WS} (hN:X.N.Nodup) (hi:X.N[i]? = some x) (hx:Loc X.env.scope x) (hl:QA X K es t) (hs:swapsWith (.List es p1) (some (.Name x pos')) pos.line X.env=pure false) (hf:X.fn x=true\/X.env.scope.names.lookup x=some .local) (hr:QSs X K L rest u):QSs X K L (.Assign [.Name x pos'] (.List es p1) pos :: rest) (wSeq (wSet i (wLst t)) u):=aj (aF hN hi hx (fH hl) hs hf) hr
end L2.Q
namespace L2.Q.R
open PySem PySem.Spec PyProof.Rows L2.Q
theorem gL_ {n:Nat} {gs:WGs} {d:L2.Q.D} {ρ:L2.Q.Env} {N:L2.Q.Env->Prop}:gL n gs d ρ N=onK d (f:=fun d=>lstD d fun ds=>ds.length=n/\gs ds ρ N) ⟨⟩:=by unfold gL onK lstD; rfl
end L2.Q.R
namespace L2.Q
open PySem PySem.Spec PyProof.Rows
namespace R
theorem Iu:fNe m (.bl i) m' (.bl j) Q=Q .sh (.bl (!decide (i=j))):=rfl
end R
end L2.Q
local macro_rules | `(tactic| walk_at "q") => do
 let nm (s:String):Lean.Ident:=Lean.mkIdent ((s.splitOn ".").foldl Lean.Name.mkStr .anonymous)
 let ds ← ("Jj JL HW Ip G3 IV J5 JT GZ Gd Hv HB Ie Hu Ii Jf Kr Ht Hx Hz J3 Kg KD I_ HQ JK Ka Ke Ku Kq JG Kd Ib Hy J1 JH IW FJ Ks HJ wB_ JP wOr_ J8 Kl G4 G_ wC_ wOp_ wUn_ G5 HR Ik Hf Hd Ju Im Kf JR JF Jc GK Gz Hn Hi Ho Gm Hq HN Iz H_ Jl Ir Ij Ig Jo KH JB Jx IK Hw Ky Jz Kw JM Jk Jh HX Iu JZ JV JW J7 Kh JS Jy J_ JD JQ Ih Ja Ia Je Jp J2 G9 Gq Hb wSl_ FZ Il Hr JN J0 Kc Jw GD Gx wpN_ FN JC KJ Ko KC GC Jt Jv HH Hg G6 FW Gf Gb gN_ gT_ gL_ Io Kz Jb HF Jr Hc Hj Gk Gs GR JX Jd Js Jg Kp Kv Km J9 Jq Iw wFz_".splitOn " ").toArray.mapM fun s=>`(Lean.Parser.Tactic.simpLemma| ↓$(nm ("L2.Q.R." ++ s)):ident)
 let us ← ("L2.Q.movS L2.Q.outM L2.Q.Bv L2.Q.Al L2.Q.okSh L2.Q.okOw L2.Q.okFl L2.Q.retM L2.Q.lG L2.Q.frzE L2.Q.shS L2.Q.shC L2.Q.nj L2.Q.Ax L2.Q.asg L2.Q.itm L2.Q.bh L2.Q.D.flat L2.Q.flats L2.Q.D.isN L2.Q.D.ty L2.Q.truD L2.Q.D.key1 L2.Q.mF L2.Q.wg L2.Q.Ji List.length_map List.map_cons List.map_nil List.length_cons List.length_nil List.replicate_succ List.replicate_zero List.cons_append List.nil_append List.append_nil List.getElem?_cons_zero List.getElem?_cons_succ List.getElem?_nil List.set_cons_zero List.set_cons_succ List.all_cons List.all_nil Option.some.injEq Option.join_some Option.map_some Option.map_none Nat.reduceAdd Nat.reduceSub true_and and_true Bool.and_true Bool.true_and Bool.and_false Bool.false_and Bool.not_true Bool.not_false Bool.false_eq_true if_true if_false decide_true decide_false reduceIte cond_true cond_false PySem.sizeLine_eq L2.Q.atI0 L2.Q.atI1 L2.Q.atI2 L2.Q.b_ L2.Q.Es L2.Q.empty_app Nat.zero_add exists_eq_left' Int.reduceLT Int.reduceLE Int.reducePow Int.reduceNeg Int.reduceToNat Int.reduceAdd Int.reduceMul Int.reduceSub Nat.reduceLeDiff Nat.reduceLT false_or or_false and_self L2.J4".splitOn " ").toArray.mapM fun s=>`(Lean.Parser.Tactic.simpLemma| $(nm s):ident)
 let as:Lean.TSyntaxArray [`Lean.Parser.Tactic.simpStar,`Lean.Parser.Tactic.simpErase,`Lean.Parser.Tactic.simpLemma]:=(ds++us).map fun x=>⟨x.raw⟩
 `(tactic| simp -dsimp only [$as,*])
namespace L2.Q.Law
open PySem PySem.Spec PyProof.Rows
theorem small {n:Nat} (h:n<=10000):n<=sizeLine:=xaB h (by decide)
theorem Jm {n:Nat} (h:n<=10000):n<sizeLine:=xcB h (by decide)
def isLet (c:Nat):Bool:=decide (97<=c/\c<=122)
abbrev abc:Str := "abcdefghijklmnopqrstuvwxyz"
theorem n8:sg abc=(List.range 26).map (97 + ·):=by decide +kernel
theorem Dl {i:Int} (h0:0<=i) (h1:i<26):∃ c,atI (sg abc) i=some c/\isLet c=true:=by
 refine ⟨97+i.toNat,?_,?_⟩
 ·have:atI (sg abc) ((i.toNat:Nat):Int)=some (97+i.toNat):=atI_nat (by
   rw [n8]
   have:i.toNat<26:=by lia
   simp [this])
  rwa [xaW h0] at this
 ·simp [isLet]; lia
theorem Cw (x:Int):∃ c,atI (sg abc) (x % 26)=some c/\isLet c=true:=Dl (xaM _ (by decide)) (xaH _ (by decide))
def lets (x:Str):Prop:=∀ c∈sg x,isLet c=true
def Open (x:Str):Prop:=1<=x.length/\x.length<=6/\lets x
def Deed (x:Str):Prop:=x = "*"\/Open x
theorem tQ {x y:Str} (hx:lets x) (hy:lets y):lets (x++y):=fun c hc=>by
 rw [ju] at hc
 exact (xak.mp hc).elim (hx c) (hy c)
theorem zr {c:Nat} (h:isLet c=true):lets ⟨#[c]⟩:=fun d hd=>by
 have:d=c:=by simpa [sg] using hd
 rw [this]; exact h
theorem oE {x:Str} (h:lets x) (lo hi:Option Int):lets (cutS x lo hi):=fun c hc=>by
 unfold cutS sg at hc
 rw [List.toList_toArray] at hc
 exact h c (xbI (xbJ hc))
theorem gh (c:Nat):(⟨#[c]⟩:Str).length=1:=rfl
theorem Deed.len {x:Str} (h:Deed x):x.length<=6:=by
 rcases h with rfl | h
 ·decide
 ·exact h.2.1
theorem Deed.ok {x:Str} (h:Deed x):PyData.strOk x=true:=by
 rw [Ag]
 rcases h with rfl | h
 ·have:sg "*" = [42]:=by decide +kernel
  intro c hc
  rw [this] at hc
  have:c=42:=by simpa using hc
  lia
 ·intro c hc
  have:=h.2.2 c hc
  simp [isLet] at this
  lia
theorem il:∀ (l:List Str),flats (l.map D.str)=true
 | []=>rfl
 | x :: l=>by simp [flats,il l,D.flat]
theorem qO:∀ (l:List Int),flats (l.map D.int)=true
 | []=>rfl
 | x :: l=>by simp [flats,qO l,D.flat]
theorem yU:∀ (l:List Bool),flats (l.map D.bl)=true
 | []=>rfl
 | x :: l=>by simp [flats,yU l,D.flat]
theorem yt (l:List Str) (x:Str):l.map D.str++[D.str x]=(l++[x]).map D.str:=by simp
theorem ints_app (l:List Int) (x:Int):l.map D.int++[D.int x]=(l++[x]).map D.int:=by simp
theorem jf {n i:Nat} {lo:Int} {x:D} (h:(gG lo n)[i]? = some x):i<n/\x=.int (lo+(i:Nat)):=by
 unfold gG at h
 rw [xaR] at h
 by_cases hi:i<n
 ·rw [List.getElem?_range hi] at h
  exact ⟨hi,(Option.some.inj h).symm⟩
 ·rw [xa1 (by simpa using hi)] at h
  cases h
theorem nZ (lo:Int) (n:Nat):(gG lo n).length=n:=by simp [gG]
theorem n_ {lo:Int} {n:Nat} {x:D} (h:x∈gG lo n):∃ i:Nat,i<n/\x=.int (lo+i):=by
 obtain ⟨i,hi⟩:=xcl.mp h
 exact ⟨i,jf hi⟩
theorem fC {α:Type} (l:List α):l.filter (fun _=>true)=l:=List.filter_eq_self.mpr fun _ _=>rfl
abbrev Stp:=Int × Str × Int
def stpK (s:Stp):List Key:=[.inl s.1,.inr s.2.1,.inl s.2.2]
def stpD (s:Stp):D:=.tup [.int s.1,.str s.2.1,.int s.2.2]
theorem FQ (s:Stp):keyT (stpK s)=stpD s:=rfl
def mD (many:Int) (steps:List Stp):D:=.tup [.int many,.list (steps.map stpD)]
theorem bZ:∀ (l:List Stp),flats (l.map stpD)=true
 | []=>rfl
 | x :: l=>by simp [flats,bZ l,stpD,D.flat]
def StOk (many:Int) (s:Stp):Prop:=0<=s.1/\s.1<many/\Deed s.2.1/\0<=s.2.2/\s.2.2<many
theorem El {many:Int} {s:Stp} (n:Nat) (h:StOk many s):okD (n+1) (stpD s)=true:=by
 have:=h.2.2.1.ok
 simp [okD,stpD,this]
theorem Cv {many:Int} {l:List Stp} (n:Nat) (h:∀ s∈l,StOk many s):okD (n+2) (.list (l.map stpD))=true:=by
 simp only [okD,List.all_map,xbz]
 intro s hs
 exact El n (h s hs)
theorem m_ok {many:Int} {l:List Stp} (n:Nat) (h:∀ s∈l,StOk many s):okD (n+3) (mD many l)=true:=by
 have h2:=Cv n h
 show (okD (n+2) (.int many) && (okD (n+2) (.list (l.map stpD)) && true))=true
 rw [h2]
 rfl
theorem xG:∀ (l:List Stp),nbs (l.map stpD)=true
 | []=>rfl
 | x :: l=>by simp [nbs,xG l,stpD,D.nb]
theorem nb_m (many:Int) (l:List Stp):(mD many l).nb=true:=by simp [mD,D.nb,nbs,xG]
theorem eq_self {x:D} (h:x.nb=true):eqD x x=true:=(pN x x h h).mpr rfl
theorem zg {s t:Stp} (h:stpD s=stpD t):s=t:=by
 obtain ⟨a,b,c⟩:=s
 obtain ⟨a',b',c'⟩:=t
 simp [stpD] at h
 obtain ⟨rfl,rfl,rfl⟩:=h
 rfl
theorem yC:∀ {l m:List Stp},l.map stpD=m.map stpD->l=m
 | [],[],_=>rfl
 | [],_ :: _,h=>by simp at h
 | _ :: _,[],h=>by simp at h
 | x :: l,y :: m,h=>by
  simp only [xas,List.cons.injEq] at h
  rw [zg h.1,yC h.2]
theorem jM {s t:Stp} (h:stpK s=stpK t):s=t:=by
 obtain ⟨a,b,c⟩:=s
 obtain ⟨a',b',c'⟩:=t
 simp [stpK] at h
 obtain ⟨rfl,rfl,rfl⟩:=h
 rfl
def ltP (s t:Stp):Bool:=ltK (stpK s) (stpK t)
theorem oA {P:Stp->Prop}:∀ {ks:List (List Key)},(∀ k∈ks,∃ s,k=stpK s/\P s)->∃ l:List Stp,ks=l.map stpK/\∀ s∈l,P s
 | [],_=>⟨[],rfl,fun s h=>nomatch h⟩
 | k :: ks,h=>by
  obtain ⟨s,rfl,p⟩:=h k xah
  obtain ⟨l,rfl,q⟩:=oA fun k hk=>h k (xaf _ hk)
  refine ⟨s :: l,rfl,fun t ht=>?_⟩
  rcases xaj.mp ht with rfl | ht
  ·exact p
  ·exact q t ht
abbrev Kn:=List (List Key × D)
def StD (P:Stp->Prop) (kvs:Kn):Prop:=(∀ p∈kvs,∃ s,p.1=stpK s/\P s)/\(kvs.map (·.1)).Nodup
theorem ye {κ β:Type} [DecidableEq κ] (kvs:List (κ × β)) (k:κ) (v:β):(putG kvs k v).map (·.1)=if k∈kvs.map (·.1) then kvs.map (·.1) else kvs.map (·.1)++[k]:=by
 unfold putG
 by_cases h:k∈kvs.map (·.1)
 ·have:(kvs.any fun kv=>decide (kv.1=k))=true:=by
   obtain ⟨p,hp,e⟩:=xai.mp h
   exact xcM.mpr ⟨p,hp,decide_eq_true e⟩
  rw [if_pos this,if_pos h,xaw]
  apply xbu
  intro p _
  show (if p.1=k then (p.1,v) else p).1=p.1
  split <;> rfl
 ·have:¬ (kvs.any fun kv=>decide (kv.1=k))=true:=by
   intro z
   obtain ⟨p,hp,e⟩:=xcM.mp z
   exact h (xai.mpr ⟨p,hp,of_decide_eq_true e⟩)
  rw [if_neg this,if_neg h,xaP]
  rfl
theorem StD.put {P:Stp->Prop} {kvs:Kn} {s:Stp} {d:D} (h:StD P kvs) (hs:P s):StD P (putG kvs (stpK s) d):=by
 refine ⟨fun p hp=>?_,?_⟩
 ·rcases za hp with e | e
  ·exact ⟨s,e,hs⟩
  ·obtain ⟨q,hq,e⟩:=xai.mp e
   rw [<- e]
   exact h.1 q hq
 ·rw [ye]
  split
  ·exact h.2
  ·rename_i hn
   exact xax.mpr ⟨h.2,by simp,fun a ha b hb e=>by
    have:b=stpK s:=by simpa using hb
    subst this; subst e; exact hn ha⟩
theorem StD.nil {P:Stp->Prop}:StD P []:=⟨(fun p hp=>nomatch hp),xaX⟩
theorem StD.sorted {P:Stp->Prop} {kvs:Kn} (h:StD P kvs) {Q:Md->D->Prop} (k:∀ steps:List Stp,(steps.map stpK).Perm (kvs.map (·.1))->(∀ s∈steps,P s)->steps.Pairwise (fun a b=>ltP a b=true)->steps.length=kvs.length->Q (.ow true) (.list (steps.map stpD))) :
  wg (.ow true) (.list (kvs.map fun kv=>.tup (kv.1.map keyD))) Q:=by
 refine ⟨kvs.map (·.1),[false,true],by rw [xaw]; rfl,fun k hk=>?_,fun ms pm pw=>?_⟩
 ·obtain ⟨p,hp,rfl⟩:=xai.mp hk
  obtain ⟨s,e,_⟩:=h.1 p hp
  rw [e]; rfl
 ·obtain ⟨l,rfl,hl⟩:=oA (P:=P) (ks:=ms) fun k hk=>by
   obtain ⟨p,hp,e⟩:=xai.mp (pm.mem_iff.mp hk)
   rw [<- e]
   exact h.1 p hp
  have e:(l.map stpK).map keyT=l.map stpD:=by rw [xaw]; rfl
  rw [e]
  refine k l pm hl ?_ (by have:=pm.length_eq; simpa using this)
  have nd:(l.map stpK).Nodup:=pm.nodup_iff.mpr h.2
  rw [xaG] at pw
  have nd':l.Pairwise fun a b=>stpK a≠stpK b:=by
   rw [List.Nodup,xaG] at nd
   exact nd
  refine (pw.and nd').imp fun {a b} ⟨h1,h2⟩=>?_
  unfold ltP
  cases h3:ltK (stpK a) (stpK b) with
  | true=>rfl
  | false=>exact absurd (pH (a:=stpK a) (b:=stpK b) rfl h3 h1) h2
theorem BP {names:List Str} {i:Int} (h0:0<=i) (h1:i<names.length):∃ n,n∈names/\atI (names.map D.str) i=some (.str n):=by
 have hn:i.toNat<names.length:=by lia
 refine ⟨names[i.toNat],xce hn,?_⟩
 have:=atI_nat (xs:=names.map D.str) (j:=i.toNat) (v:=.str names[i.toNat]) (by simp [hn])
 rwa [xaW h0] at this
theorem name_mod {names:List Str} (x:Int) (h:1<=names.length):∃ n,n∈names/\atI (names.map D.str) (x % (names.length:Int))=some (.str n) :=
 BP (xaM _ (by lia)) (xaH _ (by lia))
theorem CG {α:Type} (f:α->D) (l:List α) (lo hi:Option Int):cutG (l.map f) lo hi=(cutG l lo hi).map f:=by
 unfold cutG
 rw [xac,xcm,xcn]
theorem Bd {α:Type} {l:List α} {lo hi:Option Int} {x:α} (h:x∈cutG l lo hi):x∈l:=xbI (xbJ h)
def Mde (steps out:List Stp):Prop:=out.Nodup/\(∀ s,s∈out↔s∈steps)/\(out.Pairwise fun a b=>ltP b a=false)
theorem fu {α β:Type} {f:α->β} {l:List α} (h:(l.map f).Nodup):l.Nodup:=by
 rw [List.Nodup,xaG] at h
 exact h.imp fun hab e=>hab (by rw [e])
theorem Mde.one {steps out out2:List Stp} (M:Mde steps out) (M2:Mde steps out2):out=out2 :=
 List.Perm.eq_of_pairwise (fun a b _ _ h1 h2=>jM (pH (a:=stpK a) (b:=stpK b) rfl h2 h1)) M.2.2 M2.2.2 ((List.perm_ext_iff_of_nodup M.1 M2.1).mpr fun s=>(M.2.1 s).trans (M2.2.1 s).symm)
theorem Mde.len {steps out:List Stp} (M:Mde steps out):out.length<=steps.length:=TS.bF M.1 fun s hs=>(M.2.1 s).mp hs
theorem xT {l:List Stp} (P:List D->Prop) (hz:l.length<=2000) (k:∀ out,Mde l out->P (out.map stpD)):∃ (ks:List (List Key)) (sh:List Bool),l.map stpD=ks.map keyT/\ks.length<=2000/\(∀ k∈ks,shOf k=true :: sh) /\
  ∀ ms:List (List Key),ms.Nodup->(∀ k,k∈ms↔k∈ks)->(ms.Pairwise fun a b=>ltK b a=false)->P (ms.map keyT):=by
 refine ⟨l.map stpK,[false,true],by rw [xaw]; rfl,by simpa using hz,?_,fun ms nd mm pw=>?_⟩
 ·intro k hk
  obtain ⟨s,_,rfl⟩:=xai.mp hk
  rfl
 ·obtain ⟨out,rfl,ho⟩:=oA (P:=fun s=>s∈l) (ks:=ms) fun k hk=>by
   obtain ⟨s,hs,rfl⟩:=xai.mp ((mm k).mp hk)
   exact ⟨s,rfl,hs⟩
  have e:(out.map stpK).map keyT=out.map stpD:=by rw [xaw]; rfl
  rw [e]
  refine k out ⟨fu nd,fun s=>⟨fun hm=>ho s hm,fun hm=>?_⟩,xaG.mp pw⟩
  obtain ⟨s',hs',e⟩:=xai.mp ((mm (stpK s)).mpr (xai.mpr ⟨s,hm,rfl⟩))
  rw [<- jM e]; exact hs'
theorem qt {steps:List Stp} {i:Nat} {x:D} (h:(steps.map stpD)[i]? = some x):∃ p d r,x=.tup [.int p,.str d,.int r]/\(p,d,r)∈steps/\steps.take (i+1)=steps.take i++[(p,d,r)]:=by
 rw [xaR] at h
 cases e:steps[i]? with
 | none=>rw [e] at h; cases h
 | some s =>
  rw [e] at h
  cases h
  obtain ⟨p,d,r⟩:=s
  exact ⟨p,d,r,rfl,xaQ e,by rw [xbG,e]; rfl⟩
theorem Ff {l:List Str} {i:Nat} {x:D} (h:(l.map D.str)[i]? = some x):∃ n,x=.str n/\n∈l/\l.take (i+1)=l.take i++[n]:=by
 rw [xaR] at h
 cases e:l[i]? with
 | none=>rw [e] at h; cases h
 | some s =>
  rw [e] at h
  cases h
  exact ⟨s,rfl,xaQ e,by rw [xbG,e]; rfl⟩
theorem um {n:Str}:(decide (1<=n.length/\n.length<=6) && (sg n).all isLet)=true↔Open n:=by
 unfold Open lets
 simp only [xaC,decide_eq_true_eq,xbz]
 exact ⟨fun ⟨⟨a,b⟩,c⟩=>⟨a,b,c⟩,fun ⟨a,b,c⟩=>⟨⟨a,b⟩,c⟩⟩
def hdF (f:Str->Option Str) (s:Stp):Stp:=(s.1,(f s.2.1).getD s.2.1,s.2.2)
theorem Fp {many:Int} {f:Str->Option Str} {s:Stp} (hf:∀ x y,f x=some y->Deed y) (h:StOk many s):StOk many (hdF f s):=by
 refine ⟨h.1,h.2.1,?_,h.2.2.2.1,h.2.2.2.2⟩
 show Deed ((f s.2.1).getD s.2.1)
 cases e:f s.2.1 with
 | none=>exact h.2.2.1
 | some y=>exact hf _ y e
theorem Mde.ok {many:Int} {l out:List Stp} (h:∀ s∈l,StOk many s) (M:Mde l out):∀ s∈out,StOk many s:=fun s hs=>h s ((M.2.1 s).mp hs)
theorem Mde.okF {many:Int} {f:Str->Option Str} {l out:List Stp} (hf:∀ x y,f x=some y->Deed y) (h:∀ s∈l,StOk many s) (M:Mde (l.map (hdF f)) out):∀ s∈out,StOk many s :=
 M.ok fun s hs=>by
  obtain ⟨t,ht,rfl⟩:=xai.mp hs
  exact Fp hf (h t ht)
theorem eq_m (many:Int) (l:List Stp):eqD (D.tup [.int many,.list (l.map stpD)]) (D.tup [.int many,.list (l.map stpD)])=true:=eq_self (nb_m many l)
theorem ok_m {many:Int} {l:List Stp} (h:∀ s∈l,StOk many s):okD 12 (D.tup [.int many,.list (l.map stpD)])=true:=m_ok 9 h
theorem Gg {α β:Type} (f:α->β) (l:List α) (k:Nat) (y:α):insL (l.map f) k (f y)=(insL l k y).map f:=by
 unfold insL
 rw [xaP,xas,xcm,xcn]
theorem Ga {α:Type} (l:List α) (k:Nat) (y:α):(insL l k y).length=l.length+1:=by
 unfold insL
 rw [xaD,xa0,xat,xa4]
 lia
theorem F_ {α:Type} (l:List α) (k:Nat) (y:α):y∈insL l k y:=xag _ xah
theorem GX {α:Type} {l:List α} {k:Nat} (y:α) (h:k<=l.length):(insL l k y)[k]? = some y:=by
 unfold insL
 rw [xaI (by rw [xat]; lia),xat,xbR h,Nat.sub_self]
 rfl
theorem Dq {α:Type} {l:List α} {k:Nat} (y:α) (h:k<=l.length):(insL l k y).eraseIdx k=l:=by
 unfold insL
 rw [xcd (by rw [xat]; lia),xat,xbR h,Nat.sub_self]
 exact xbk k l
theorem zL {n:Nat} {l:List Str} (h:∀ x∈l,Open x):okD (n+1) (.list (l.map D.str))=true:=by
 simp only [okD,List.all_map,xbz]
 intro s hs
 have:=Deed.ok (.inr (h s hs))
 cases n <;> simpa [okD] using this
theorem tO:∀ (l:List Str),nbs (l.map D.str)=true
 | []=>rfl
 | x :: l=>by simp [nbs,tO l,D.nb]
theorem Hl (l:List Str):eqD (.list (l.map D.str)) (.list (l.map D.str))=true:=eq_self (x:=.list (l.map D.str)) (tO l)
theorem t_ {κ β:Type} [DecidableEq κ] (k k':κ) (v:β):∀ (kvs:List (κ × β)),getG (kvs.map fun kv=>if kv.1=k then (kv.1,v) else kv) k'=if k'=k then (getG kvs k').map (fun _=>v) else getG kvs k'
 | []=>by simp [getG]
 | p :: r=>by
  rw [xas,d_,d_,t_ k k' v r]
  by_cases h:p.1=k
  ·rw [if_pos h]
   by_cases h2:k'=k
   ·subst h2; simp [h]
   ·have:¬ p.1=k':=fun z=>h2 (z.symm.trans h)
    simp [this,h2]
  ·rw [if_neg h]
   by_cases h2:k'=k
   ·subst h2; simp [h]
   ·simp [h2]
theorem q_ {κ β:Type} [DecidableEq κ] (k k':κ) (v:β):∀ (kvs:List (κ × β)),getG (kvs++[(k,v)]) k'=(getG kvs k').or (if k=k' then some v else none)
 | []=>by rw [List.nil_append,d_]; rfl
 | p :: r=>by
  rw [List.cons_append,d_,d_,q_ k k' v r]
  split <;> simp
theorem Ec {κ β:Type} [DecidableEq κ] (k k':κ) (v:β) (kvs:List (κ × β)):getG (putG kvs k v) k'=if k'=k then some v else getG kvs k':=by
 have ex:∀ kvs:List (κ × β),(kvs.any fun kv=>decide (kv.1=k))=(getG kvs k).isSome:=fun kvs=>by
  induction kvs with
  | nil=>rfl
  | cons p r ih =>
   rw [xbF,d_,ih]
   by_cases h:p.1=k <;> simp [h]
 unfold putG
 rw [ex kvs]
 cases e:getG kvs k with
 | none =>
  simp only [Option.isSome_none,xam,if_false]
  rw [q_]
  by_cases h:k'=k
  ·subst h; rw [e]; simp
  ·rw [if_neg h,if_neg fun z=>h z.symm]; simp
 | some u =>
  simp only [Option.isSome_some,if_true]
  rw [t_]
  by_cases h:k'=k
  ·subst h; rw [e]; simp
  ·rw [if_neg h,if_neg h]
def dsOf (steps:List Stp):List Str:=steps.map (·.2.1)
theorem Mde.uniq {a b o1 o2:List Stp} (h:∀ s,s∈a↔s∈b) (M1:Mde a o1) (M2:Mde b o2):o1=o2 :=
 M1.one ⟨M2.1,fun s=>(M2.2.1 s).trans (h s).symm,M2.2.2⟩
def onS (n:Int) (tg:List Str) (s:Stp):List Stp:=if s.2.1∈tg then [] else (List.range n.toNat).map fun q:Nat=>(s.1 * n+(0+(q:Int)),s.2.1,s.2.2 * n+(0+(q:Int)))
def otS (m n:Int) (tg:List Str) (s:Stp):List Stp:=if s.2.1∈tg then [] else (List.range m.toNat).map fun p:Nat=>((0+(p:Int)) * n+s.1,s.2.1,(0+(p:Int)) * n+s.2.2)
def toS (n:Int) (tg:List Str) (l2:List Stp) (s:Stp):List Stp:=if s.2.1∈tg then (l2.filter fun t=>decide (t.2.1=s.2.1)).map fun t=>(s.1 * n+t.1,s.2.1,s.2.2 * n+t.2.2) else []
def besS (m n:Int) (tg:List Str) (l1 l2:List Stp):List Stp:=l1.flatMap (onS n tg)++l2.flatMap (otS m n tg)++l1.flatMap (toS n tg l2)
theorem ue {n:Int} {tg:List Str} {s x:Stp}:x∈onS n tg s↔s.2.1∉tg/\∃ q:Nat,q<n.toNat/\x=(s.1 * n+(0+(q:Int)),s.2.1,s.2.2 * n+(0+(q:Int))):=by
 unfold onS
 split
 ·rename_i h; simp [h]
 ·rename_i h
  simp only [xai,xaN,h,not_false_eq_true,true_and]
  exact ⟨fun ⟨q,a,b⟩=>⟨q,a,b.symm⟩,fun ⟨q,a,b⟩=>⟨q,a,b.symm⟩⟩
theorem uA {m n:Int} {tg:List Str} {s x:Stp}:x∈otS m n tg s↔s.2.1∉tg/\∃ p:Nat,p<m.toNat/\x=((0+(p:Int)) * n+s.1,s.2.1,(0+(p:Int)) * n+s.2.2):=by
 unfold otS
 split
 ·rename_i h; simp [h]
 ·rename_i h
  simp only [xai,xaN,h,not_false_eq_true,true_and]
  exact ⟨fun ⟨q,a,b⟩=>⟨q,a,b.symm⟩,fun ⟨q,a,b⟩=>⟨q,a,b.symm⟩⟩
theorem tZ {n:Int} {tg:List Str} {l2:List Stp} {s x:Stp}:x∈toS n tg l2 s↔s.2.1∈tg/\∃ t,t∈l2/\t.2.1=s.2.1/\x=(s.1 * n+t.1,s.2.1,s.2.2 * n+t.2.2):=by
 unfold toS
 split
 ·rename_i h
  simp only [xai,xbf,decide_eq_true_eq,h,true_and]
  exact ⟨fun ⟨q,a,b⟩=>⟨q,a.1,a.2,b.symm⟩,fun ⟨q,a,c,b⟩=>⟨q,⟨a,c⟩,b.symm⟩⟩
 ·rename_i h; simp [h]
theorem rY {m n:Int} {tg:List Str} {l1 l2:List Stp} {x:Stp}:x∈besS m n tg l1 l2↔(∃ s,s∈l1/\x∈onS n tg s)\/(∃ s,s∈l2/\x∈otS m n tg s)\/(∃ s,s∈l1/\x∈toS n tg l2 s):=by
 unfold besS
 simp only [xak,List.mem_flatMap,or_assoc]
theorem yG {l:List Stp} {g:Stp->List Stp} {p:Stp->Bool} {k:Nat} (h:∀ s,(g s).length<=if p s then k else 0):(l.flatMap g).length<=(l.filter p).length * k:=by
 induction l with
 | nil=>simp
 | cons s l ih =>
  have:=h s
  rw [List.flatMap_cons,xaD,xcJ]
  cases e:p s with
  | true=>rw [e] at this; simp only [if_true,xa0] at *; rw [Nat.add_mul]; lia
  | false=>rw [e] at this; simp only [xam,if_false] at *; lia
theorem gY (l:List Str):(l.map D.str).all fX=true:=by
 rw [xbz]
 intro x hx
 obtain ⟨c,_,rfl⟩:=xai.mp hx
 rfl
theorem pG (x:Str) (l:List Str):inD (.str x) (l.map D.str)=decide (x∈l):=by
 unfold inD
 rw [xbp,xcM,decide_eq_true_iff]
 constructor
 ·rintro ⟨y,hy,e⟩
  obtain ⟨c,hc,rfl⟩:=xai.mp hy
  have:=(pN (.str c) (.str x) rfl rfl).mp e
  cases this
  exact hc
 ·intro hx
  exact ⟨.str x,xai.mpr ⟨x,hx,rfl⟩,(pN (.str x) (.str x) rfl rfl).mpr rfl⟩
def lZ (steps:List Stp) (k:Nat):Prop:=∃ l:List Str,l.Nodup/\(∀ n,n∈l↔n∈dsOf steps/\n ≠ "*")/\l.length=k
def Ar (steps:List Stp) (c:Nat):Prop:=∃ l:List Stp,l.Nodup/\(∀ s,s∈l↔s∈steps)/\l.length=c
theorem tW {α:Type} [DecidableEq α] {l m:List α} (h1:l.Nodup) (h2:m.Nodup) (h:∀ x,x∈l↔x∈m):l.length=m.length :=
 xb7 (TS.bF h1 fun x hx=>(h x).mp hx) (TS.bF h2 fun x hx=>(h x).mpr hx)
theorem lZ.uniq {steps:List Stp} {j k:Nat} (a:lZ steps j) (b:lZ steps k):j=k:=by
 obtain ⟨l,n1,m1,rfl⟩:=a
 obtain ⟨m,n2,m2,rfl⟩:=b
 exact tW n1 n2 fun x=>(m1 x).trans (m2 x).symm
theorem Ar.uniq {steps:List Stp} {j k:Nat} (a:Ar steps j) (b:Ar steps k):j=k:=by
 obtain ⟨l,n1,m1,rfl⟩:=a
 obtain ⟨m,n2,m2,rfl⟩:=b
 exact tW n1 n2 fun x=>(m1 x).trans (m2 x).symm
theorem lZ.same {steps out:List Stp} {k:Nat} (h:∀ s,s∈out↔s∈steps) (a:lZ steps k):lZ out k:=by
 obtain ⟨l,n1,m1,e⟩:=a
 refine ⟨l,n1,fun n=>(m1 n).trans ?_,e⟩
 have:n∈dsOf steps↔n∈dsOf out:=by
  unfold dsOf
  simp only [xai]
  exact ⟨fun ⟨s,hs,e⟩=>⟨s,(h s).mpr hs,e⟩,fun ⟨s,hs,e⟩=>⟨s,(h s).mp hs,e⟩⟩
 rw [this]
def Sml (many:Int) (c k:Nat):Prop:=many<=20/\c<=80/\k<=6
theorem aL {m n:Int} {tg:List Str} {l1 l2:List Stp} (n0:0<=n) (m0:0<=m) {a b:Int} {d:Str}:((a,d,b):Stp)∈besS m n tg l1 l2 ↔
  (d∉tg/\∃ p r q,(p,d,r)∈l1/\(0<=q/\q<n)/\a=p * n+q/\b=r * n+q)\/(d∉tg/\∃ p q s,(q,d,s)∈l2/\(0<=p/\p<m)/\a=p * n+q/\b=p * n+s) \/
  (d∈tg/\∃ p r q s,(p,d,r)∈l1/\(q,d,s)∈l2/\a=p * n+q/\b=r * n+s):=by
 rw [rY]
 constructor
 ·rintro (⟨⟨p,e,r⟩,hs,h⟩ | ⟨⟨q,e,s⟩,hs,h⟩ | ⟨⟨p,e,r⟩,hs,h⟩)
  ·obtain ⟨ht,k,hk,e1⟩:=ue.mp h
   simp only [Prod.mk.injEq] at e1
   obtain ⟨rfl,rfl,rfl⟩:=e1
   exact .inl ⟨ht,p,r,k,hs,by lia,by simp,by simp⟩
  ·obtain ⟨ht,k,hk,e1⟩:=uA.mp h
   simp only [Prod.mk.injEq] at e1
   obtain ⟨rfl,rfl,rfl⟩:=e1
   exact .inr (.inl ⟨ht,k,q,s,hs,by lia,by simp,by simp⟩)
  ·obtain ⟨ht,⟨q,e2,s⟩,hu,e3,e1⟩:=tZ.mp h
   simp only [Prod.mk.injEq] at e1 e3
   obtain ⟨rfl,rfl,rfl⟩:=e1
   subst e3
   exact .inr (.inr ⟨ht,p,r,q,s,hs,hu,rfl,rfl⟩)
 ·rintro (⟨ht,p,r,q,hs,hq,rfl,rfl⟩ | ⟨ht,p,q,s,hs,hp,rfl,rfl⟩ | ⟨ht,p,r,q,s,h1,h2,rfl,rfl⟩)
  ·exact .inl ⟨_,hs,ue.mpr ⟨ht,q.toNat,by lia,by simp [xaW hq.1]⟩⟩
  ·exact .inr (.inl ⟨_,hs,uA.mpr ⟨ht,p.toNat,by lia,by simp [xaW hp.1]⟩⟩)
  ·exact .inr (.inr ⟨_,h1,tZ.mpr ⟨ht,_,h2,rfl,rfl⟩⟩)
theorem apart {n p q:Int} (h:0<=q/\q<n):(p * n+q) / n=p/\(p * n+q) % n=q:=by
 have hn:n≠0:=by lia
 rw [Int.add_comm,Int.add_mul_ediv_right _ _ hn,Int.ediv_eq_zero_of_lt h.1 h.2,Int.add_mul_emod_self_right,Int.emod_eq_of_lt h.1 h.2]
 exact ⟨by lia,rfl⟩
theorem low {n o q c:Int} (hq:0<=q/\q<n) (hc:0<=c/\c<o):0<=q * o+c/\q * o+c<n * o:=by
 have h1:0<=q * o:=xbm hq.1 (by lia)
 have h2:(q+1) * o<=n * o:=xbo (by lia) (by lia)
 rw [Int.add_mul,Int.one_mul] at h2
 lia
theorem as3 (p n q o c:Int):(p * n+q) * o+c=p * (n * o)+(q * o+c):=by
 rw [Int.add_mul,xcI,Int.add_assoc]
theorem xN {m n o:Int} {tg:List Str} {l1 l2 l3:List Stp} (m0:0<m) (n0:0<n) (o0:0<o) (h1:∀ s∈l1,StOk m s) (h2:∀ s∈l2,StOk n s) (h3:∀ s∈l3,StOk o s) {a b:Int} {d:Str} :
  ((a,d,b):Stp)∈besS (m * n) o tg (besS m n tg l1 l2) l3↔((a,d,b):Stp)∈besS m (n * o) tg l1 (besS n o tg l2 l3):=by
 have no0:0<=n * o:=xbm (by lia) (by lia)
 have mn0:0<=m * n:=xbm (by lia) (by lia)
 rw [aL (by lia) mn0,aL no0 (by lia)]
 constructor
 ·rintro (⟨ht,p,r,q,hs,hq,rfl,rfl⟩ | ⟨ht,p,q,s,hs,hp,rfl,rfl⟩ | ⟨ht,p,r,q,s,hs,hu,rfl,rfl⟩)
  ·rcases (aL (by lia) (by lia)).mp hs with ⟨_,p',r',q',hs',hq',rfl,rfl⟩ | ⟨_,p',q',s',hs',hp',rfl,rfl⟩ | ⟨ht',_⟩
   ·exact .inl ⟨ht,p',r',q' * o+q,hs',low hq' hq,as3 ..,as3 ..⟩
   ·exact .inr (.inl ⟨ht,p',q' * o+q,s' * o+q,(aL (by lia) (by lia)).mpr (.inl ⟨ht,q',s',q,hs',hq,rfl,rfl⟩),hp',as3 ..,as3 ..⟩)
   ·exact absurd ht' ht
  ·refine .inr (.inl ⟨ht,p / n,p % n * o+q,p % n * o+s,(aL (by lia) (by lia)).mpr (.inr (.inl ⟨ht,p % n,q,s,hs,⟨xaM _ (by lia),xaH _ (by lia)⟩,rfl,rfl⟩)),⟨Int.ediv_nonneg hp.1 (by lia),xco (by lia) hp.2⟩,?_,?_⟩)
   all_goals
    rw [<- as3,xcx (p / n) n,xbX]
  ·rcases (aL (by lia) (by lia)).mp hs with ⟨ht',_⟩ | ⟨ht',_⟩ | ⟨_,p',r',q',s',h1',h2',rfl,rfl⟩
   ·exact absurd ht ht'
   ·exact absurd ht ht'
   ·exact .inr (.inr ⟨ht,p',r',q' * o+q,s' * o+s,h1',(aL (by lia) (by lia)).mpr (.inr (.inr ⟨ht,q',s',q,s,h2',hu,rfl,rfl⟩)),as3 ..,as3 ..⟩)
 ·rintro (⟨ht,p,r,q,hs,hq,rfl,rfl⟩ | ⟨ht,p,q,s,hs,hp,rfl,rfl⟩ | ⟨ht,p,r,q,s,hs,hu,rfl,rfl⟩)
  ·refine .inl ⟨ht,p * n+q / o,r * n+q / o,q % o,(aL (by lia) (by lia)).mpr (.inl ⟨ht,p,r,q / o,hs,⟨Int.ediv_nonneg hq.1 (by lia),xco (by lia) hq.2⟩,rfl,rfl⟩),⟨xaM _ (by lia),xaH _ (by lia)⟩,?_,?_⟩
   all_goals
    rw [as3,xcx (q / o) o,xbX]
  ·rcases (aL (by lia) (by lia)).mp hs with ⟨_,p',r',q',hs',hq',rfl,rfl⟩ | ⟨_,p',q',s',hs',hp',rfl,rfl⟩ | ⟨ht',_⟩
   ·exact .inl ⟨ht,p * n+p',p * n+r',q',(aL (by lia) (by lia)).mpr (.inr (.inl ⟨ht,p,p',r',hs',hp,rfl,rfl⟩)),hq',(as3 ..).symm,(as3 ..).symm⟩
   ·exact .inr (.inl ⟨ht,p * n+p',q',s',hs',low hp hp',(as3 ..).symm,(as3 ..).symm⟩)
   ·exact absurd ht' ht
  ·rcases (aL (by lia) (by lia)).mp hu with ⟨ht',_⟩ | ⟨ht',_⟩ | ⟨_,p',r',q',s',h1',h2',rfl,rfl⟩
   ·exact absurd ht ht'
   ·exact absurd ht ht'
   ·exact .inr (.inr ⟨ht,p * n+p',r * n+r',q',s',(aL (by lia) (by lia)).mpr (.inr (.inr ⟨ht,p,r,p',r',hs,h1',rfl,rfl⟩)),h2',(as3 ..).symm,(as3 ..).symm⟩)
theorem sY {m n:Int} {tg:List Str} {l1 l2 k1 k2:List Stp} (h1:∀ s,s∈l1↔s∈k1) (h2:∀ s,s∈l2↔s∈k2) (s:Stp) (n0:0<=n) (m0:0<=m):s∈besS m n tg l1 l2↔s∈besS m n tg k1 k2:=by
 obtain ⟨a,d,b⟩:=s
 rw [aL n0 m0,aL n0 m0]
 simp only [h1,h2]
def tf (n m x:Int):Int:=x % n * m+x / n
def tfS (n m:Int) (s:Stp):Stp:=(tf n m s.1,s.2.1,tf n m s.2.2)
theorem jG {n m p q:Int} (h:0<=q/\q<n):tf n m (p * n+q)=q * m+p:=by
 unfold tf
 rw [(apart h).1,(apart h).2]
theorem zp {m n:Int} {tg:List Str} {l1 l2:List Stp} (m0:0<=m) (n0:0<=n) (h1:∀ s∈l1,StOk m s) (h2:∀ s∈l2,StOk n s) (s:Stp):s∈besS n m tg l2 l1↔∃ t,t∈besS m n tg l1 l2/\tfS n m t=s:=by
 obtain ⟨a,d,b⟩:=s
 rw [aL m0 n0]
 constructor
 ·rintro (⟨ht,q,s,p,hs,hp,rfl,rfl⟩ | ⟨ht,q,p,r,hs,hq,rfl,rfl⟩ | ⟨ht,q,s,p,r,hs,hu,rfl,rfl⟩)
  ·have o:=h2 _ hs
   exact ⟨(p * n+q,d,p * n+s),(aL n0 m0).mpr (.inr (.inl ⟨ht,p,q,s,hs,hp,rfl,rfl⟩)),by unfold tfS; rw [jG ⟨o.1,o.2.1⟩,jG ⟨o.2.2.2.1,o.2.2.2.2⟩]⟩
  ·exact ⟨(p * n+q,d,r * n+q),(aL n0 m0).mpr (.inl ⟨ht,p,r,q,hs,hq,rfl,rfl⟩),by unfold tfS; rw [jG hq,jG hq]⟩
  ·have o:=h2 _ hs
   exact ⟨(p * n+q,d,r * n+s),(aL n0 m0).mpr (.inr (.inr ⟨ht,p,r,q,s,hu,hs,rfl,rfl⟩)),by unfold tfS; rw [jG ⟨o.1,o.2.1⟩,jG ⟨o.2.2.2.1,o.2.2.2.2⟩]⟩
 ·rintro ⟨⟨x,e,y⟩,hm,e1⟩
  rcases (aL n0 m0).mp hm with ⟨ht,p,r,q,hs,hq,rfl,rfl⟩ | ⟨ht,p,q,s,hs,hp,rfl,rfl⟩ | ⟨ht,p,r,q,s,hs,hu,rfl,rfl⟩
  ·unfold tfS at e1
   rw [jG hq,jG hq] at e1
   simp only [Prod.mk.injEq] at e1
   obtain ⟨rfl,rfl,rfl⟩:=e1
   exact .inr (.inl ⟨ht,q,p,r,hs,hq,rfl,rfl⟩)
  ·have o:=h2 _ hs
   unfold tfS at e1
   rw [jG ⟨o.1,o.2.1⟩,jG ⟨o.2.2.2.1,o.2.2.2.2⟩] at e1
   simp only [Prod.mk.injEq] at e1
   obtain ⟨rfl,rfl,rfl⟩:=e1
   exact .inl ⟨ht,q,s,p,hs,hp,rfl,rfl⟩
  ·have o:=h2 _ hu
   unfold tfS at e1
   rw [jG ⟨o.1,o.2.1⟩,jG ⟨o.2.2.2.1,o.2.2.2.2⟩] at e1
   simp only [Prod.mk.injEq] at e1
   obtain ⟨rfl,rfl,rfl⟩:=e1
   exact .inr (.inr ⟨ht,q,s,p,r,hu,hs,rfl,rfl⟩)
theorem Em {m n:Int} {tg:List Str} {l1 l2:List Stp} (m0:0<=m) (n0:0<=n) (h1:∀ s∈l1,StOk m s) (h2:∀ s∈l2,StOk n s):∀ s∈besS m n tg l1 l2,StOk (m * n) s:=fun s hm=>by
 obtain ⟨a,d,b⟩:=s
 rcases (aL n0 m0).mp hm with ⟨ht,p,r,q,hs,hq,rfl,rfl⟩ | ⟨ht,p,q,s,hs,hp,rfl,rfl⟩ | ⟨ht,p,r,q,s,hs,hu,rfl,rfl⟩
 ·have o:=h1 _ hs
  have x:=low ⟨o.1,o.2.1⟩ hq
  have y:=low ⟨o.2.2.2.1,o.2.2.2.2⟩ hq
  exact ⟨x.1,x.2,o.2.2.1,y.1,y.2⟩
 ·have o:=h2 _ hs
  have x:=low hp ⟨o.1,o.2.1⟩
  have y:=low hp ⟨o.2.2.2.1,o.2.2.2.2⟩
  exact ⟨x.1,x.2,o.2.2.1,y.1,y.2⟩
 ·have o:=h1 _ hs
  have o2:=h2 _ hu
  have x:=low ⟨o.1,o.2.1⟩ ⟨o2.1,o2.2.1⟩
  have y:=low ⟨o.2.2.2.1,o.2.2.2.2⟩ ⟨o2.2.2.2.1,o2.2.2.2.2⟩
  exact ⟨x.1,x.2,o.2.2.1,y.1,y.2⟩
theorem zY {n m x y:Int} (n0:0<n) (m0:0<m) (hx:0<=x/\x<m * n) (hy:0<=y/\y<m * n) (e:tf n m x=tf n m y):x=y:=by
 have d:∀ z:Int,0<=z/\z<m * n->0<=z / n/\z / n<m:=fun z hz=>⟨Int.ediv_nonneg hz.1 (by lia),xco n0 hz.2⟩
 have a1:=apart (n:=m) (p:=x % n) (d x hx)
 have a2:=apart (n:=m) (p:=y % n) (d y hy)
 unfold tf at e
 rw [e] at a1
 have e1:x % n=y % n:=a1.1.symm.trans a2.1
 have e2:x / n=y / n:=a1.2.symm.trans a2.2
 rw [<- xbX x n,<- xbX y n,e1,e2]
def k_:WS :=
 (wSeq (wIfS (wOr (wNot (wB (wUn (fIsi "str") (wVar 0)))) (wNot (wB (qg fLe fLe (wC (.int 1)) (wUn fLen (wVar 0)) (wC (.int 6))))))
 (wRet (wC (.bl false)))
 cF)
 (wRet (wUn fAll (g_ (zN (wVar 0)) (gN 0) wYes (wOp (fIn false) (wVar 0) (wC (.str "abcdefghijklmnopqrstuvwxyz"))) 1 []))))
theorem Ae {c:Nat}:inS ⟨#[c]⟩ abc=isLet c:=by
 rw [Bf]
 have:abc.cps.toList=(List.range 26).map (97 + ·):=n8
 rw [this]
 apply xbp.mpr
 simp only [decide_eq_true_eq,isLet,xai,xaN]
 constructor
 ·rintro ⟨i,hi,rfl⟩; lia
 ·intro h; exact ⟨c - 97,by lia,by lia⟩
def bA:SpD:=fun ds Q=>∃ x:Str,ds=[.str x]/\Q .sh (.bl (decide (1<=x.length/\x.length<=6) && (sg x).all isLet))
theorem rO (ds Q) (h:bA ds Q):ds.length=["thing"].length:=by obtain ⟨_,rfl,_⟩:=h; rfl
theorem wG:∀ ds Q,bA ds Q->k_ { nx:=fun _=>Q .sh .non,rt:=Q } (bh 1 ds):=by
 rintro ds Q ⟨x,rfl,h⟩
 unfold k_
 walk_at "q"
 refine R.F rfl ?_
 walk_at "q"
 refine R.D (fun h1=>?_) fun h1=>?_
 ·walk_at "q"
  refine R.B (fun h2=>?_) fun h2=>?_
  rotate_left
  ·have h2:x.length<=6:=by simp at h2; lia
   walk_at "q"
   refine b8 (fun _=>true) (fun d=>match d with
    | .str z=>.bl (inS z abc)
    | d=>d) (fun ρ=>∃ o,ρ=[o]) _ _ _ ⟨_,rfl⟩ ?_ ?_
   ·rintro y hy ρ ⟨o,rfl⟩ N1 N2 _ h2
    obtain ⟨c,hc,rfl⟩:=xai.mp hy
    walk_at "q"
    exact ⟨.inl rfl,h2 _ ⟨_,rfl⟩ rfl⟩
   ·rw [fC]
    refine ⟨(sg x).map isLet,?_,?_⟩
    ·unfold sgnD
     rw [xaw,xaw]
     refine xbu fun c _=>?_
     show D.bl (inS ⟨#[c]⟩ abc)=_
     rw [Ae]; rfl
    ·rw [decide_eq_true (by lia),Bool.true_and] at h
     rw [List.all_map]
     exact h
  ·have h2:¬ x.length<=6:=by simp at h2; lia
   walk_at "q"
   rw [decide_eq_false (by lia),Bool.false_and] at h
   exact h
 ·walk_at "q"
  rw [decide_eq_false (by lia),Bool.false_and] at h
  exact h
def jc:WS :=
 (wRet (wUn kJ (g_ (iz (wOp fIx (wVar 0) (wC (.int 1)))) (gN 0) wYes (wOp fIx (wVar 0) (wC (.int 1))) 1 [])))
def cg:SpD:=fun ds Q=>∃ (many:Int) (steps:List Stp),ds=[mD many steps]/\steps.length<=2000/\∀ names:List Str,names.Nodup->(∀ n,n∈names↔n∈dsOf steps)->Q (.ow true) (.list (names.map .str))
theorem p_ (ds Q) (h:cg ds Q):ds.length=["m"].length:=by obtain ⟨_,_,rfl,_⟩:=h; rfl
theorem uV:∀ ds Q,cg ds Q->jc { nx:=fun _=>Q .sh .non,rt:=Q } (bh 1 ds):=by
 rintro ds Q ⟨many,steps,rfl,hz,h⟩
 unfold jc mD
 walk_at "q"
 refine b8 (fun _=>true) (fun d=>match d with
  | .tup [.int p,.str d,.int r]=>.str d
  | d=>d) (fun ρ=>∃ o,ρ=[o]) _ _ _ ⟨_,rfl⟩ ?_ ?_
 ·rintro x hx ρ ⟨o,rfl⟩ N1 N2 _ h2
  obtain ⟨⟨p,d,r⟩,hs',rfl⟩:=xai.mp hx
  unfold stpD
  walk_at "q"
  exact ⟨.inl rfl,h2 _ ⟨_,rfl⟩ rfl⟩
 ·rw [fC]
  refine ⟨(dsOf steps).map Sum.inr,false,?_,by simp [dsOf]; exact hz,?_,?_⟩
  ·unfold dsOf
   rw [xaw,xaw,xaw]; rfl
  ·intro k hk
   obtain ⟨x,_,rfl⟩:=xai.mp hk
   rfl
  ·intro ms nd mm pw
   have hall:∀ k∈ms,∃ x,k=Sum.inr x/\x∈dsOf steps:=fun k hk=>by
    obtain ⟨x,hx,rfl⟩:=xai.mp ((mm k).mp hk)
    exact ⟨x,rfl,hx⟩
   obtain ⟨names,rfl⟩:∃ names:List Str,ms=names.map Sum.inr:=by
    clear nd mm pw
    induction ms with
    | nil=>exact ⟨[],rfl⟩
    | cons k ms ih =>
     obtain ⟨x,rfl,_⟩:=hall k xah
     obtain ⟨l,rfl⟩:=ih fun k hk=>hall k (xaf _ hk)
     exact ⟨x :: l,rfl⟩
   have e:(names.map (Sum.inr:Str->Key)).map keyD=names.map D.str:=by rw [xaw]; rfl
   rw [e]
   refine h names (fu nd) fun n=>?_
   have:=mm (Sum.inr n)
   simpa using this
def dN:WS :=
 (wSeq (wSet 3 (wOp fIx (wVar 1) (wC (.int 0))))
 (wSeq (wSet 4 (wLst wNil))
 (wSeq (wFrz 0 (wFor (h_ (wOp fIx (wVar 0) (wC (.int 1)))) (gT 3 (cW (gN 5) (cW (gN 6) (cW (gN 7) qL))))
 (wIfS (wB (wOp (fIn true) (wVar 6) (wVar 2)))
 (wFrz 6 (wExt (wpN 4) (g_ (gw (wVar 3)) (gN 0) wYes (wTup (ak (wOp fAdd (wOp fMul (wVar 4) (wVar 3)) (wVar 0)) (ak (wVar 1) (ak (wOp fAdd (wOp fMul (wVar 2) (wVar 3)) (wVar 0)) wNil)))) 1 [6,7,3,5])))
 cF)))
 (jy 4))))
def aY:SpD:=fun ds Q=>∃ (m n:Int) (l1 l2:List Stp) (tg:List Str),ds=[mD m l1,mD n l2,.list (tg.map .str)]/\1<=n/\n<=20/\l1.length<=80/\(∀ s∈l1,StOk 20 s)/\Q (.ow true) (.list ((l1.flatMap (onS n tg)).map stpD))
theorem jF (ds Q) (h:aY ds Q):ds.length=["one", "other", "together"].length:=by obtain ⟨_,_,_,_,_,rfl,_⟩:=h; rfl
theorem vL (n:Int) (tg:List Str) (s:Stp):(onS n tg s).length<=n.toNat:=by
 unfold onS
 split <;> simp
theorem je {l:List Stp} {g:Stp->List Stp} {k:Nat} (h:∀ s,(g s).length<=k):(l.flatMap g).length<=l.length * k:=by
 have:=yG (l:=l) (g:=g) (p:=fun _=>true) (k:=k) (fun s=>by simpa using h s)
 rwa [fC] at this
theorem mj:∀ ds Q,aY ds Q->dN { nx:=fun _=>Q .sh .non,rt:=Q } (bh 8 ds):=by
 rintro ds Q ⟨m,n,l1,l2,tg,rfl,n1,n2,hz,ok,h⟩
 unfold dN mD
 walk_at "q"
 refine cY _ (fun i ρ=>∃ (o5 o6 o7:Option Sl),ρ=[some (.sh (.tup [.int m,.list (l1.map stpD)])),some (.sh (.tup [.int n,.list (l2.map stpD)])),some (.sh (.list (tg.map .str))),some (.sh (.int n)),some (.ow true (.list (((l1.take i).flatMap (onS n tg)).map stpD))),o5,o6,o7]) ⟨_,_,_,rfl⟩ ?_ ?_
 ·rintro i x ρ hx ⟨o5,o6,o7,rfl⟩ N hN
  have hi:=(xay.mp hx).1
  rw [xac] at hi
  obtain ⟨p,d,r,rfl,ht,et⟩:=qt hx
  have hs:=ok _ ht
  have hl:=je (l:=l1.take i) (vL n tg)
  have hl2:(l1.take i).length * n.toNat<=80 * 80:=xaY (by rw [xat]; lia) (by lia)
  have a1:=hs.1
  have a2:=hs.2.1
  have a3:=hs.2.2.2.1
  have a4:=hs.2.2.2.2
  simp only at a1 a2 a3 a4
  have b1:0<=p * n:=xbm (by lia) (by lia)
  have b2:p * n<=20 * 20:=xbn (by lia) (by lia) (by lia) (by lia)
  have b3:0<=r * n:=xbm (by lia) (by lia)
  have b4:r * n<=20 * 20:=xbn (by lia) (by lia) (by lia) (by lia)
  walk_at "q"
  refine ⟨rfl,gY tg,?_⟩
  rw [pG]
  have fin:N [some (.sh (.tup [.int m,.list (l1.map stpD)])),some (.sh (.tup [.int n,.list (l2.map stpD)])),some (.sh (.list (tg.map .str))),some (.sh (.int n)),some (.ow true (.list (((l1.take i).flatMap (onS n tg)).map stpD++(onS n tg (p,d,r)).map stpD))),some (.sh (.int p)),some (.sh (.str d)),some (.sh (.int r))]:=by
   rw [<- xaP,show (l1.take i).flatMap (onS n tg)++onS n tg (p,d,r)=(l1.take (i+1)).flatMap (onS n tg) by rw [et,xcA]; simp]
   exact hN _ ⟨_,_,_,rfl⟩
  by_cases hd:d∈tg
  ·refine R.F (by simp [hd]) ?_
   walk_at "q"
   have e0:onS n tg (p,d,r)=[]:=if_pos hd
   rw [e0,xcu,xaF] at fin
   exact fin
  ·refine R.T (by simp [hd]) ?_
   walk_at "q"
   refine ⟨by lia,by lia,b8 (fun _=>true) (fun x=>match x with
    | .int q=>.tup [.int (p * n+q),.str d,.int (r * n+q)]
    | x=>x) (fun ρ=>∃ o,ρ=[o,some (.sh (.str d)),some (.sh (.int r)),some (.sh (.int n)),some (.sh (.int p))]) _ _ _ ⟨_,rfl⟩ ?_ ?_⟩
   ·rintro y hy ρ ⟨o,rfl⟩ N1 N2 _ h2
    obtain ⟨q,hq,rfl⟩:=n_ hy
    walk_at "q"
    exact ⟨.inl ⟨by lia,by lia⟩,.inl ⟨by lia,by lia⟩,.inl rfl,h2 _ ⟨_,rfl⟩ rfl⟩
   ·rw [fC]
    have e0:(gG 0 n.toNat).map (fun x=>match x with
     | .int q=>D.tup [.int (p * n+q),.str d,.int (r * n+q)]
     | x=>x)=(onS n tg (p,d,r)).map stpD:=by
     rw [show onS n tg (p,d,r)=_ from if_neg hd]
     unfold gG
     rw [xaw,xaw]; rfl
    rw [e0]
    have:=vL n tg (p,d,r)
    exact ⟨bZ _,by rw [xac]; lia,fin⟩
 ·rintro ρ ⟨o5,o6,o7,rfl⟩
  rw [xac,xbB]
  walk_at "q"
  exact h
def cZ:WS :=
 (wSeq (wSet 3 (wOp fIx (wVar 1) (wC (.int 0))))
 (wSeq (wSet 4 (wLst wNil))
 (wSeq (wFrz 1 (wFor (h_ (wOp fIx (wVar 1) (wC (.int 1)))) (gT 3 (cW (gN 5) (cW (gN 6) (cW (gN 7) qL))))
 (wIfS (wB (wOp (fIn true) (wVar 6) (wVar 2)))
 (wFrz 6 (wExt (wpN 4) (g_ (gw (wOp fIx (wVar 0) (wC (.int 0)))) (gN 0) wYes (wTup (ak (wOp fAdd (wOp fMul (wVar 0) (wVar 3)) (wVar 4)) (ak (wVar 1) (ak (wOp fAdd (wOp fMul (wVar 0) (wVar 3)) (wVar 2)) wNil)))) 1 [6,7,3,5])))
 cF)))
 (jy 4))))
def aM:SpD:=fun ds Q=>∃ (m n:Int) (l1 l2:List Stp) (tg:List Str),ds=[mD m l1,mD n l2,.list (tg.map .str)]/\1<=m/\m<=20/\1<=n/\n<=20/\l2.length<=80/\(∀ s∈l2,StOk 20 s)/\Q (.ow true) (.list ((l2.flatMap (otS m n tg)).map stpD))
theorem gO (ds Q) (h:aM ds Q):ds.length=["one", "other", "together"].length:=by obtain ⟨_,_,_,_,_,rfl,_⟩:=h; rfl
theorem vK (m n:Int) (tg:List Str) (s:Stp):(otS m n tg s).length<=m.toNat:=by
 unfold otS
 split <;> simp
theorem jE:∀ ds Q,aM ds Q->cZ { nx:=fun _=>Q .sh .non,rt:=Q } (bh 8 ds):=by
 rintro ds Q ⟨m,n,l1,l2,tg,rfl,m1,m2,n1,n2,hz,ok,h⟩
 unfold cZ mD
 walk_at "q"
 refine cY _ (fun i ρ=>∃ (o5 o6 o7:Option Sl),ρ=[some (.sh (.tup [.int m,.list (l1.map stpD)])),some (.sh (.tup [.int n,.list (l2.map stpD)])),some (.sh (.list (tg.map .str))),some (.sh (.int n)),some (.ow true (.list (((l2.take i).flatMap (otS m n tg)).map stpD))),o5,o6,o7]) ⟨_,_,_,rfl⟩ ?_ ?_
 ·rintro i x ρ hx ⟨o5,o6,o7,rfl⟩ N hN
  have hi:=(xay.mp hx).1
  rw [xac] at hi
  obtain ⟨p,d,r,rfl,ht,et⟩:=qt hx
  have hs:=ok _ ht
  have hl:=je (l:=l2.take i) (vK m n tg)
  have hl2:(l2.take i).length * m.toNat<=80 * 80:=xaY (by rw [xat]; lia) (by lia)
  have a1:=hs.1
  have a2:=hs.2.1
  have a3:=hs.2.2.2.1
  have a4:=hs.2.2.2.2
  simp only at a1 a2 a3 a4
  walk_at "q"
  refine ⟨rfl,gY tg,?_⟩
  rw [pG]
  have fin:N [some (.sh (.tup [.int m,.list (l1.map stpD)])),some (.sh (.tup [.int n,.list (l2.map stpD)])),some (.sh (.list (tg.map .str))),some (.sh (.int n)),some (.ow true (.list (((l2.take i).flatMap (otS m n tg)).map stpD++(otS m n tg (p,d,r)).map stpD))),some (.sh (.int p)),some (.sh (.str d)),some (.sh (.int r))]:=by
   rw [<- xaP,show (l2.take i).flatMap (otS m n tg)++otS m n tg (p,d,r)=(l2.take (i+1)).flatMap (otS m n tg) by rw [et,xcA]; simp]
   exact hN _ ⟨_,_,_,rfl⟩
  by_cases hd:d∈tg
  ·refine R.F (by simp [hd]) ?_
   walk_at "q"
   have e0:otS m n tg (p,d,r)=[]:=if_pos hd
   rw [e0,xcu,xaF] at fin
   exact fin
  ·refine R.T (by simp [hd]) ?_
   walk_at "q"
   refine ⟨by lia,by lia,b8 (fun _=>true) (fun x=>match x with
    | .int q=>.tup [.int (q * n+p),.str d,.int (q * n+r)]
    | x=>x) (fun ρ=>∃ o,ρ=[o,some (.sh (.str d)),some (.sh (.int r)),some (.sh (.int n)),some (.sh (.int p))]) _ _ _ ⟨_,rfl⟩ ?_ ?_⟩
   ·rintro y hy ρ ⟨o,rfl⟩ N1 N2 _ h2
    obtain ⟨q,hq,rfl⟩:=n_ hy
    have b1:0<=(0+(q:Int)) * n:=xbm (by lia) (by lia)
    have b2:(0+(q:Int)) * n<=20 * 20:=xbn (by lia) (by lia) (by lia) (by lia)
    walk_at "q"
    exact ⟨.inl ⟨by lia,by lia⟩,.inl ⟨by lia,by lia⟩,.inl rfl,h2 _ ⟨_,rfl⟩ rfl⟩
   ·rw [fC]
    have e0:(gG 0 m.toNat).map (fun x=>match x with
     | .int q=>D.tup [.int (q * n+p),.str d,.int (q * n+r)]
     | x=>x)=(otS m n tg (p,d,r)).map stpD:=by
     rw [show otS m n tg (p,d,r)=_ from if_neg hd]
     unfold gG
     rw [xaw,xaw]; rfl
    rw [e0]
    have:=vK m n tg (p,d,r)
    exact ⟨bZ _,by rw [xac]; lia,fin⟩
 ·rintro ρ ⟨o5,o6,o7,rfl⟩
  rw [xac,xbB]
  walk_at "q"
  exact h
def dg:WS :=
 (wSeq (wSet 3 (wOp fIx (wVar 1) (wC (.int 0))))
 (wSeq (wSet 4 (wLst wNil))
 (wSeq (wFrz 0 (wFor (h_ (wOp fIx (wVar 0) (wC (.int 1)))) (gT 3 (cW (gN 5) (cW (gN 6) (cW (gN 7) qL))))
 (wIfS (wB (wOp (fIn false) (wVar 6) (wVar 2)))
 (wSeq (wSet 8 (g_ (iz (wOp fIx (wVar 1) (wC (.int 1)))) (gN 0) (wB (wOp fEq (wOp fIx (wVar 0) (wC (.int 1))) (wVar 1))) (wVar 0) 1 [6]))
 (wFrz 6 (wExt (wpN 4) (g_ (iz (wVar 8)) (gN 0) wYes (wTup (ak (wOp fAdd (wOp fMul (wVar 4) (wVar 3)) (wOp fIx (wVar 0) (wC (.int 0)))) (ak (wVar 1) (ak (wOp fAdd (wOp fMul (wVar 2) (wVar 3)) (wOp fIx (wVar 0) (wC (.int 2)))) wNil)))) 1 [6,7,3,5]))))
 cF)))
 (jy 4))))
def aN:SpD:=fun ds Q=>∃ (m n:Int) (l1 l2:List Stp) (tg:List Str),ds=[mD m l1,mD n l2,.list (tg.map .str)]/\1<=n/\n<=20/\l1.length<=80/\l2.length<=80/\(∀ s∈l1,StOk 20 s)/\(∀ s∈l2,StOk 20 s)/\Q (.ow true) (.list ((l1.flatMap (toS n tg l2)).map stpD))
theorem iQ (ds Q) (h:aN ds Q):ds.length=["one", "other", "together"].length:=by obtain ⟨_,_,_,_,_,rfl,_⟩:=h; rfl
theorem xx (n:Int) (tg:List Str) (l2:List Stp) (s:Stp):(toS n tg l2 s).length<=l2.length:=by
 unfold toS
 split
 ·rw [xac]; exact xcp _ _
 ·simp
theorem jD:∀ ds Q,aN ds Q->dg { nx:=fun _=>Q .sh .non,rt:=Q } (bh 9 ds):=by
 rintro ds Q ⟨m,n,l1,l2,tg,rfl,n1,n2,hz,hz2,ok,ok2,h⟩
 unfold dg mD
 walk_at "q"
 refine cY _ (fun i ρ=>∃ (o5 o6 o7 o8:Option Sl),ρ=[some (.sh (.tup [.int m,.list (l1.map stpD)])),some (.sh (.tup [.int n,.list (l2.map stpD)])),some (.sh (.list (tg.map .str))),some (.sh (.int n)),some (.ow true (.list (((l1.take i).flatMap (toS n tg l2)).map stpD))),o5,o6,o7,o8]) ⟨_,_,_,_,rfl⟩ ?_ ?_
 ·rintro i x ρ hx ⟨o5,o6,o7,o8,rfl⟩ N hN
  have hi:=(xay.mp hx).1
  rw [xac] at hi
  obtain ⟨p,d,r,rfl,ht,et⟩:=qt hx
  have hs:=ok _ ht
  have hl:=je (l:=l1.take i) (xx n tg l2)
  have hl2:(l1.take i).length * l2.length<=80 * 80:=xaY (by rw [xat]; lia) (by lia)
  have a1:=hs.1
  have a2:=hs.2.1
  have a3:=hs.2.2.2.1
  have a4:=hs.2.2.2.2
  simp only at a1 a2 a3 a4
  have b1:0<=p * n:=xbm (by lia) (by lia)
  have b2:p * n<=20 * 20:=xbn (by lia) (by lia) (by lia) (by lia)
  have b3:0<=r * n:=xbm (by lia) (by lia)
  have b4:r * n<=20 * 20:=xbn (by lia) (by lia) (by lia) (by lia)
  walk_at "q"
  refine ⟨rfl,gY tg,?_⟩
  rw [pG]
  have fin:∀ o,N [some (.sh (.tup [.int m,.list (l1.map stpD)])),some (.sh (.tup [.int n,.list (l2.map stpD)])),some (.sh (.list (tg.map .str))),some (.sh (.int n)),some (.ow true (.list (((l1.take i).flatMap (toS n tg l2)).map stpD++(toS n tg l2 (p,d,r)).map stpD))),some (.sh (.int p)),some (.sh (.str d)),some (.sh (.int r)),o]:=fun o=>by
   rw [<- xaP,show (l1.take i).flatMap (toS n tg l2)++toS n tg l2 (p,d,r)=(l1.take (i+1)).flatMap (toS n tg l2) by rw [et,xcA]; simp]
   exact hN _ ⟨_,_,_,_,rfl⟩
  by_cases hd:d∈tg
  ·refine R.T (by simp [hd]) ?_
   walk_at "q"
   refine b8 (fun x=>match x with
    | .tup [_,.str e,_]=>decide (e=d)
    | _=>false) (fun x=>x) (fun ρ=>∃ o,ρ=[o,some (.sh (.str d))]) _ _ _ ⟨_,rfl⟩ ?_ ?_
   ·rintro y hy ρ ⟨o,rfl⟩ N1 N2 n1 n2
    obtain ⟨⟨u,e,v⟩,hs',rfl⟩:=xai.mp hy
    unfold stpD
    walk_at "q"
    by_cases e0:e=d
    ·rw [if_pos (decide_eq_true e0)]
     exact ⟨.inl rfl,n2 _ ⟨_,rfl⟩ (decide_eq_true e0)⟩
    ·rw [if_neg (by simp [e0])]
     exact n1 _ ⟨_,rfl⟩ (decide_eq_false e0)
   ·rw [List.map_id']
    have e1:(l2.map stpD).filter (fun x=>match x with
     | .tup [_,.str e,_]=>decide (e=d)
     | _=>false)=(l2.filter fun t=>decide (t.2.1=d)).map stpD:=by
     rw [List.filter_map]; rfl
    rw [e1]
    have ml:=xcp (fun t:Stp=>decide (t.2.1=d)) l2
    refine b8 (fun _=>true) (fun x=>match x with
     | .tup [.int u,e,.int v]=>.tup [.int (p * n+u),.str d,.int (r * n+v)]
     | x=>x) (fun ρ=>∃ o,ρ=[o,some (.sh (.str d)),some (.sh (.int r)),some (.sh (.int n)),some (.sh (.int p))]) _ _ _ ⟨_,rfl⟩ ?_ ?_
    ·rintro y hy ρ ⟨o,rfl⟩ N1 N2 _ h2
     obtain ⟨⟨u,e,v⟩,hs',rfl⟩:=xai.mp hy
     unfold stpD
     walk_at "q"
     exact ⟨.inl ⟨by lia,by lia⟩,.inl ⟨by lia,by lia⟩,.inl rfl,h2 _ ⟨_,rfl⟩ rfl⟩
    ·rw [fC]
     have e0:((l2.filter fun t=>decide (t.2.1=d)).map stpD).map (fun x=>match x with
      | .tup [.int u,e,.int v]=>.tup [.int (p * n+u),.str d,.int (r * n+v)]
      | x=>x)=(toS n tg l2 (p,d,r)).map stpD:=by
      rw [show toS n tg l2 (p,d,r)=_ from if_pos hd]
      rw [xaw,xaw]; rfl
     rw [e0]
     have:=xx n tg l2 (p,d,r)
     exact ⟨bZ _,by rw [xac]; lia,fin _⟩
  ·refine R.F (by simp [hd]) ?_
   walk_at "q"
   have e0:toS n tg l2 (p,d,r)=[]:=if_neg hd
   rw [e0,xcu,xaF] at fin
   exact fin _
 ·rintro ρ ⟨o5,o6,o7,o8,rfl⟩
  rw [xac,xbB]
  walk_at "q"
  exact h
def dI:WS :=
 (wSeq (wIfS (wB (wOp fLt (wVar 1) (wUn fLen (wVar 0))))
 (wRet (wOp fIx (wVar 0) (wVar 1)))
 cF)
 (wRet (wC (.int 0))))
def aD:SpD:=fun ds Q=>∃ (ns:List Int) (k:Int),ds=[.list (ns.map .int),.int k]/\0<=k/\Q .sh (.int (ns.getD k.toNat 0))
theorem jA (ds Q) (h:aD ds Q):ds.length=["_law_script", "_law_k"].length:=by obtain ⟨_,_,rfl,_⟩:=h; rfl
theorem lO:∀ ds Q,aD ds Q->dI { nx:=fun _=>Q .sh .non,rt:=Q } (bh 2 ds):=by
 rintro ds Q ⟨ns,k,rfl,hk,h⟩
 unfold dI
 walk_at "q"
 refine R.D (fun hl=>?_) fun hl=>?_
 ·walk_at "q"
  have hn:k.toNat<ns.length:=by lia
  refine ⟨.int ns[k.toNat],?_,?_⟩
  ·have:=atI_nat (xs:=ns.map D.int) (j:=k.toNat) (v:=.int ns[k.toNat]) (by simp [hn])
   rwa [xaW hk] at this
  ·show Q .sh _; simpa [List.getD,hn] using h
 ·walk_at "q"
  have:ns.getD k.toNat 0=0:=by
   have:ns.length<=k.toNat:=by lia
   simp [List.getD,xa1 this]
  rwa [this] at h
def gf:WS :=
 (wSeq (wSet 2 (wC (.str "abcdefghijklmnopqrstuvwxyz")))
 (wSeq (wSet 3 (wOp fAdd (wC (.int 1)) (wOp fMod (wVar 0) (wC (.int 6)))))
 (wSeq (wSet 0 (wOp fDiv (wVar 0) (wC (.int 6))))
 (wSeq (wSet 4 (wLst wNil))
 (wSeq (wFor (gw (wVar 3)) (gN 5)
 (wSeq (wApp (wpN 4) (wOp fMod (wVar 0) (wC (.int 26))))
 (wSet 0 (wOp fDiv (wVar 0) (wC (.int 26))))))
 (wSeq (wSet 6 (uJ (wC (.str "")) (g_ (iz (wVar 4)) (gN 0) wYes (wOp fIx (wVar 1) (wVar 0)) 1 [2])))
 (wSeq (wIfS (wB (wOp fEq (wOp fMod (wOp fDiv (wVar 1) (wC (.int 6))) (wC (.int 3))) (wC (.int 1))))
 (wRet (g_ (uL (wC (.int 1)) (wC (.int 7))) (gN 0) wYes (wSl (wOp yr (wC (.int 6)) (wVar 1)) gF (jU (wVar 0))) 1 [6]))
 cF)
 (wSeq (wSet 7 (wOp fMod (wVar 1) (wVar 3)))
 (wSeq (wSet 8 (wLst wNil))
 (wSeq (wFor (gw (wC (.int 6))) (gN 5)
 (wSeq (wSet 9 (wOp fIx (wVar 2) (wOp fMod (wOp fAdd (wOp fIx (wVar 4) (wVar 7)) (wOp fMul (wC (.int 5)) (wVar 5))) (wC (.int 26)))))
 (wApp (wpN 8) (wOp fAdd (wOp fAdd (wSl (wVar 6) gF (jU (wVar 7))) (wVar 9)) (wSl (wVar 6) (jU (wOp fAdd (wVar 7) (wC (.int 1)))) gF)))))
 (jy 8)))))))))))
theorem sZ {n d:Nat} {k:Int} (h0:0<=k) (h1:k<=n):HT.sIx n d (some k)=k.toNat:=by
 simp only [HT.sIx]
 rw [if_neg (by lia)]
 lia
theorem sE {x:Str} {k:Int} (h0:0<=k) (h1:k<=x.length):(cutS x none (some k)).length=k.toNat:=by
 unfold cutS Str.length at *
 simp only [xan,xat,xa4,xaK]
 rw [sZ h0 (by simpa using h1)]
 simp [HT.sIx]
 lia
theorem Aw {x:Str} {k:Int} (h0:0<=k) (h1:k<=x.length):(cutS x (some k) none).length=x.length - k.toNat:=by
 unfold cutS Str.length at *
 simp only [xan,xat,xa4,xaK]
 rw [sZ h0 (by simpa using h1)]
 simp [HT.sIx]
theorem yR {n:Int} {z:Str} (h:lets z):lets (repS n z):=fun c hc=>by
 unfold repS sg at hc
 rw [List.toList_toArray] at hc
 obtain ⟨l,hl,hcl⟩:=List.mem_flatten.mp hc
 rw [List.eq_of_mem_replicate hl] at hcl
 exact h c hcl
theorem nq:∀ (l:List Str),lG (l.map D.str)=some l
 | []=>rfl
 | x :: l=>by simp [lG,nq l]
theorem wY {p:Int} (h0:0<=p) (h1:p<26):atI (sg abc) p=some (97+p.toNat):=by
 have:atI (sg abc) ((p.toNat:Nat):Int)=some (97+p.toNat):=atI_nat (by
  rw [n8]
  have:p.toNat<26:=by lia
  simp [this])
 rwa [xaW h0] at this
theorem jq:∀ l:List Nat,sg (Str.join "" (l.map fun c=>(⟨#[c]⟩:Str)))=l
 | []=>by decide +kernel
 | [c]=>rfl
 | c :: d :: l=>by
  have ih:=jq (d :: l)
  show sg ((⟨#[c]⟩:Str) ++ "" ++ Str.join "" ((d :: l).map fun c=>(⟨#[c]⟩:Str)))=_
  rw [ju,ju,ih,show sg ("" : Str)=[] by decide +kernel]
  rfl
theorem uw:∀ l:List Nat,(l.map fun _=>1).sum=l.length
 | []=>rfl
 | x :: l=>by simp [uw l]; lia
def bK:SpD:=fun ds Q=>∃ c t:Int,ds=[.int c,.int t]/\∀ names:List Str,names.length=6->(∀ n∈names,Open n)->names.Nodup->Q (.ow true) (.list (names.map .str))
theorem mL (ds Q) (h:bK ds Q):ds.length=["_law_cell", "_law_turn"].length:=by obtain ⟨_,_,rfl,_⟩:=h; rfl
theorem qR:∀ ds Q,bK ds Q->gf { nx:=fun _=>Q .sh .non,rt:=Q } (bh 10 ds):=by
 rintro ds Q ⟨c,t,rfl,h⟩
 unfold gf
 walk_at "q"
 have s0:=xaM c (show (6:Int)≠0 by decide)
 have s1:=xaH c (show (0:Int)<6 by decide)
 generalize hsz:1+c % 6=size at *
 refine ⟨by lia,by lia,?_⟩
 refine cY _ (fun i ρ=>∃ (cc:Int) (ps:List Int) (o:Option Sl),ps.length=i/\(∀ p∈ps,0<=p/\p<26)/\ρ=[some (.sh (.int cc)),some (.sh (.int t)),some (.sh (.str abc)),some (.sh (.int size)),some (.ow true (.list (ps.map .int))),o,none,none,none,none]) ⟨_,[],_,rfl,(fun p hp=>nomatch hp),rfl⟩ ?_ ?_
 ·rintro i x ρ hx ⟨cc,ps,o,hl,hp,rfl⟩ N hN
  obtain ⟨hi,rfl⟩:=jf hx
  walk_at "q"
  refine ⟨by lia,?_⟩
  rw [ints_app]
  refine hN _ ⟨_,ps++[cc % 26],_,by simp [hl],fun p hp'=>?_,rfl⟩
  rcases xak.mp hp' with h' | h'
  ·exact hp p h'
  ·rw [xaV.mp h']
   exact ⟨xaM _ (by decide),xaH _ (by decide)⟩
 rintro ρ ⟨cc,ps,o,hl,hp,rfl⟩
 rw [nZ] at hl
 walk_at "q"
 have e0:(Str.ofString "").length=0:=by decide
 refine b8 (fun _=>true) (fun d=>match d with
  | .int p=>.str ⟨#[97+p.toNat]⟩
  | d=>d) (fun ρ=>∃ o,ρ=[o,some (.sh (.str abc))]) _ _ _ ⟨_,rfl⟩ ?_ ?_
 ·rintro y hy ρ ⟨o,rfl⟩ N1 N2 _ h2
  obtain ⟨p,hp',rfl⟩:=xai.mp hy
  walk_at "q"
  exact ⟨_,wY (hp p hp').1 (hp p hp').2,.inl rfl,h2 _ ⟨_,rfl⟩ rfl⟩
 rw [fC]
 refine ⟨(ps.map fun p=>97+p.toNat).map fun c=>⟨#[c]⟩,?_,?_,?_⟩
 ·rw [xaw,<- nq,xaw,xaw]; rfl
 ·rw [e0,xaw,Nat.mul_zero,xbY]
  show ((ps.map fun p=>97+p.toNat).map fun _=>1).sum<=_
  rw [uw,xac]; lia
 have hw:=jq (ps.map fun p=>97+p.toNat)
 generalize Str.join "" ((ps.map fun p=>97+p.toNat).map fun c=>(⟨#[c]⟩:Str))=word at hw ⊢
 have wl:word.length=size.toNat:=by
  have:(sg word).length=size.toNat:=by rw [hw,xac,hl]
  rw [<- this]; unfold sg Str.length; simp
 have wlet:lets word:=fun ch hc=>by
  rw [hw] at hc
  obtain ⟨p,hp',rfl⟩:=xai.mp hc
  have:=hp p hp'
  simp [isLet]; lia
 refine R.D (fun _=>?_) fun _=>?_
 ·walk_at "q"
  refine b8 (fun _=>true) (fun d=>match d with
   | .int k=>.str (cutS (repS 6 word) none (some k))
   | d=>d) (fun ρ=>∃ o,ρ=[o,some (.sh (.str word))]) _ _ _ ⟨_,rfl⟩ ?_ ?_
  ·rintro y hy ρ ⟨o,rfl⟩ N1 N2 _ h2
   obtain ⟨i,hi,rfl⟩:=n_ hy
   walk_at "q"
   exact ⟨by lia,.inl rfl,h2 _ ⟨_,rfl⟩ rfl⟩
  ·rw [fC]
   have e6:(List.map (fun d=>match d with
    | .int k=>D.str (cutS (repS 6 word) none (some k))
    | d=>d) (gG 1 6))=((List.range 6).map fun i=>cutS (repS 6 word) none (some (1+(i:Nat):Int))).map D.str:=by
    unfold gG
    rw [xaw,xaw]
    rfl
   rw [e6]
   have l0:∀ i:Nat,i<6->(cutS (repS 6 word) none (some (1+(i:Nat):Int))).length=(1+(i:Int)).toNat:=fun i hi=>sE (by lia) (by rw [pA,wl]; simp; lia)
   refine h _ (by simp) (fun n hn=>?_) ?_
   rotate_left
   ·rw [List.Nodup,xaG]
    refine List.Pairwise.imp_of_mem (fun {a b} ha hb hab e=>?_) xck
    have ha:=l0 a (by simpa using ha)
    have hb:=l0 b (by simpa using hb)
    rw [e] at ha
    lia
   obtain ⟨i,hi,rfl⟩:=xai.mp hn
   have hi:i<6:=by simpa using hi
   have l1:(cutS (repS 6 word) none (some (1+(i:Nat):Int))).length=(1+(i:Int)).toNat:=sE (by lia) (by rw [pA,wl]; simp; lia)
   exact ⟨by rw [l1]; lia,by rw [l1]; lia,oE (yR wlet) _ _⟩
 ·walk_at "q"
  refine ⟨by lia,?_⟩
  have a0:=xaM t (show size≠0 by lia)
  have a1:=xaH t (show 0<size by lia)
  generalize t % size=at' at *
  have l1:(cutS word none (some at')).length=at'.toNat:=sE a0 (by lia)
  have l2:(cutS word (some (at'+1)) none).length=word.length - (at'+1).toNat:=Aw (by lia) (by lia)
  refine cY _ (fun i ρ=>∃ (names:List Str) (o5 o9:Option Sl),names=(List.range i).map (fun k=>cutS word none (some at') ++ ⟨#[97+((ps.getD at'.toNat 0+5 * (0+(k:Int))) % 26).toNat]⟩++cutS word (some (at'+1)) none)/\(∀ n∈names,Open n)/\ρ=[some (.sh (.int cc)),some (.sh (.int t)),some (.sh (.str abc)),some (.sh (.int size)),some (.ow true (.list (ps.map .int))),o5,some (.sh (.str word)),some (.sh (.int at')),some (.ow true (.list (names.map .str))),o9]) ⟨[],_,_,rfl,(fun n hn=>nomatch hn),rfl⟩ ?_ ?_
  ·rintro i x ρ hx ⟨names,o5,o9,hn,hd,rfl⟩ N hN
   obtain ⟨hi,rfl⟩:=jf hx
   have hi:i<6:=hi
   have hnl:names.length=i:=by rw [hn,xac,xbq]
   walk_at "q"
   have hat:at'.toNat<ps.length:=by lia
   refine ⟨.int ps[at'.toNat],?_,?_⟩
   ·have:=atI_nat (xs:=ps.map D.int) (j:=at'.toNat) (v:=.int ps[at'.toNat]) (by simp [hat])
    rwa [xaW a0] at this
   walk_at "q"
   obtain ⟨ch,ec,lc⟩:=Cw (ps[at'.toNat]+5 * (0+(i:Int)))
   have ech:ch=97+((ps.getD at'.toNat 0+5 * (0+(i:Int))) % 26).toNat:=by
    have:=wY (xaM (ps[at'.toNat]+5 * (0+(i:Int))) (show (26:Int)≠0 by decide)) (xaH _ (by decide))
    rw [this] at ec
    rw [show ps.getD at'.toNat 0=ps[at'.toNat] by simp [List.getD,hat]]
    exact (Option.some.inj ec).symm
   refine ⟨.inl ⟨by lia,by lia⟩,ch,ec,?_⟩
   refine ⟨by rw [l1,gh]; lia,by rw [l1,l2,gh]; lia,by lia,?_⟩
   rw [yt]
   refine hN _ ⟨names++[_],_,_,by rw [List.range_succ,xaP,<- hn,ech,List.map_singleton],fun n hn'=>?_,rfl⟩
   rcases xak.mp hn' with h' | h'
   ·exact hd n h'
   ·obtain rfl:n=_:=by simpa using h'
    refine ⟨?_,?_,tQ (tQ (oE wlet _ _) (zr lc)) (oE wlet _ _)⟩
    ·rw [b_,b_,l1,l2,gh]; lia
    ·rw [b_,b_,l1,l2,gh]; lia
  ·rintro ρ ⟨names,o5,o9,hn,hd,rfl⟩
   rw [nZ] at hn
   walk_at "q"
   refine h names (by rw [hn,xac,xbq]) hd ?_
   rw [hn,List.Nodup,xaG]
   refine List.Pairwise.imp_of_mem (fun {a b} ha hb hab e=>?_) xck
   have ha:a<6:=by simpa using ha
   have hb:b<6:=by simpa using hb
   have e:=congrArg sg e
   rw [ju,ju,ju,ju,List.append_cancel_right_eq,List.append_cancel_left_eq] at e
   have e:97+((ps.getD at'.toNat 0+5 * (0+(a:Int))) % 26).toNat=97+((ps.getD at'.toNat 0+5 * (0+(b:Int))) % 26).toNat:=by simpa [sg] using e
   generalize ps.getD at'.toNat 0=z at e
   exact hab (by lia)
def fD:WS :=
 (wSeq (wSet 3 (wLst wNil))
 (wSeq (wFor (gw (wUn fLen (wVar 0))) (gN 4)
 (wSeq (wSet 5 (wOp fMod (wOp fMul (wOp fAdd (wOp fMod (wOp fIx (wVar 0) (wVar 4)) (wC (.int 2147483647))) (wC (.int 1))) (wOp fAdd (wC (.int 48271)) (wOp fMul (wC (.int 7)) (wVar 4)))) (wC (.int 2147483647))))
 (wSeq (wSet 6 (wOp fIx (wVar 2) (wOp fMod (wOp fDiv (wVar 5) (wVar 1)) (wUn fLen (wVar 2)))))
 (wFrz 6 (wApp (wpN 3) (wTup (ak (wOp fMod (wVar 5) (wVar 1)) (ak (wVar 6) (ak (wOp fMod (wOp fDiv (wVar 5) (wOp fMul (wVar 1) (wUn fLen (wVar 2)))) (wVar 1)) wNil)))))))))
 (jy 3)))
def bR:SpD:=fun ds Q=>∃ (cells:List Int) (many:Int) (names:List Str),ds=[.list (cells.map .int),.int many,.list (names.map .str)]/\cells.length<=200/\1<=many/\many<=20/\1<=names.length/\names.length<=20/\(∀ n∈names,Deed n)/\∀ l:List Stp,(∀ s∈l,StOk many s)->(∀ s∈l,s.2.1∈names)->l.length=cells.length->Q (.ow true) (.list (l.map stpD))
theorem mJ (ds Q) (h:bR ds Q):ds.length=["_law_cells", "_law_many", "_law_deeds_here"].length:=by obtain ⟨_,_,_,rfl,_⟩:=h; rfl
theorem qC:∀ ds Q,bR ds Q->fD { nx:=fun _=>Q .sh .non,rt:=Q } (bh 7 ds):=by
 rintro ds Q ⟨cells,many,names,rfl,hc,m1,m2,n1,n2,hd,h⟩
 unfold fD
 walk_at "q"
 refine ⟨by lia,by lia,?_⟩
 refine cY _ (fun i ρ=>∃ (l:List Stp) (o4 o5 o6:Option Sl),(∀ s∈l,StOk many s)/\(∀ s∈l,s.2.1∈names)/\l.length=i/\ρ=[some (.sh (.list (cells.map .int))),some (.sh (.int many)),some (.sh (.list (names.map .str))),some (.ow true (.list (l.map stpD))),o4,o5,o6]) ⟨[],_,_,_,(fun s hs=>nomatch hs),(fun s hs=>nomatch hs),rfl,rfl⟩ ?_ ?_
 ·rintro i x ρ hx ⟨l,o4,o5,o6,hs,hs2,hl,rfl⟩ N hN
  obtain ⟨hi,rfl⟩:=jf hx
  have hi:i<cells.length:=by lia
  walk_at "q"
  have e0:atI (cells.map D.int) (0+(i:Int))=some (.int cells[i]):=by
   have:=atI_nat (xs:=cells.map D.int) (j:=i) (v:=.int cells[i]) (by simp [hi])
   rwa [Int.zero_add]
  refine ⟨_,e0,?_⟩
  walk_at "q"
  have c0:=xaM cells[i] (show (2147483647:Int)≠0 by decide)
  have c1:=xaH cells[i] (show (0:Int)<2147483647 by decide)
  refine ⟨.inl ⟨by lia,by lia⟩,.inl ⟨by lia,by lia⟩,⟨by lia,by lia⟩,by lia,?_⟩
  generalize (cells[i] % 2147483647+1) * (48271+7 * (0+(i:Int))) % 2147483647=num
  obtain ⟨n,hn,e⟩:=name_mod (num / many) n1
  refine ⟨.str n,e,?_⟩
  walk_at "q"
  have b1:=xaM num (show many≠0 by lia)
  have b2:=xaH num (show 0<many by lia)
  have b3:=xaM (num / (many * (names.length:Int))) (show many≠0 by lia)
  have b4:=xaH (num / (many * (names.length:Int))) (show 0<many by lia)
  have b5:many * (names.length:Int)<=20 * 20:=xbn m2 (by lia) (by lia) (by lia)
  have b6:0<many * (names.length:Int):=Int.mul_pos (by lia) (by lia)
  refine ⟨by lia,.inl ⟨by lia,by lia⟩,⟨b6,by lia⟩,by lia,by lia,?_⟩
  rw [show l.map stpD++[D.tup [D.int (num % many),D.str n,D.int (num / (many * (names.length:Int)) % many)]]=(l++[((num % many,n,num / (many * (names.length:Int)) % many):Stp)]).map stpD by simp [stpD]]
  refine hN _ ⟨_,_,_,_,fun s hs'=>?_,fun s hs'=>?_,by simp [hl],rfl⟩
  ·rcases xak.mp hs' with h' | h'
   ·exact hs s h'
   ·rw [xaV.mp h']
    exact ⟨b1,b2,hd n hn,b3,b4⟩
  ·rcases xak.mp hs' with h' | h'
   ·exact hs2 s h'
   ·rw [xaV.mp h']; exact hn
 ·rintro ρ ⟨l,o4,o5,o6,hs,hs2,hl,rfl⟩
  rw [nZ] at hl
  walk_at "q"
  exact h l hs hs2 (by lia)
def fM:WS :=
 (wRet (nU (wUn (fIsi "int") (wVar 0)) (yp (wUn (fIsi "bool") (wVar 0)))))
def aZ:SpD:=fun ds Q=>∃ i:Int,ds=[.int i]/\Q .sh (.bl true)
theorem lN (ds Q) (h:aZ ds Q):ds.length=["_law_found"].length:=by obtain ⟨_,rfl,_⟩:=h; rfl
theorem qd:∀ ds Q,aZ ds Q->fM { nx:=fun _=>Q .sh .non,rt:=Q } (bh 1 ds):=by
 rintro ds Q ⟨i,rfl,h⟩
 unfold fM
 walk_at "q"
 refine R.T rfl ?_
 walk_at "q"
 exact h
def eQ:WS :=
 (wSeq (wSet 3 (wLst wNil))
 (wSeq (wFrz 0 (wFor (h_ (wOp fIx (wVar 0) (wC (.int 1)))) (gT 3 (cW (gN 4) (cW (gN 5) (cW (gN 6) qL))))
 (wFrz 5 (wApp (wpN 3) (wTup (ak (wOp fAdd (wOp fMul (wOp fMod (wVar 4) (wVar 1)) (wVar 2)) (wOp fDiv (wVar 4) (wVar 1))) (ak (wVar 5) (ak (wOp fAdd (wOp fMul (wOp fMod (wVar 6) (wVar 1)) (wVar 2)) (wOp fDiv (wVar 6) (wVar 1))) wNil))))))))
 (wRet (wTup (ak (wOp fIx (wVar 0) (wC (.int 0))) (ak (wUn wg (wVar 3)) wNil))))))
def bC:SpD:=fun ds Q=>∃ (many n m:Int) (l:List Stp),ds=[mD many l,.int n,.int m]/\(1<=n/\n<=20)/\(1<=m/\m<=20)/\(∀ s∈l,StOk 20 s)/\l.length<=80/\∀ out:List Stp,(out.map stpK).Perm ((l.map (tfS n m)).map stpK)->(out.Pairwise fun a b=>ltP b a=false)->Q (.ow true) (mD many out)
theorem jW (ds Q) (h:bC ds Q):ds.length=["_law_m", "_law_n", "_law_many"].length:=by obtain ⟨_,_,_,_,rfl,_⟩:=h; rfl
theorem oX:∀ ds Q,bC ds Q->eQ { nx:=fun _=>Q .sh .non,rt:=Q } (bh 7 ds):=by
 rintro ds Q ⟨many,n,m,l,rfl,hn,hm,ok,hl,h⟩
 unfold eQ mD
 walk_at "q"
 refine cY _ (fun i ρ=>∃ o4 o5 o6:Option Sl,ρ=[some (.sh (.tup [.int many,.list (l.map stpD)])),some (.sh (.int n)),some (.sh (.int m)),some (.ow true (.list (((l.take i).map (tfS n m)).map stpD))),o4,o5,o6]) ⟨_,_,_,rfl⟩ ?_ ?_
 ·rintro i x ρ hx ⟨o4,o5,o6,rfl⟩ N hN
  have hi:=(xay.mp hx).1
  rw [xac] at hi
  obtain ⟨p,d,r,rfl,ht,et⟩:=qt hx
  have o:=ok _ ht
  have a1:=xaM p (show n≠0 by lia)
  have a2:=xaH p (show 0<n by lia)
  have a3:=xaM r (show n≠0 by lia)
  have a4:=xaH r (show 0<n by lia)
  walk_at "q"
  have lt:=xat (i:=i) (l:=l)
  refine ⟨by lia,.inl ⟨by lia,by lia⟩,⟨by lia,by lia⟩,by lia,.inl ⟨by lia,by lia⟩,⟨by lia,by lia⟩,by lia,hN _ ?_⟩
  rw [et,xaP,xaP]
  exact ⟨_,_,_,rfl⟩
 rintro ρ ⟨o4,o5,o6,rfl⟩
 rw [xac,xbB]
 walk_at "q"
 refine ⟨(l.map (tfS n m)).map stpK,[false,true],by rw [xaw,xaw,xaw]; rfl,fun k hk=>?_,fun ms pm pw=>?_⟩
 ·obtain ⟨s,_,rfl⟩:=xai.mp hk
  rfl
 ·obtain ⟨out,rfl,ho⟩:=oA (P:=fun s=>s∈l.map (tfS n m)) (ks:=ms) fun k hk=>by
   obtain ⟨s,hs,rfl⟩:=xai.mp (pm.mem_iff.mp hk)
   exact ⟨s,rfl,hs⟩
  rw [show (out.map stpK).map keyT=out.map stpD by rw [xaw]; rfl]
  exact h out pm (xaG.mp pw)
def fV:WS :=
 (wSeq (wIfS (wB (wOp fEq (wOp fMod (wVar 0) (wC (.int 4))) (wC (.int 1))))
 (wSeq (wSet 1 (wLst (ak (wTup (ak (wC (.int 20)) (ak (wC (.int 1)) (ak (wC (.int 1)) wNil)))) (ak (wTup (ak (wC (.int 1)) (ak (wC (.int 20)) (ak (wC (.int 1)) wNil)))) (ak (wTup (ak (wC (.int 1)) (ak (wC (.int 1)) (ak (wC (.int 20)) wNil)))) (ak (wTup (ak (wC (.int 4)) (ak (wC (.int 1)) (ak (wC (.int 5)) wNil)))) (ak (wTup (ak (wC (.int 5)) (ak (wC (.int 2)) (ak (wC (.int 2)) wNil)))) (ak (wTup (ak (wC (.int 2)) (ak (wC (.int 5)) (ak (wC (.int 2)) wNil)))) (ak (wTup (ak (wC (.int 2)) (ak (wC (.int 2)) (ak (wC (.int 5)) wNil)))) (ak (wTup (ak (wC (.int 1)) (ak (wC (.int 3)) (ak (wC (.int 6)) wNil)))) wNil))))))))))
 (wRet (wOp fIx (wVar 1) (wOp fMod (wOp fDiv (wVar 0) (wC (.int 4))) (wC (.int 8))))))
 cF)
 (wRet (wTup (ak (wOp fAdd (wC (.int 1)) (wOp fMod (wOp fDiv (wVar 0) (wC (.int 4))) (wC (.int 3)))) (ak (wOp fAdd (wC (.int 1)) (wOp fMod (wOp fDiv (wVar 0) (wC (.int 12))) (wC (.int 3)))) (ak (wOp fAdd (wC (.int 1)) (wOp fMod (wOp fDiv (wVar 0) (wC (.int 36))) (wC (.int 2)))) wNil))))))
def bV:SpD:=fun ds Q=>∃ c:Int,ds=[.int c]/\∀ a b e:Int,1<=a->1<=b->1<=e->a * b * e<=20->a<=20->b<=20->e<=20->Q .sh (.tup [.int a,.int b,.int e])
theorem mq (ds Q) (h:bV ds Q):ds.length=["_law_cell"].length:=by obtain ⟨_,rfl,_⟩:=h; rfl
theorem qH:∀ ds Q,bV ds Q->fV { nx:=fun _=>Q .sh .non,rt:=Q } (bh 2 ds):=by
 rintro ds Q ⟨c,rfl,h⟩
 unfold fV
 walk_at "q"
 refine R.D (fun e1=>?_) fun e1=>?_
 ·walk_at "q"
  have k1:=xaM (c / 4) (show (8:Int)≠0 by decide)
  have k2:=xaH (c / 4) (show (0:Int)<8 by decide)
  generalize c / 4 % 8=k at *
  rcases (show k=0\/k=1\/k=2\/k=3\/k=4\/k=5\/k=6\/k=7 by lia) with rfl | rfl | rfl | rfl | rfl | rfl | rfl | rfl
  all_goals
   refine ⟨_,rfl,?_⟩
   walk_at "q"
   exact h _ _ _ (by decide) (by decide) (by decide) (by decide) (by decide) (by decide) (by decide)
 ·walk_at "q"
  have a1:0<=c / 4 % 3/\c / 4 % 3<=2:=by lia
  have a2:0<=c / 12 % 3/\c / 12 % 3<=2:=by lia
  have a3:0<=c / 36 % 2/\c / 36 % 2<=1:=by lia
  generalize c / 4 % 3=x at *
  generalize c / 12 % 3=y at *
  generalize c / 36 % 2=z at *
  refine h _ _ _ (by lia) (by lia) (by lia) ?_ (by lia) (by lia) (by lia)
  have b1:(1+x) * (1+y)<=3 * 3:=xbn (by lia) (by lia) (by lia) (by lia)
  have b2:(1+x) * (1+y) * (1+z)<=9 * 2:=xbn b1 (by lia) (by lia) (by lia)
  lia
def dJ:WS :=
 (wSeq (wIfS (wB (wOp fGt (wOp fIx (wVar 0) (wC (.int 0))) (wC (.int 20))))
 (m7 "TooBig" (wC (.str "too many states")))
 cF)
 (wSeq (wIfS (wB (wOp fGt (wUn fLen (wOp fIx (wVar 0) (wC (.int 1)))) (wC (.int 80))))
 (m7 "TooBig" (wC (.str "too many different steps")))
 cF)
 (wIfS (wB (wOp fGt (wUn fLen (g_ (iz (bW cg (ak (wVar 0) wNil))) (gN 0) (wB (bW bA (ak (wVar 0) wNil))) (wVar 0) 1 [])) (wC (.int 6))))
 (m7 "TooBig" (wC (.str "too many different open deeds")))
 cF)))
def aO:SpD:=fun ds Q=>∃ (many:Int) (steps:List Stp) (k:Nat),ds=[mD many steps]/\steps.length<=2000/\(∀ s∈steps,Deed s.2.1)/\lZ steps k/\(Sml many steps.length k->Q .sh .non)/\(¬ Sml many steps.length k->Q (.ow false) (.str "TooBig"))
theorem jB (ds Q) (h:aO ds Q):ds.length=["m"].length:=by obtain ⟨_,_,_,rfl,_⟩:=h; rfl
theorem qY {n:Str} (h:Deed n):(decide (1<=n.length/\n.length<=6) && (sg n).all isLet)=true↔n ≠ "*" := by
 rcases h with rfl | h
 ·exact ⟨fun z=>absurd z (by decide +kernel),fun z=>absurd rfl z⟩
 ·refine ⟨fun _ e=>?_,fun _=>?_⟩
  ·subst e
   have:=h.2.2 42 (by decide +kernel)
   exact absurd this (by decide)
  ·simp only [xaC,decide_eq_true_eq,xbz]
   exact ⟨⟨h.1,h.2.1⟩,h.2.2⟩
theorem lM:∀ ds Q,aO ds Q->dJ { nx:=fun _=>Q .sh .non,rt:=Q } (bh 1 ds):=by
 rintro ds Q ⟨many,steps,k,rfl,hz,hd,hk,h1,h2⟩
 unfold dJ mD
 walk_at "q"
 refine R.D (fun a=>?_) fun a=>?_
 ·walk_at "q"
  exact h2 fun z=>by have:=z.1; lia
 walk_at "q"
 refine R.D (fun b=>?_) fun b=>?_
 ·walk_at "q"
  exact h2 fun z=>by have:=z.2.1; lia
 walk_at "q"
 refine ⟨many,steps,rfl,hz,fun names nd mm=>?_⟩
 walk_at "q"
 refine b8 (fun d=>match d with
  | .str x=>decide (1<=x.length/\x.length<=6) && (sg x).all isLet
  | _=>false) (fun d=>d) (fun ρ=>∃ o,ρ=[o]) _ _ _ ⟨_,rfl⟩ ?_ ?_
 ·rintro x hx ρ ⟨o,rfl⟩ N1 N2 n1 n2
  obtain ⟨n,hn,rfl⟩:=xai.mp hx
  walk_at "q"
  refine ⟨_,rfl,?_⟩
  walk_at "q"
  try rw [show isOpnD (.str n)=(decide (1<=n.length/\n.length<=6) && (sg n).all isLet) from rfl]
  cases e:(decide (1<=n.length/\n.length<=6) && (sg n).all isLet) with
  | true =>
   rw [if_pos rfl]
   exact ⟨.inl rfl,n2 _ ⟨_,rfl⟩ e⟩
  | false =>
   rw [if_neg xap]
   exact n1 _ ⟨_,rfl⟩ e
 ·have e1:(names.map D.str).filter (fun d=>match d with
    | .str x=>decide (1<=x.length/\x.length<=6) && (sg x).all isLet
    | _=>false)=(names.filter fun x=>decide (1<=x.length/\x.length<=6) && (sg x).all isLet).map D.str:=by
   rw [List.filter_map]; rfl
  rw [e1,xac,xac]
  have hdd:∀ x∈names,Deed x:=fun x hx=>by
   obtain ⟨s,hs',e⟩:=xai.mp ((mm x).mp hx)
   rw [<- e]; exact hd s hs'
  have hl:=hk.uniq ⟨names.filter fun x=>decide (1<=x.length/\x.length<=6) && (sg x).all isLet,nd.filter _,fun n=>by
   rw [xbf,<- mm n]
   exact ⟨fun z=>⟨z.1,(qY (hdd n z.1)).mp z.2⟩,fun z=>⟨z.1,(qY (hdd n z.1)).mpr z.2⟩⟩,rfl⟩
  rw [<- hl]
  refine R.D (fun c=>?_) fun c=>?_
  ·walk_at "q"
   exact h2 fun z=>by have:=z.2.2; lia
  ·walk_at "q"
   exact h1 ⟨by lia,by lia,by lia⟩
def e_:WS :=
 (wFrz 0 (wFor (h_ (wVar 0)) (gN 1)
 (wIfS (wNot (wB (bW bA (ak (wVar 1) wNil))))
 (m7 "NoDeed" (wC (.str "a deed that is not open")))
 cF)))
def bw:SpD:=fun ds Q=>∃ names:List Str,ds=[.list (names.map .str)]/\((∀ n∈names,Open n)->Q .sh .non)/\((∃ n,n∈names/\¬ Open n)->Q (.ow false) (.str "NoDeed"))
theorem l_ (ds Q) (h:bw ds Q):ds.length=["deeds"].length:=by obtain ⟨_,rfl,_⟩:=h; rfl
theorem qF:∀ ds Q,bw ds Q->e_ { nx:=fun _=>Q .sh .non,rt:=Q } (bh 2 ds):=by
 rintro ds Q ⟨names,rfl,h1,h2⟩
 unfold e_
 walk_at "q"
 refine cY _ (fun i ρ=>∃ o,(∀ n∈names.take i,Open n)/\ρ=[some (.sh (.list (names.map .str))),o]) ⟨_,by simp,rfl⟩ ?_ ?_
 ·rintro i x ρ hx ⟨o,ho,rfl⟩ N hN
  obtain ⟨n,rfl,hn,et⟩:=Ff hx
  walk_at "q"
  refine ⟨n,rfl,?_⟩
  walk_at "q"
  by_cases hp:Open n
  ·rw [um.mpr hp]
   walk_at "q"
   refine hN _ ⟨_,fun m hm=>?_,rfl⟩
   rw [et] at hm
   rcases xak.mp hm with hm | hm
   ·exact ho m hm
   ·have:m=n:=by simpa using hm
    rw [this]; exact hp
  ·rw [Bool.eq_false_iff.mpr fun z=>hp (um.mp z)]
   walk_at "q"
   exact h2 ⟨n,hn,hp⟩
 ·rintro ρ ⟨o,ho,rfl⟩
  rw [xac,xbB] at ho
  walk_at "q"
  exact h1 ho
def cJ:WS :=
 (wSeq (wIfS (wOr (wNot (wB (wUn (fIsi "tuple") (wVar 0)))) (wOr (wB (wOp fNe (wUn fLen (wVar 0)) (wC (.int 2)))) (wNot (wB (bW aZ (ak (wOp fIx (wVar 0) (wC (.int 0))) wNil))))))
 (wRet (wC (.bl false)))
 cF)
 (wSeq (wIfS (wNot (wB (wUn (fIsi "list") (wOp fIx (wVar 0) (wC (.int 1))))))
 (wRet (wC (.bl false)))
 cF)
 (wSeq (wFrz 0 (wFor (h_ (wOp fIx (wVar 0) (wC (.int 1)))) (gN 1)
 (wSeq (wIfS (wOr (wNot (wB (wUn (fIsi "tuple") (wVar 1)))) (wOr (wB (wOp fNe (wUn fLen (wVar 1)) (wC (.int 3)))) (wNot (wB (wUn (fIsi "str") (wOp fIx (wVar 1) (wC (.int 1))))))))
 (wRet (wC (.bl false)))
 cF)
 (wIfS (wOr (wNot (wB (bW aZ (ak (wOp fIx (wVar 1) (wC (.int 0))) wNil)))) (wNot (wB (bW aZ (ak (wOp fIx (wVar 1) (wC (.int 2))) wNil)))))
 (wRet (wC (.bl false)))
 cF))))
 (wRet (wC (.bl true))))))
def aQ:SpD:=fun ds Q=>∃ (many:Int) (l:List Stp),ds=[mD many l]/\Q .sh (.bl true)
theorem gC (ds Q) (h:aQ ds Q):ds.length=["_law_found"].length:=by obtain ⟨_,_,rfl,_⟩:=h; rfl
theorem iY:∀ ds Q,aQ ds Q->cJ { nx:=fun _=>Q .sh .non,rt:=Q } (bh 2 ds):=by
 rintro ds Q ⟨many,l,rfl,h⟩
 unfold cJ mD
 walk_at "q"
 refine R.F (by decide) ?_
 walk_at "q"
 refine R.F (by decide) ?_
 walk_at "q"
 refine ⟨many,rfl,?_⟩
 walk_at "q"
 refine R.F (by decide) ?_
 walk_at "q"
 refine cY _ (fun i ρ=>∃ o:Option Sl,ρ=[some (.sh (.tup [.int many,.list (l.map stpD)])),o]) ⟨_,rfl⟩ ?_ ?_
 ·rintro i x ρ hx ⟨o,rfl⟩ N hN
  obtain ⟨p,d,r,rfl,_,_⟩:=qt hx
  walk_at "q"
  refine R.F (by decide) ?_
  walk_at "q"
  refine R.F (by decide) ?_
  walk_at "q"
  refine R.F (by decide) ?_
  walk_at "q"
  refine ⟨p,rfl,?_⟩
  walk_at "q"
  refine ⟨r,rfl,?_⟩
  walk_at "q"
  exact hN _ ⟨_,rfl⟩
 ·rintro ρ ⟨o,rfl⟩
  walk_at "q"
  exact h
def cD:WS :=
 (wApp (wpN 6) (wTup (ak (wOp fIx (wVar 3) (wVar 7)) (ak (wUn iH (bW bR (ak (Bm (wVar 5) (jU (wVar 7)) gF (jU (wC (.int 3)))) (ak (wOp fIx (wVar 3) (wVar 7)) (ak (wVar 1) wNil))))) wNil))))
def gq:WS :=
 (jy 6)
def dG:WS :=
 (wSeq (wFor (gw (wC (.int 3))) (gN 7)
 cD)
 gq)
def cQ:WS :=
 (wSeq (wSet 5 (wSl (wVar 0) (jU (wC (.int 6))) (jU (wOp fAdd (wC (.int 6)) (wOp fMul (wC (.int 3)) (wVar 4))))))
 (wSeq (wSet 6 (wLst wNil))
 dG))
def fO:WS :=
 (wSeq (wSet 2 (bW aD (ak (wVar 0) (ak (wC (.int 0)) wNil))))
 (wSeq (wSet 3 (bW bV (ak (wVar 2) wNil)))
 (wSeq (wSet 4 (wC (.int 3)))
 (wSeq (wIfS (wB (wOp fEq (wOp fMod (wOp fDiv (wVar 2) (wC (.int 144))) (wC (.int 4))) (wC (.int 1))))
 (wSet 4 (wC (.int 8)))
 cF)
 cQ))))
structure Mc (names:List Str) (x:Int × List Stp):Prop where
 ok:∀ s∈x.2,StOk x.1 s/\s.2.1∈names
 mde:Mde x.2 x.2
 len:x.2.length<=8
def mcD (x:Int × List Stp):D:=mD x.1 x.2
theorem Mde.self {l out:List Stp} (M:Mde l out):Mde out out:=⟨M.1,fun _=>.rfl,M.2.2⟩
def bM:SpD:=fun ds Q=>∃ (ns:List Int) (names:List Str),ds=[.list (ns.map .int),.list (names.map .str)]/\ns.length<=63/\1<=names.length/\names.length<=20/\(∀ n∈names,Deed n)/\∀ x y z:Int × List Stp,1<=x.1->1<=y.1->1<=z.1->x.1 * y.1 * z.1<=20->x.1<=20->y.1<=20->z.1<=20->Mc names x->Mc names y->Mc names z->Q (.ow true) (.list [mcD x,mcD y,mcD z])
theorem mH (ds Q) (h:bM ds Q):ds.length=["_law_script", "_law_names"].length:=by obtain ⟨_,_,rfl,_⟩:=h; rfl
theorem yI {Q:Md->D->Prop} {N B:L2.Q.Env->Prop} {ns cells:List Int} {names:List Str} {c a b e:Int} {o4:Option Sl} {ms:List (Int × List Stp)} {i:Nat} (n1:1<=names.length) (n2:names.length<=20) (hd:∀ n∈names,Deed n) (hc:cells.length<=24) {k:Int} (hk:atI [D.int a,.int b,.int e] (0+(i:Int))=some (.int k)) (k1:1<=k) (k2:k<=20) (hm:ms.length<=10)
  (h:∀ l,Mc names (k,l)->∀ o7,N [some (.sh (.list (ns.map .int))),some (.sh (.list (names.map .str))),some (.sh (.int c)),some (.sh (.tup [.int a,.int b,.int e])),o4,some (.ow true (.list (cells.map .int))),some (.ow true (.list ((ms++[(k,l)]).map mcD))),o7]) :
  cD { nx:=N,ct:=N,bk:=B,rt:=Q } [some (.sh (.list (ns.map .int))),some (.sh (.list (names.map .str))),some (.sh (.int c)),some (.sh (.tup [.int a,.int b,.int e])),o4,some (.ow true (.list (cells.map .int))),some (.ow true (.list (ms.map mcD))),some (.sh (.int (0+(i:Int))))]:=by
 unfold cD
 walk_at "q"
 refine ⟨_,hk,?_⟩
 walk_at "q"
 refine ⟨cells,rfl,fun cs _ cl=>?_⟩
 refine ⟨_,hk,?_⟩
 walk_at "q"
 refine ⟨cs,k,names,rfl,by lia,k1,k2,n1,n2,hd,fun l lo lm ll=>?_⟩
 walk_at "q"
 obtain ⟨ks,sh,e1,e2,e3,e4⟩:=xT (l:=l) (fun xs=>∀ ms:List (List Key),ms.map keyT=xs->∃ out,Mde l out/\ms.map keyT=out.map stpD) (by lia) fun out M ms e=>⟨out,M,e⟩
 refine ⟨ks,sh,e1,e2,e3,fun ms' nd mm pw=>?_⟩
 obtain ⟨out,M,e'⟩:=e4 ms' nd mm pw ms' rfl
 rw [e']
 have ol:=M.len
 have hh:=h out ⟨fun s hs=>⟨lo s ((M.2.1 s).mp hs),lm s ((M.2.1 s).mp hs)⟩,M.self,by show out.length<=8; lia⟩
 refine ⟨by lia,?_⟩
 show onK (some true) _
 walk_at "q"
 rw [xaP] at hh
 exact hh _
theorem xP (l:List Int) (lo hi:Option Int):cutG (l.map D.int) lo hi=(cutG l lo hi).map D.int:=by
 unfold cutG
 rw [xac,xcm,xcn]
theorem zy {ns:List Int} {most:Int} (hm:most=3\/most=8):(cutG ns (some 6) (some (6+3 * most))).length<=24:=by
 unfold cutG
 rw [xat]
 have:HT.sIx ns.length ns.length (some (6+3 * most)) - HT.sIx ns.length 0 (some 6)<=24:=by
  simp only [HT.sIx]
  rw [if_neg (by lia),if_neg (by lia)]
  lia
 lia
theorem yl {Q:Md->D->Prop} {ns:List Int} {names:List Str} {c a b e most:Int} (hm:most=3\/most=8) (a1:1<=a) (b1:1<=b) (e1:1<=e) (hp:a * b * e<=20) (a2:a<=20) (b2:b<=20) (e2:e<=20) (n1:1<=names.length) (n2:names.length<=20) (hd:∀ n∈names,Deed n)
  (h:∀ x y z:Int × List Stp,1<=x.1->1<=y.1->1<=z.1->x.1 * y.1 * z.1<=20->x.1<=20->y.1<=20->z.1<=20->Mc names x->Mc names y->Mc names z->Q (.ow true) (.list [mcD x,mcD y,mcD z])) :
  cQ { nx:=fun _=>Q .sh .non,rt:=Q } [some (.sh (.list (ns.map .int))),some (.sh (.list (names.map .str))),some (.sh (.int c)),some (.sh (.tup [.int a,.int b,.int e])),some (.sh (.int most)),none,none,none]:=by
 obtain ⟨w6,e6⟩:∃ w,w=dG:=⟨_,rfl⟩
 unfold cQ
 rw [<- e6]
 walk_at "q"
 refine ⟨.inl ⟨by lia,by lia⟩,.inl ⟨qO ns,?_⟩⟩
 rw [xP]
 have hc:=zy (ns:=ns) hm
 generalize cutG ns (some 6) (some (6+3 * most))=cells at *
 obtain ⟨w0,e0⟩:∃ w,w=cD:=⟨_,rfl⟩
 rw [e6]
 unfold dG gq
 rw [<- e0]
 walk_at "q"
 refine cY _ (fun i ρ=>∃ (ms:List (Int × List Stp)) (o7:Option Sl),ms.length=i/\(∀ j x,ms[j]? = some x->Mc names x/\([a,b,e]:List Int)[j]? = some x.1) /\
  ρ=[some (.sh (.list (ns.map .int))),some (.sh (.list (names.map .str))),some (.sh (.int c)),some (.sh (.tup [.int a,.int b,.int e])),some (.sh (.int most)),some (.ow true (.list (cells.map .int))),some (.ow true (.list (ms.map mcD))),o7]) ⟨[],_,rfl,(by intro j x z; rw [List.getElem?_nil] at z; cases z),rfl⟩ ?_ ?_
 ·rintro i x ρ hx ⟨ms,o7,ml,mk,rfl⟩ N hN
  obtain ⟨hi,rfl⟩:=jf hx
  have hi:i<3:=hi
  obtain ⟨k,ek,kl,k1,k2⟩:∃ k:Int,atI [D.int a,.int b,.int e] (0+(i:Int))=some (.int k)/\([a,b,e]:List Int)[i]? = some k/\1<=k/\k<=20:=by
   rcases (show i=0\/i=1\/i=2 by lia) with rfl | rfl | rfl
   ·exact ⟨a,rfl,rfl,a1,a2⟩
   ·exact ⟨b,rfl,rfl,b1,b2⟩
   ·exact ⟨e,rfl,rfl,e1,e2⟩
  walk_at "q"
  rw [e0]
  refine yI n1 n2 hd hc ek k1 k2 (by lia) fun l M o7=>hN _ ⟨ms++[(k,l)],_,by simp [ml],fun j x z=>?_,rfl⟩
  rcases Nat.lt_or_ge j ms.length with hj | hj
  ·rw [xa9 hj] at z
   exact mk j x z
  ·rw [xaI hj] at z
   have ej:j=i:=by
    rcases Nat.eq_zero_or_pos (j - ms.length) with y | y
    ·lia
    ·rw [xa1 (by simp; lia)] at z; cases z
   subst ej
   rw [show j - ms.length=0 by lia] at z
   cases z
   exact ⟨M,kl⟩
 ·rintro ρ ⟨ms,o7,ml,mk,rfl⟩
  have ml:ms.length=3:=ml
  match ms,ml with
  | [x,y,z],_ =>
   obtain ⟨mx,ex⟩:=mk 0 x rfl
   obtain ⟨my,ey⟩:=mk 1 y rfl
   obtain ⟨mz,ez⟩:=mk 2 z rfl
   cases ex
   cases ey
   cases ez
   walk_at "q"
   exact h x y z a1 b1 e1 hp a2 b2 e2 mx my mz
theorem pX:∀ ds Q,bM ds Q->fO { nx:=fun _=>Q .sh .non,rt:=Q } (bh 8 ds):=by
 rintro ds Q ⟨ns,names,rfl,hn,n1,n2,hd,h⟩
 obtain ⟨w4,e4⟩:∃ w,w=cQ:=⟨_,rfl⟩
 unfold fO
 rw [<- e4]
 walk_at "q"
 refine ⟨ns,0,rfl,by decide,?_⟩
 generalize ns.getD _ 0=c
 walk_at "q"
 refine ⟨c,rfl,fun a b e a1 b1 e1 hp a2 b2 e2=>?_⟩
 walk_at "q"
 refine R.D (fun z=>?_) fun z=>?_
 ·walk_at "q"
  rw [e4]
  exact yl (.inr rfl) a1 b1 e1 hp a2 b2 e2 n1 n2 hd h
 ·walk_at "q"
  rw [e4]
  exact yl (.inl rfl) a1 b1 e1 hp a2 b2 e2 n1 n2 hd h
def nR:WS :=
 (wSeq (qw bw (ak (wVar 2) wNil))
 (wSeq (wSet 3 (wOp fMul (wOp fIx (wVar 0) (wC (.int 0))) (wOp fIx (wVar 1) (wC (.int 0)))))
 (wSeq (wFrz 3 (qw aO (ak (wTup (ak (wVar 3) (ak (wLst wNil) wNil))) wNil)))
 (wSeq (wSet 4 (wOp fAdd (bW aY (ak (wVar 0) (ak (wVar 1) (ak (wVar 2) wNil)))) (bW aM (ak (wVar 0) (ak (wVar 1) (ak (wVar 2) wNil))))))
 (wSeq (wFrz 3 (wSet 5 (wTup (ak (wVar 3) (ak (wUn iH (wOp fAdd (wVar 4) (bW aN (ak (wVar 0) (ak (wVar 1) (ak (wVar 2) wNil)))))) wNil)))))
 (wSeq (qw aO (ak (wVar 5) wNil))
 (jy 5)))))))
theorem Fb:∀ l:List Str,∃ m:List Str,m.Nodup/\∀ x,x∈m↔x∈l
 | []=>⟨[],xaX,fun _=>Iff.rfl⟩
 | y :: l=>by
  obtain ⟨m,nd,h⟩:=Fb l
  by_cases hy:y∈m
  ·refine ⟨m,nd,fun x=>(h x).trans ⟨fun z=>xaf _ z,fun z=>?_⟩⟩
   rcases xaj.mp z with rfl | z
   ·exact (h x).mp hy
   ·exact z
  ·exact ⟨y :: m,xaO.mpr ⟨hy,nd⟩,fun x=>by rw [xaj,xaj,h]⟩
theorem Dz (steps:List Stp):∃ k,lZ steps k:=by
 obtain ⟨m,nd,h⟩:=Fb ((dsOf steps).filter fun n=>decide (n≠("*" : Str)))
 exact ⟨_,m,nd,fun n=>(h n).trans (by rw [xbf]; simp),rfl⟩
structure Two (m n:Int) (l1 l2:List Stp):Prop where
 m1:1<=m
 m2:m<=20
 n1:1<=n
 n2:n<=20
 z1:l1.length<=80
 z2:l2.length<=80
 o1:∀ s∈l1,StOk m s
 o2:∀ s∈l2,StOk n s
theorem StOk.up {many:Int} {s:Stp} (h:StOk many s) (hm:many<=20):StOk 20 s:=⟨h.1,xb8 h.2.1 hm,h.2.2.1,h.2.2.2.1,xb8 h.2.2.2.2 hm⟩
theorem yx {m n:Int} {tg:List Str} {l1 l2:List Stp} (T:Two m n l1 l2):∀ s∈besS m n tg l1 l2,Deed s.2.1:=fun s hs=>by
 rcases rY.mp hs with ⟨t,ht,hs⟩ | ⟨t,ht,hs⟩ | ⟨t,ht,hs⟩
 ·obtain ⟨_,q,_,rfl⟩:=ue.mp hs
  exact (T.o1 t ht).2.2.1
 ·obtain ⟨_,q,_,rfl⟩:=uA.mp hs
  exact (T.o2 t ht).2.2.1
 ·obtain ⟨_,u,_,_,rfl⟩:=tZ.mp hs
  exact (T.o1 t ht).2.2.1
def dY:SpD:=fun ds Q=>∃ (m n:Int) (l1 l2:List Stp) (tg:List Str),ds=[mD m l1,mD n l2,.list (tg.map .str)]/\Two m n l1 l2/\(m * n<=20->(besS m n tg l1 l2).length<=2000) /\
 ((∃ t,t∈tg/\¬ Open t)->Q (.ow false) (.str "NoDeed"))/\((∀ t∈tg,Open t)->(¬ m * n<=20->Q (.ow false) (.str "TooBig")) /\
  (m * n<=20->∀ out k,Mde (besS m n tg l1 l2) out->lZ out k->(Sml (m * n) out.length k->Q (.ow true) (mD (m * n) out))/\(¬ Sml (m * n) out.length k->Q (.ow false) (.str "TooBig"))))
theorem vz (ds Q) (h:dY ds Q):ds.length=["one", "other", "together"].length:=by obtain ⟨_,_,_,_,_,rfl,_⟩:=h; rfl
theorem zx:∀ ds Q,dY ds Q->nR { nx:=fun _=>Q .sh .non,rt:=Q } (bh 6 ds):=by
 rintro ds Q ⟨m,n,l1,l2,tg,rfl,T,hz,h1,h2⟩
 have m1:=T.m1
 have m2:=T.m2
 have n1:=T.n1
 have n2:=T.n2
 have z1:=T.z1
 have z2:=T.z2
 have s1:=fun s hs=>(T.o1 s hs).up m2
 have s2:=fun s hs=>(T.o2 s hs).up n2
 have mnp:0<=m * n:=xbm (by lia) (by lia)
 have mnq:m * n<=20 * 20:=xbn (by lia) (by lia) (by lia) (by lia)
 unfold nR mD
 walk_at "q"
 refine ⟨tg,rfl,fun ht=>?_,fun ht=>?_⟩
 rotate_left
 ·walk_at "q"
  exact h1 ht
 obtain ⟨h3,h4⟩:=h2 ht
 walk_at "q"
 refine ⟨.inl ⟨by lia,by lia⟩,m * n,[],0,rfl,by simp,(fun s hs=>nomatch hs),⟨[],xaX,fun n=>by simp [dsOf],rfl⟩,fun sm=>?_,fun sm=>?_⟩
 rotate_left
 ·walk_at "q"
  exact h3 fun z=>sm ⟨z,by simp,by simp⟩
 have mn:=sm.1
 have hz:=hz mn
 walk_at "q"
 refine ⟨m,n,l1,l2,tg,rfl,n1,n2,by lia,s1,?_⟩
 walk_at "q"
 refine ⟨m,n,l1,l2,tg,rfl,m1,m2,n1,n2,by lia,s2,?_⟩
 have bl:(l1.flatMap (onS n tg)).length+(l2.flatMap (otS m n tg)).length+(l1.flatMap (toS n tg l2)).length<=2000:=by
  unfold besS at hz
  rwa [xaD,xaD] at hz
 walk_at "q"
 refine ⟨by lia,.inl ⟨bZ _,bZ _,m,n,l1,l2,tg,rfl,n1,n2,by lia,by lia,s1,s2,?_⟩⟩
 walk_at "q"
 rw [<- xaP,<- xaP]
 refine ⟨by rw [xac,xaD]; lia,.inl ⟨bZ _,bZ _,?_⟩⟩
 obtain ⟨ks,sh,e1,e2,e3,e4⟩:=xT (l:=besS m n tg l1 l2) (fun xs=>∀ ms:List (List Key),ms.map keyT=xs->∃ out,Mde (besS m n tg l1 l2) out/\ms.map keyT=out.map stpD) hz fun out M ms e=>⟨out,M,e⟩
 refine ⟨ks,sh,e1,e2,e3,fun ms nd mm pw=>?_⟩
 obtain ⟨out,M,e⟩:=e4 ms nd mm pw ms rfl
 rw [e]
 have ol:out.length<=2000:=xaB M.len hz
 obtain ⟨k,hk⟩:=Dz out
 obtain ⟨h5,h6⟩:=h4 mn out k M hk
 refine ⟨m * n,out,k,rfl,ol,fun s hs=>yx T s ((M.2.1 s).mp hs),hk,fun sm=>?_,fun sm=>?_⟩
 ·walk_at "q"
  exact h5 sm
 ·walk_at "q"
  exact h6 sm
def dh:WS :=
 (wSeq (wFrz 2 (wFrz 1 (wFrz 0 (wIfS (wB (wOp fNe (wVar 3) (wLst (ak (wVar 0) (ak (wVar 1) (ak (wVar 2) wNil))))))
 (wRet (wTup (ak (wC (.str "changed")) (ak (wC .non) wNil))))
 cF))))
 (wSeq (wIfS (wB (wOp fEq (wOp fIx (wVar 4) (wC (.int 0))) (wC (.str "too big"))))
 (wSeq (wSet 5 (wUn fLen (wOp fIx (wVar 0) (wC (.int 1)))))
 (wSeq (wSet 6 (wUn fLen (wOp fIx (wVar 1) (wC (.int 1)))))
 (wSeq (wIfS (wB (wOp fLe (wOp fAdd (wOp fAdd (wOp fMul (wVar 5) (wOp fIx (wVar 1) (wC (.int 0)))) (wOp fMul (wVar 6) (wOp fIx (wVar 0) (wC (.int 0))))) (wOp fMul (wVar 5) (wVar 6))) (wC (.int 80))))
 (wRet (wTup (ak (wC (.str "wrong")) (ak (wC .non) wNil))))
 cF)
 (jy 4))))
 cF)
 (wSeq (wIfS (wNot (wB (bW aQ (ak (wOp fIx (wVar 4) (wC (.int 1))) wNil))))
 (wRet (wTup (ak (wC (.str "wrong")) (ak (wC .non) wNil))))
 cF)
 (jy 4))))
def gB:WS :=
 (wSeq (wSet 3 (wLst (ak (wTup (ak (wOp fIx (wVar 0) (wC (.int 0))) (ak (wUn rZ (wOp fIx (wVar 0) (wC (.int 1)))) wNil))) (ak (wTup (ak (wOp fIx (wVar 1) (wC (.int 0))) (ak (wUn rZ (wOp fIx (wVar 1) (wC (.int 1)))) wNil))) (ak (wUn rZ (wVar 2)) wNil)))))
 (wSeq (wSet 4 (wTup (ak (wC (.str "machine")) (ak (wC .non) wNil))))
 (wSeq (yF 4 (Af (.str "machine") dY (ak (wOp fIx (wVar 3) (wC (.int 0))) (ak (wOp fIx (wVar 3) (wC (.int 1))) (ak (wOp fIx (wVar 3) (wC (.int 2))) wNil)))) "TooBig" (wSet 4 (wTup (ak (wC (.str "too big")) (ak (wC .non) wNil)))))
 dh)))
structure Few (names:List Str) (l:List Stp):Prop where
 ex:∃ pool:List Str,names=("*" : Str) :: pool/\pool.length<=5
 nm:∀ s∈l,s.2.1∈names
structure Pair (m n:Int) (l1 l2:List Stp) (tg names:List Str):Prop where
 T:Two m n l1 l2
 mn:m * n<=20
 z:(besS m n tg l1 l2).length<=2000
 op:∀ t∈tg,Open t
 f1:Few names l1
 f2:Few names l2
theorem vG {m n:Int} {tg:List Str} {l1 l2:List Stp}:(besS m n tg l1 l2).length<=l1.length * n.toNat+l2.length * m.toNat+l1.length * l2.length:=by
 unfold besS
 rw [xaD,xaD]
 have a:=je (l:=l1) (vL n tg)
 have b:=je (l:=l2) (vK m n tg)
 have c:=je (l:=l1) (xx n tg l2)
 lia
theorem Pair.few {m n:Int} {l1 l2:List Stp} {tg names:List Str} (P:Pair m n l1 l2 tg names):Few names (besS m n tg l1 l2):=⟨P.f1.ex,fun s hs=>by
 rcases rY.mp hs with ⟨t,ht,hs⟩ | ⟨t,ht,hs⟩ | ⟨t,ht,hs⟩
 ·obtain ⟨_,q,_,rfl⟩:=ue.mp hs
  exact P.f1.nm t ht
 ·obtain ⟨_,q,_,rfl⟩:=uA.mp hs
  exact P.f2.nm t ht
 ·obtain ⟨_,u,_,_,rfl⟩:=tZ.mp hs
  exact P.f1.nm t ht⟩
theorem Few.opn {names:List Str} {l:List Stp} {k:Nat} (F:Few names l) (h:lZ l k):k<=6:=by
 obtain ⟨pool,e,hp⟩:=F.ex
 obtain ⟨ls,nd,mm,rfl⟩:=h
 have:=TS.bF nd (m:=pool) fun x hx=>by
  obtain ⟨h1,h2⟩:=(mm x).mp hx
  obtain ⟨s,hs,rfl⟩:=xai.mp h1
  have:=F.nm s hs
  rw [e] at this
  rcases xaj.mp this with z | z
  ·exact absurd z h2
  ·exact z
 lia
theorem Few.mde {names:List Str} {l out:List Stp} (F:Few names l) (M:Mde l out):Few names out:=⟨F.ex,fun s hs=>F.nm s ((M.2.1 s).mp hs)⟩
theorem uc:∀ l:List Str,nbs (l.map D.str)=true
 | []=>rfl
 | x :: l=>by simp [nbs,uc l,D.nb]
def aB:SpD:=fun ds Q=>∃ (m n:Int) (l1 l2:List Stp) (tg names:List Str),ds=[mD m l1,mD n l2,.list (tg.map .str)]/\Pair m n l1 l2 tg names /\
 ∀ out,Mde (besS m n tg l1 l2) out->(out.length<=80->Q (.ow true) (.tup [.str "machine",mD (m * n) out]))/\(¬ out.length<=80->Q .sh (.tup [.str "too big",.non]))
theorem oJ (ds Q) (h:aB ds Q):ds.length=["_law_one", "_law_other", "_law_together"].length:=by obtain ⟨_,_,_,_,_,_,rfl,_⟩:=h; rfl
theorem zW {Q:Md->D->Prop} {m n:Int} {l1 l2:List Stp} {tg names:List Str} {out:List Stp} (P:Pair m n l1 l2 tg names) (M:Mde (besS m n tg l1 l2) out) (h1:out.length<=80->Q (.ow true) (.tup [.str "machine",mD (m * n) out])) (h2:¬ out.length<=80->Q .sh (.tup [.str "too big",.non])) {sl:Sl}
  (hs:(out.length<=80/\sl=.ow true (.tup [.str "machine",mD (m * n) out]))\/(¬ out.length<=80/\sl=.sh (.tup [.str "too big",.non]))) :
  dh { nx:=fun _=>Q .sh .non,rt:=Q } [some (.sh (mD m l1)),some (.sh (mD n l2)),some (.sh (.list (tg.map .str))),some (.ow true (.list [mD m l1,mD n l2,.list (tg.map .str)])),some sl,none,none]:=by
 have T:=P.T
 have m1:=T.m1
 have n1:=T.n1
 have m2:=T.m2
 have n2:=T.n2
 have z1:=T.z1
 have z2:=T.z2
 have ok:okD 12 (.list [mD m l1,mD n l2,.list (tg.map .str)])=true:=by
  show (okD 11 (mD m l1) && (okD 11 (mD n l2) && (okD 11 (.list (tg.map .str)) && true)))=true
  rw [m_ok 8 T.o1,m_ok 8 T.o2,zL P.op]
  rfl
 have nb:(D.list [mD m l1,mD n l2,.list (tg.map .str)]).nb=true:=by simp [D.nb,nbs,nb_m,uc]
 unfold dh
 walk_at "q"
 refine ⟨ok,ok,R.F (by rw [eq_self nb]; rfl) ?_⟩
 rcases hs with ⟨hl,rfl⟩ | ⟨hl,rfl⟩
 ·walk_at "q"
  refine R.F (by decide +kernel) ?_
  walk_at "q"
  refine ⟨m * n,out,rfl,?_⟩
  walk_at "q"
  exact h1 hl
 ·unfold mD
  walk_at "q"
  have ml:=M.len
  have bl:=vG (m:=m) (n:=n) (tg:=tg) (l1:=l1) (l2:=l2)
  have e1:((l1.length * n.toNat:Nat):Int)=(l1.length:Int) * n:=by rw [Int.natCast_mul,xaW (by lia)]
  have e2:((l2.length * m.toNat:Nat):Int)=(l2.length:Int) * m:=by rw [Int.natCast_mul,xaW (by lia)]
  have e3:((l1.length * l2.length:Nat):Int)=(l1.length:Int) * l2.length:=Int.natCast_mul ..
  refine ⟨.inl ⟨by lia,by lia⟩,.inl ⟨by lia,by lia⟩,.inl ⟨by lia,by lia⟩,R.F (decide_eq_false ?_) ?_⟩
  ·rw [<- e1,<- e2,<- e3]
   lia
  ·walk_at "q"
   exact h2 hl
theorem rH:∀ ds Q,aB ds Q->gB { nx:=fun _=>Q .sh .non,rt:=Q } (bh 7 ds):=by
 rintro ds Q ⟨m,n,l1,l2,tg,names,rfl,P,h⟩
 obtain ⟨w3,e3⟩:∃ w,w=dh:=⟨_,rfl⟩
 unfold gB mD
 rw [<- e3]
 walk_at "q"
 refine .inl ⟨bZ _,.inl ⟨bZ _,.inl ⟨il _,?_⟩⟩⟩
 refine ⟨m,n,l1,l2,tg,rfl,P.T,fun _=>P.z,fun ⟨t,ht,z⟩=>absurd (P.op t ht) z,fun _=>⟨fun z=>absurd P.mn z,fun _ out k M hk=>⟨fun sm=>?_,fun sm=>?_⟩⟩⟩
 ·unfold mD
  walk_at "q"
  obtain ⟨h1,h2⟩:=h out M
  rw [e3]
  exact zW P M h1 h2 (.inl ⟨sm.2.1,rfl⟩)
 ·walk_at "q"
  obtain ⟨h1,h2⟩:=h out M
  rw [e3]
  exact zW P M h1 h2 (.inr ⟨fun z=>sm ⟨P.mn,z,(P.few.mde M).opn hk⟩,rfl⟩)
def fG:WS :=
 (wSeq (wSet 2 (wTup (ak (wC (.int 1)) (ak (wLst wNil) wNil))))
 (wSeq (wFrz 0 (wIfS (wOr (wB (wOp fNe (bW aB (ak (wVar 0) (ak (wVar 2) (ak (wLst wNil) wNil)))) (wTup (ak (wC (.str "machine")) (ak (wVar 0) wNil))))) (wB (wOp fNe (bW aB (ak (wVar 2) (ak (wVar 0) (ak (wLst wNil) wNil)))) (wTup (ak (wC (.str "machine")) (ak (wVar 0) wNil))))))
 (wRet (wC (.bl false)))
 cF))
 (wSeq (wSet 3 (wTup (ak (wOp fIx (wVar 0) (wC (.int 0))) (ak (g_ (iz (wOp fIx (wVar 0) (wC (.int 1)))) (gN 0) (wB (wOp (fIn true) (wOp fIx (wVar 0) (wC (.int 1))) (wVar 1))) (wVar 0) 1 [1]) wNil))))
 (wFrz 3 (wRet (nU (wOp fEq (bW aB (ak (wVar 0) (ak (wVar 2) (ak (wVar 1) wNil)))) (wTup (ak (wC (.str "machine")) (ak (wVar 3) wNil)))) (wOp fEq (bW aB (ak (wVar 2) (ak (wVar 0) (ak (wVar 1) wNil)))) (wTup (ak (wC (.str "machine")) (ak (wVar 3) wNil))))))))))
theorem Eg {m:Int} {tg:List Str} {l:List Stp} (m0:0<=m) (s:Stp):s∈besS m 1 tg l []↔s∈l.filter fun t=>!decide (t.2.1∈tg):=by
 obtain ⟨a,d,b⟩:=s
 rw [aL (by decide) m0,xbf]
 constructor
 ·rintro (⟨ht,p,r,q,hs,hq,rfl,rfl⟩ | ⟨_,_,_,_,hs,_⟩ | ⟨_,_,_,_,_,_,hs,_⟩)
  ·obtain rfl:q=0:=by lia
   simp only [Int.mul_one,Int.add_zero]
   exact ⟨hs,by simp [ht]⟩
  ·exact nomatch hs
  ·exact nomatch hs
 ·rintro ⟨hs,ht⟩
  exact .inl ⟨by simpa using ht,a,b,0,hs,by lia,by lia,by lia⟩
theorem Fv {m:Int} {tg:List Str} {l:List Stp} (m0:0<=m) (s:Stp):s∈besS 1 m tg [] l↔s∈l.filter fun t=>!decide (t.2.1∈tg):=by
 obtain ⟨a,d,b⟩:=s
 rw [aL m0 (by decide),xbf]
 constructor
 ·rintro (⟨_,_,_,_,hs,_⟩ | ⟨ht,p,q,s,hs,hp,rfl,rfl⟩ | ⟨_,_,_,_,_,hs,_⟩)
  ·exact nomatch hs
  ·obtain rfl:p=0:=by lia
   simp only [Int.zero_mul,Int.zero_add]
   exact ⟨hs,by simp [ht]⟩
  ·exact nomatch hs
 ·rintro ⟨hs,ht⟩
  exact .inr (.inl ⟨by simpa using ht,0,a,b,hs,by lia,by lia,by lia⟩)
theorem Mde.filter {l:List Stp} (M:Mde l l) (p:Stp->Bool):Mde (l.filter p) (l.filter p):=⟨M.1.filter p,fun _=>.rfl,M.2.2.filter p⟩
theorem Mde.of {a b o:List Stp} (h:∀ s,s∈a↔s∈b) (M:Mde a o):Mde b o:=⟨M.1,fun s=>(M.2.1 s).trans (h s),M.2.2⟩
def bN:SpD:=fun ds Q=>∃ (x:Int × List Stp) (tg names:List Str),ds=[mcD x,.list (tg.map .str)]/\1<=x.1/\x.1<=20/\Mc names x/\(∃ pool:List Str,names=("*" : Str) :: pool/\pool.length<=5)/\(∀ t∈tg,Open t)/\Q .sh (.bl true)
theorem lW (ds Q) (h:bN ds Q):ds.length=["_law_m", "_law_together"].length:=by obtain ⟨_,_,_,rfl,_⟩:=h; rfl
theorem yw {m:Int} {l:List Stp}:eqD (.tup [.str "machine",mD m l]) (.tup [.str "machine",mD m l])=true:=eq_self (by simp [D.nb,nbs,nb_m])
theorem yD {m:Int} {l:List Stp} (h:∀ s∈l,StOk m s):okD 12 (.tup [.str "machine",mD m l])=true:=by
 show (okD 11 (.str "machine") && (okD 11 (mD m l) && true))=true
 rw [m_ok 8 h]
 decide +kernel
theorem qJ:∀ ds Q,bN ds Q->fG { nx:=fun _=>Q .sh .non,rt:=Q } (bh 4 ds):=by
 rintro ds Q ⟨⟨m,l⟩,tg,names,rfl,m1,m2,M,hp,op,h⟩
 simp only at m1 m2
 have len:l.length<=8:=M.len
 have so:∀ s∈l,StOk m s:=fun s hs=>(M.ok s hs).1
 have F1:Few names l:=⟨hp,fun s hs=>(M.ok s hs).2⟩
 have F0:Few names []:=⟨hp,(fun s hs=>nomatch hs)⟩
 have e0:∀ tg:List Str,(∀ t∈tg,Open t)->Pair m 1 l [] tg names/\Pair 1 m [] l tg names:=fun tg op=>by
  have b1:=vG (m:=m) (n:=1) (tg:=tg) (l1:=l) (l2:=[])
  have b2:=vG (m:=1) (n:=m) (tg:=tg) (l1:=[]) (l2:=l)
  simp only [List.length_nil,Nat.zero_mul,Nat.mul_zero,xbY,xcv] at b1 b2
  have t1:(1:Int).toNat=1:=rfl
  rw [t1,Nat.mul_one] at b1 b2
  exact ⟨⟨⟨m1,m2,by decide,by decide,by lia,by simp,so,(fun s hs=>nomatch hs)⟩,by lia,by lia,op,F1,F0⟩,⟨⟨by decide,by decide,m1,m2,by simp,by lia,(fun s hs=>nomatch hs),so⟩,by lia,by lia,op,F0,F1⟩⟩
 have fl:∀ tg:List Str,Mde (l.filter fun t=>!decide (t.2.1∈tg)) (l.filter fun t=>!decide (t.2.1∈tg)):=fun tg=>M.mde.filter _
 have ln:∀ tg:List Str,(l.filter fun t=>!decide (t.2.1∈tg)).length<=80:=fun tg=>xaB (xcp _ _) (by lia)
 have ask1:∀ (tg:List Str) {Q:Md->D->Prop},(∀ t∈tg,Open t)->Q (.ow true) (.tup [.str "machine",mD m (l.filter fun t=>!decide (t.2.1∈tg))])->aB [mD m l,mD 1 [],.list (tg.map .str)] Q:=fun tg Q op q =>
  ⟨m,1,l,[],tg,names,rfl,(e0 tg op).1,fun out Mo=>by
   have:out=l.filter fun t=>!decide (t.2.1∈tg):=(Mo.of (Eg (by lia))).one (fl tg)
   subst this
   rw [Int.mul_one]
   exact ⟨fun _=>q,fun z=>absurd (ln tg) z⟩⟩
 have ask2:∀ (tg:List Str) {Q:Md->D->Prop},(∀ t∈tg,Open t)->Q (.ow true) (.tup [.str "machine",mD m (l.filter fun t=>!decide (t.2.1∈tg))])->aB [mD 1 [],mD m l,.list (tg.map .str)] Q:=fun tg Q op q =>
  ⟨1,m,[],l,tg,names,rfl,(e0 tg op).2,fun out Mo=>by
   have:out=l.filter fun t=>!decide (t.2.1∈tg):=(Mo.of (Fv (by lia))).one (fl tg)
   subst this
   rw [Int.one_mul]
   exact ⟨fun _=>q,fun z=>absurd (ln tg) z⟩⟩
 have al:(l.filter fun t=>!decide (t.2.1∈([]:List Str)))=l:=by simp
 have okl:=yD so
 have eql:=yw (m:=m) (l:=l)
 have okf:=yD (m:=m) (l:=l.filter fun t=>!decide (t.2.1∈tg)) fun s hs=>so s (xbf.mp hs).1
 have eqf:=yw (m:=m) (l:=l.filter fun t=>!decide (t.2.1∈tg))
 unfold fG mcD
 walk_at "q"
 refine ask1 [] (by simp) ?_
 rw [al]
 walk_at "q"
 refine ⟨okl,okl,R.F (by rw [eql]; rfl) ?_⟩
 walk_at "q"
 refine ask2 [] (by simp) ?_
 rw [al]
 walk_at "q"
 refine ⟨okl,okl,R.F (by rw [eql]; rfl) ?_⟩
 unfold mD
 walk_at "q"
 refine b8 (fun d=>match d with
  | .tup [_,.str x,_]=>!decide (x∈tg)
  | _=>false) (fun d=>d) (fun ρ=>∃ o,ρ=[o,some (.sh (.list (tg.map .str)))]) _ _ _ ⟨_,rfl⟩ ?_ ?_
 ·rintro x hx ρ ⟨o,rfl⟩ N1 N2 n1 n2
  obtain ⟨⟨p,d,r⟩,hs,rfl⟩:=xai.mp hx
  rw [show stpD (p,d,r)=.tup [.int p,.str d,.int r] from rfl] at n1 n2 ⊢
  walk_at "q"
  refine ⟨rfl,gY tg,?_⟩
  rw [pG]
  by_cases hd:d∈tg
  ·rw [if_neg (by simp [hd])]
   exact n1 _ ⟨_,rfl⟩ (by simp [hd])
  ·rw [if_pos (by simp [hd])]
   exact ⟨.inl rfl,n2 _ ⟨_,rfl⟩ (by simp [hd])⟩
 rw [List.map_id',List.filter_map,show ((fun d=>match d with
  | .tup [_,.str x,_]=>!decide (x∈tg)
  | _=>false) ∘ stpD)=(fun t:Stp=>!decide (t.2.1∈tg)) from rfl]
 refine ask1 tg op ?_
 walk_at "q"
 refine ⟨okf,okf,R.T eqf ?_⟩
 walk_at "q"
 refine ask2 tg op ?_
 walk_at "q"
 refine ⟨okf,okf,?_⟩
 rw [show eqD (.tup [.str "machine",mD m (l.filter fun t=>!decide (t.2.1∈tg))]) (.tup [.str "machine",.tup [.int m,.list ((l.filter fun t=>!decide (t.2.1∈tg)).map stpD)]])=true from eqf]
 exact h
def jK:WS :=
 (wSeq (wSet 10 (bW aB (ak (wOp fIx (wVar 10) (wC (.int 1))) (ak (wVar 8) (ak (wVar 4) wNil)))))
 (wSeq (wSet 11 (bW aB (ak (wVar 6) (ak (wOp fIx (wVar 11) (wC (.int 1))) (ak (wVar 4) wNil)))))
 (wRet (nU (wOp fEq (wVar 10) (wVar 11)) (wOp (fIn false) (wOp fIx (wVar 10) (wC (.int 0))) (wTup (ak (wC (.str "machine")) (ak (wC (.str "too big")) wNil))))))))
def jL:WS :=
 (wSeq (wIfS (wOr (wB (wOp fNe (wOp fIx (wVar 10) (wC (.int 0))) (wC (.str "machine")))) (wB (wOp fNe (wOp fIx (wVar 11) (wC (.int 0))) (wC (.str "machine")))))
 (wRet (nU (wOp fNe (wOp fIx (wVar 10) (wC (.int 0))) (wC (.str "wrong"))) (nU (wOp fNe (wOp fIx (wVar 11) (wC (.int 0))) (wC (.str "wrong"))) (nU (wOp fNe (wOp fIx (wVar 10) (wC (.int 0))) (wC (.str "changed"))) (wOp fNe (wOp fIx (wVar 11) (wC (.int 0))) (wC (.str "changed")))))))
 cF)
 jK)
def pD:WS :=
 (wSeq (wIfS (wB (wOp fEq (wOp fIx (wVar 10) (wC (.int 0))) (wC (.str "machine"))))
 (wSeq (wSet 12 (wTup (ak (wC (.str "machine")) (ak (bW bC (ak (wOp fIx (wVar 10) (wC (.int 1))) (ak (wOp fIx (wVar 7) (wC (.int 0))) (ak (wOp fIx (wVar 6) (wC (.int 0))) wNil)))) wNil))))
 (wIfS (wOr (wB (wOp fNe (wOp fIx (wOp fIx (wVar 10) (wC (.int 1))) (wC (.int 0))) (wOp fMul (wOp fIx (wVar 6) (wC (.int 0))) (wOp fIx (wVar 7) (wC (.int 0)))))) (wB (wOp fNe (bW aB (ak (wVar 7) (ak (wVar 6) (ak (wVar 4) wNil)))) (wVar 12))))
 (wRet (wC (.bl false)))
 cF))
 cF)
 jL)
def n6:WS :=
 (wSeq (wSet 11 (bW aB (ak (wVar 7) (ak (wVar 8) (ak (wVar 4) wNil)))))
 pD)
def pF:WS :=
 (wSeq (wSet 10 (bW aB (ak (wVar 6) (ak (wVar 7) (ak (wVar 4) wNil)))))
 n6)
def pI:WS :=
 (wSeq (wFrz 8 (wFrz 7 (wFrz 6 (wFor (yK (wTup (ak (wVar 6) (ak (wVar 7) (ak (wVar 8) wNil))))) (gN 9)
 (wIfS (wNot (wB (bW bN (ak (wVar 9) (ak (wVar 4) wNil)))))
 (wRet (wC (.bl false)))
 cF)))))
 pF)
def pJ:WS :=
 (wSeq (CT (wFz (bW bM (ak (wVar 0) (ak (wVar 2) wNil)))) (gL 3 (cW (gN 6) (cW (gN 7) (cW (gN 8) qL)))))
 pI)
def Ck:WS :=
 (wSeq (wSet 1 (bW bK (ak (bW aD (ak (wVar 0) (ak (wC (.int 1)) wNil))) (ak (bW aD (ak (wVar 0) (ak (wC (.int 2)) wNil))) wNil))))
 (wSeq (wSet 2 (wOp fAdd (wLst (ak (wC (.str "*")) wNil)) (wSl (wVar 1) gF (jU (wOp fAdd (wC (.int 3)) (wOp fMod (bW aD (ak (wVar 0) (ak (wC (.int 3)) wNil))) (wC (.int 3))))))))
 (wSeq (wSet 3 (bW aD (ak (wVar 0) (ak (wC (.int 4)) wNil))))
 (wSeq (wSet 4 (wLst wNil))
 (wSeq (wFor (gw (wC (.int 6))) (gN 5)
 (wSeq (wIfS (wB (wOp fEq (wOp fMod (wVar 3) (wC (.int 2))) (wC (.int 1))))
 (wIns (wpN 4) (wOp fMod (wOp fDiv (wVar 3) (wC (.int 2))) (wOp fAdd (wVar 5) (wC (.int 1)))) (wOp fIx (wVar 1) (wVar 5)))
 cF)
 (wSet 3 (wOp fDiv (wVar 3) (wC (.int 2))))))
 pJ)))))
abbrev sp_law:SpD:=spLaw
theorem Cd (ds Q) (h:sp_law ds Q):ds.length=["_law_script"].length:=by obtain ⟨_,rfl,_⟩:=h; rfl
def allU (M:Nat) (names:List Str):List Stp:=(List.range M).flatMap fun a=>names.flatMap fun d=>(List.range M).map fun b=>(((a:Nat):Int),d,((b:Nat):Int))
theorem yZ (M:Nat) (names:List Str):(allU M names).length=M * (names.length * M):=by
 unfold allU
 simp [List.length_flatMap,List.map_const',List.sum_replicate_nat]
theorem Bq {M:Int} {names:List Str} {l:List Stp} (nd:l.Nodup) (so:∀ s∈l,StOk M s) (sn:∀ s∈l,s.2.1∈names):l.length<=M.toNat * (names.length * M.toNat):=by
 rw [<- yZ]
 refine TS.bF nd fun s hs=>?_
 obtain ⟨a,d,b⟩:=s
 have o:=so _ hs
 have n:=sn _ hs
 unfold allU
 simp only [List.mem_flatMap,xai,xaN]
 have o1:0<=a/\a<M:=⟨o.1,o.2.1⟩
 have o2:0<=b/\b<M:=⟨o.2.2.2.1,o.2.2.2.2⟩
 exact ⟨a.toNat,by lia,d,n,b.toNat,by lia,by rw [xaW o.1,xaW o.2.2.2.1]⟩
theorem zO {M z:Int} {names:List Str} {l:List Stp} {y:Nat} (M1:1<=M) (z1:1<=z) (Mz:M * z<=20) (hy:y<=8) (hl:l.length<=80) (nd:l.Nodup) (so:∀ s∈l,StOk M s) (F:Few names l):l.length * z.toNat+y * M.toNat+l.length * y<=2000:=by
 have Ml:M<=20:=xa3 (by have:=xbT z1 (show 0<=M by lia); lia) Mz
 have zl:z<=20:=xa3 (by have:=xbo M1 (show 0<=z by lia); lia) Mz
 have a2:y * M.toNat<=8 * 20:=xaY hy (by lia)
 obtain ⟨pool,e,hp⟩:=F.ex
 have nl:names.length<=6:=by rw [e]; simp; lia
 by_cases h4:4<=M
 ·have zs:z<=5:=by
   have:=xbo h4 (show 0<=z by lia)
   lia
  have a1:l.length * z.toNat<=80 * 5:=xaY hl (by lia)
  have a3:l.length * y<=80 * 8:=xaY hl hy
  lia
 ·have h:=Bq nd so F.nm
  have h3:M.toNat * (names.length * M.toNat)<=3 * (6 * 3):=xaY (by lia) (xaY nl (by lia))
  have a1:l.length * z.toNat<=54 * 20:=xaY (by lia) (by lia)
  have a3:l.length * y<=54 * 8:=xaY (by lia) hy
  lia
structure Tri (x y z:Int × List Stp) (tg names:List Str):Prop where
 x1:1<=x.1
 y1:1<=y.1
 z1:1<=z.1
 p:x.1 * y.1 * z.1<=20
 x2:x.1<=20
 y2:y.1<=20
 z2:z.1<=20
 mx:Mc names x
 my:Mc names y
 mz:Mc names z
 op:∀ t∈tg,Open t
 ex:∃ pool:List Str,names=("*" : Str) :: pool/\pool.length<=5
theorem Mc.few {names:List Str} {x:Int × List Stp} (M:Mc names x) (ex:∃ pool:List Str,names=("*" : Str) :: pool/\pool.length<=5):Few names x.2:=⟨ex,fun s hs=>(M.ok s hs).2⟩
theorem sO {names tg:List Str} {x y:Int × List Stp} (x1:1<=x.1) (x2:x.1<=20) (y1:1<=y.1) (y2:y.1<=20) (p:x.1 * y.1<=20) (mx:Mc names x) (my:Mc names y) (op:∀ t∈tg,Open t) (ex:∃ pool:List Str,names=("*" : Str) :: pool/\pool.length<=5):Pair x.1 y.1 x.2 y.2 tg names:=by
 have a:=mx.len
 have b:=my.len
 have c:=vG (m:=x.1) (n:=y.1) (tg:=tg) (l1:=x.2) (l2:=y.2)
 have c1:x.2.length * y.1.toNat<=8 * 20:=xaY a (by lia)
 have c2:y.2.length * x.1.toNat<=8 * 20:=xaY b (by lia)
 have c3:x.2.length * y.2.length<=8 * 8:=xaY a b
 exact ⟨⟨x1,x2,y1,y2,by lia,by lia,fun s hs=>(mx.ok s hs).1,fun s hs=>(my.ok s hs).1⟩,p,by lia,op,mx.few ex,my.few ex⟩
theorem Tri.xy {x y z:Int × List Stp} {tg names:List Str} (t:Tri x y z tg names):x.1 * y.1<=20/\1<=x.1 * y.1/\y.1 * z.1<=20/\1<=y.1 * z.1:=by
 have x1:=t.x1
 have y1:=t.y1
 have z1:=t.z1
 have p:=t.p
 have a:1<=x.1 * y.1:=Int.mul_pos (by lia) (by lia)
 have b:1<=y.1 * z.1:=Int.mul_pos (by lia) (by lia)
 have c:=xbT z1 (show 0<=x.1 * y.1 by lia)
 have d:=xbo x1 (show 0<=y.1 * z.1 by lia)
 rw [Int.one_mul] at d
 have e:=xcI x.1 y.1 z.1
 lia
theorem Tri.pxy {x y z:Int × List Stp} {tg names:List Str} (t:Tri x y z tg names):Pair x.1 y.1 x.2 y.2 tg names:=sO t.x1 t.x2 t.y1 t.y2 t.xy.1 t.mx t.my t.op t.ex
theorem Tri.pyx {x y z:Int × List Stp} {tg names:List Str} (t:Tri x y z tg names):Pair y.1 x.1 y.2 x.2 tg names:=sO t.y1 t.y2 t.x1 t.x2 (by rw [xcx]; exact t.xy.1) t.my t.mx t.op t.ex
theorem Tri.pyz {x y z:Int × List Stp} {tg names:List Str} (t:Tri x y z tg names):Pair y.1 z.1 y.2 z.2 tg names:=sO t.y1 t.y2 t.z1 t.z2 t.xy.2.2.1 t.my t.mz t.op t.ex
theorem Pair.ok {m n:Int} {l1 l2:List Stp} {tg names:List Str} (P:Pair m n l1 l2 tg names) {out:List Stp} (M:Mde (besS m n tg l1 l2) out):∀ s∈out,StOk (m * n) s:=fun s hs=>Em (by have:=P.T.m1; lia) (by have:=P.T.n1; lia) P.T.o1 P.T.o2 s ((M.2.1 s).mp hs)
theorem Tri.pL {x y z:Int × List Stp} {tg names:List Str} (t:Tri x y z tg names) {o:List Stp} (M:Mde (besS x.1 y.1 tg x.2 y.2) o) (ho:o.length<=80):Pair (x.1 * y.1) z.1 o z.2 tg names:=by
 obtain ⟨a,b,_,_⟩:=t.xy
 have so:=t.pxy.ok M
 have F:=t.pxy.few.mde M
 have c:=vG (m:=x.1 * y.1) (n:=z.1) (tg:=tg) (l1:=o) (l2:=z.2)
 have d:=zO b t.z1 t.p t.mz.len ho M.1 so F
 have e:=t.mz.len
 exact ⟨⟨b,a,t.z1,t.z2,ho,by lia,so,fun s hs=>(t.mz.ok s hs).1⟩,t.p,by lia,t.op,F,t.mz.few t.ex⟩
theorem Tri.pR {x y z:Int × List Stp} {tg names:List Str} (t:Tri x y z tg names) {o:List Stp} (M:Mde (besS y.1 z.1 tg y.2 z.2) o) (ho:o.length<=80):Pair x.1 (y.1 * z.1) x.2 o tg names:=by
 obtain ⟨_,_,a,b⟩:=t.xy
 have so:=t.pyz.ok M
 have F:=t.pyz.few.mde M
 have p:x.1 * (y.1 * z.1)<=20:=by rw [<- xcI]; exact t.p
 have c:=vG (m:=x.1) (n:=y.1 * z.1) (tg:=tg) (l1:=x.2) (l2:=o)
 have d:=zO b t.x1 (by rw [xcx]; exact p) t.mx.len ho M.1 so F
 have e:=t.mx.len
 have g:x.2.length * o.length=o.length * x.2.length:=xcw ..
 exact ⟨⟨t.x1,t.x2,b,a,by lia,ho,fun s hs=>(t.mx.ok s hs).1,so⟩,p,by lia,t.op,t.mx.few t.ex,F⟩
theorem Tri.same {x y z:Int × List Stp} {tg names:List Str} (t:Tri x y z tg names) {oL oR o3 o4:List Stp} (L:Mde (besS x.1 y.1 tg x.2 y.2) oL) (R:Mde (besS y.1 z.1 tg y.2 z.2) oR) (M3:Mde (besS (x.1 * y.1) z.1 tg oL z.2) o3) (M4:Mde (besS x.1 (y.1 * z.1) tg x.2 oR) o4):o4=o3:=by
 have x1:=t.x1
 have y1:=t.y1
 have z1:=t.z1
 obtain ⟨_,a,_,b⟩:=t.xy
 refine Mde.uniq (fun s=>?_) M4 M3
 obtain ⟨p,d,q⟩:=s
 rw [sY (l1:=x.2) (k1:=x.2) (fun _=>.rfl) R.2.1 _ (by lia) (by lia),sY (l2:=z.2) (k2:=z.2) L.2.1 (fun _=>.rfl) _ (by lia) (by lia)]
 exact (xN (by lia) (by lia) (by lia) (fun s hs=>(t.mx.ok s hs).1) (fun s hs=>(t.my.ok s hs).1) (fun s hs=>(t.mz.ok s hs).1)).symm
theorem Tri.turn {x y z:Int × List Stp} {tg names:List Str} (t:Tri x y z tg names) {o o2 l':List Stp} (M:Mde (besS x.1 y.1 tg x.2 y.2) o) (M2:Mde (besS y.1 x.1 tg y.2 x.2) o2) (pm:(l'.map stpK).Perm ((o.map (tfS y.1 x.1)).map stpK)) (pw:l'.Pairwise fun a b=>ltP b a=false):l'=o2:=by
 have x1:=t.x1
 have y1:=t.y1
 have so:=t.pxy.ok M
 have nd:(o.map (tfS y.1 x.1)).Nodup:=by
  unfold List.Nodup
  rw [xaG]
  refine List.Pairwise.imp_of_mem (fun {a b} ha hb hab e=>hab ?_) M.1
  have s1:=so _ ha
  have s2:=so _ hb
  obtain ⟨a1,a2,a3⟩:=a
  obtain ⟨b1,b2,b3⟩:=b
  simp only [tfS,Prod.mk.injEq] at e
  obtain ⟨e1,e2,e3⟩:=e
  have q1:a1=b1:=zY (by lia) (by lia) ⟨s1.1,s1.2.1⟩ ⟨s2.1,s2.2.1⟩ e1
  have q3:a3=b3:=zY (by lia) (by lia) ⟨s1.2.2.2.1,s1.2.2.2.2⟩ ⟨s2.2.2.2.1,s2.2.2.2.2⟩ e3
  rw [q1,e2,q3]
 have ki:∀ {l:List Stp} {s:Stp},stpK s∈l.map stpK↔s∈l:=fun {l s}=>⟨fun h=>by
  obtain ⟨u,hu,e⟩:=xai.mp h
  rw [<- jM e]; exact hu,fun h=>List.mem_map_of_mem h⟩
 have nd':l'.Nodup:=fu (f:=stpK) (pm.nodup_iff.mpr (by
  unfold List.Nodup at nd ⊢
  rw [xaG]
  exact nd.imp fun h z=>h (jM z)))
 refine Mde.one (steps:=besS y.1 x.1 tg y.2 x.2) ⟨nd',fun s=>?_,pw⟩ M2
 rw [<- ki (l:=l'),pm.mem_iff,ki,xai,zp (by lia) (by lia) (fun s hs=>(t.mx.ok s hs).1) (fun s hs=>(t.my.ok s hs).1)]
 exact ⟨fun ⟨u,hu,e⟩=>⟨u,(M.2.1 u).mp hu,e⟩,fun ⟨u,hu,e⟩=>⟨u,(M.2.1 u).mpr hu,e⟩⟩
def Tl (M:Int) (out:List Stp) (sl:Sl):Prop:=(out.length<=80/\sl=.ow true (.tup [.str "machine",mD M out]))\/(¬ out.length<=80/\sl=.sh (.tup [.str "too big",.non]))
theorem yN {Q:Md->D->Prop} {x y z:Int × List Stp} {tg names:List Str} {oL oR:List Stp} {o0 o1 o2 o3 o5 o9 o12:Option Sl} (t:Tri x y z tg names) (L:Mde (besS x.1 y.1 tg x.2 y.2) oL) (MR:Mde (besS y.1 z.1 tg y.2 z.2) oR) (hL:oL.length<=80) (hR:oR.length<=80) (h:∀ m,Q m (.bl true)) :
  jK { nx:=fun _=>Q .sh .non,rt:=Q } [o0,o1,o2,o3,some (.ow true (.list (tg.map .str))),o5,some (.sh (mcD x)),some (.sh (mcD y)),some (.sh (mcD z)),o9,some (.ow true (.tup [.str "machine",mD (x.1 * y.1) oL])),some (.ow true (.tup [.str "machine",mD (y.1 * z.1) oR])),o12]:=by
 unfold jK mD
 walk_at "q"
 refine ⟨x.1 * y.1,z.1,oL,z.2,tg,names,rfl,t.pL L hL,fun o3 M3=>⟨fun h3=>?_,fun h3=>?_⟩⟩
 ·unfold mD
  walk_at "q"
  refine ⟨x.1,y.1 * z.1,x.2,oR,tg,names,rfl,t.pR MR hR,fun o4 M4=>?_⟩
  obtain rfl:=t.same L MR M3 M4
  refine ⟨fun h4=>?_,fun h4=>absurd h3 h4⟩
  rw [<- xcI]
  have so:=(t.pL L hL).ok M3
  have okt:=yD so
  have eqt:=yw (m:=x.1 * y.1 * z.1) (l:=o4)
  unfold mD at okt eqt ⊢
  walk_at "q"
  refine ⟨okt,okt,R.T eqt ?_⟩
  rw [if_pos rfl]
  walk_at "q"
  refine ⟨rfl,rfl,?_⟩
  rw [show inD _ _=true by decide +kernel]
  exact h _
 ·walk_at "q"
  refine ⟨x.1,y.1 * z.1,x.2,oR,tg,names,rfl,t.pR MR hR,fun o4 M4=>?_⟩
  obtain rfl:=t.same L MR M3 M4
  refine ⟨fun h4=>absurd h4 h3,fun h4=>?_⟩
  walk_at "q"
  refine ⟨by decide +kernel,by decide +kernel,R.T (by decide +kernel) ?_⟩
  rw [if_pos rfl]
  walk_at "q"
  refine ⟨rfl,rfl,?_⟩
  rw [show inD _ _=true by decide +kernel]
  exact h _
theorem ud {Q:Md->D->Prop} {x y z:Int × List Stp} {tg names:List Str} {oL oR:List Stp} {o0 o1 o2 o3 o5 o9 o12:Option Sl} {sL sR:Sl} (t:Tri x y z tg names) (L:Mde (besS x.1 y.1 tg x.2 y.2) oL) (MR:Mde (besS y.1 z.1 tg y.2 z.2) oR) (tL:Tl (x.1 * y.1) oL sL) (tR:Tl (y.1 * z.1) oR sR) (h:∀ m,Q m (.bl true)) :
  jL { nx:=fun _=>Q .sh .non,rt:=Q } [o0,o1,o2,o3,some (.ow true (.list (tg.map .str))),o5,some (.sh (mcD x)),some (.sh (mcD y)),some (.sh (mcD z)),o9,some sL,some sR,o12]:=by
 obtain ⟨w11,e11⟩:∃ w,w=jK:=⟨_,rfl⟩
 unfold jL
 rw [<- e11]
 rcases tL with ⟨hL,rfl⟩ | ⟨hL,rfl⟩
 ·rcases tR with ⟨hR,rfl⟩ | ⟨hR,rfl⟩
  ·walk_at "q"
   rw [e11]
   exact yN t L MR hL hR h
  ·walk_at "q"
   refine R.T (by decide +kernel) ?_
   rw [if_pos rfl]
   walk_at "q"
   iterate 3
    refine R.T (by decide +kernel) ?_
    rw [if_pos rfl]
    walk_at "q"
   rw [show (!decide _)=true by decide +kernel]
   exact h _
 ·rcases tR with ⟨hR,rfl⟩ | ⟨hR,rfl⟩
  ·walk_at "q"
   refine R.T (by decide +kernel) ?_
   rw [if_pos rfl]
   walk_at "q"
   iterate 3
    refine R.T (by decide +kernel) ?_
    rw [if_pos rfl]
    walk_at "q"
   rw [show (!decide _)=true by decide +kernel]
   exact h _
  ·walk_at "q"
   refine R.T (by decide +kernel) ?_
   rw [if_pos rfl]
   walk_at "q"
   iterate 3
    refine R.T (by decide +kernel) ?_
    rw [if_pos rfl]
    walk_at "q"
   rw [show (!decide _)=true by decide +kernel]
   exact h _
theorem xK {Q:Md->D->Prop} {x y z:Int × List Stp} {tg names:List Str} {oL oR:List Stp} {o0 o1 o2 o3 o5 o9 o12:Option Sl} {sL sR:Sl} (t:Tri x y z tg names) (L:Mde (besS x.1 y.1 tg x.2 y.2) oL) (MR:Mde (besS y.1 z.1 tg y.2 z.2) oR) (tL:Tl (x.1 * y.1) oL sL) (tR:Tl (y.1 * z.1) oR sR) (h:∀ m,Q m (.bl true)) :
  pD { nx:=fun _=>Q .sh .non,rt:=Q } [o0,o1,o2,o3,some (.ow true (.list (tg.map .str))),o5,some (.sh (mcD x)),some (.sh (mcD y)),some (.sh (mcD z)),o9,some sL,some sR,o12]:=by
 obtain ⟨w10,e10⟩:∃ w,w=jL:=⟨_,rfl⟩
 unfold pD
 rw [<- e10]
 rcases id tL with ⟨hL,e⟩ | ⟨hL,e⟩
 ·rw [e]
  unfold mcD mD
  walk_at "q"
  have so:=t.pxy.ok L
  have x1:=t.x1
  have x2:=t.x2
  have y1:=t.y1
  have y2:=t.y2
  obtain ⟨xy1,xy2,_,_⟩:=t.xy
  refine ⟨x.1 * y.1,y.1,x.1,oL,rfl,⟨y1,y2⟩,⟨x1,x2⟩,fun s hs=>?_,hL,fun l' pm pw=>?_⟩
  ·have:=so s hs
   obtain ⟨a1,a2,a3,a4,a5⟩:=this
   exact ⟨a1,by lia,a3,a4,by lia⟩
  unfold mD
  walk_at "q"
  refine ⟨.inl ⟨by lia,by lia⟩,y.1,x.1,y.2,x.2,tg,names,rfl,t.pyx,fun o2 M2=>?_⟩
  obtain rfl:=t.turn L M2 pm pw
  have ll:=pm.length_eq
  rw [xac,xac,xac] at ll
  refine ⟨fun h4=>?_,fun h4=>absurd (by lia) h4⟩
  have okt:=yD (t.pyx.ok M2)
  have eqt:=yw (m:=y.1 * x.1) (l:=l')
  rw [show y.1 * x.1=x.1 * y.1 from xcx ..] at okt eqt ⊢
  unfold mD at okt eqt ⊢
  walk_at "q"
  refine ⟨okt,okt,R.F (by rw [eqt]; rfl) ?_⟩
  rw [if_neg (by decide)]
  walk_at "q"
  rw [e10]
  rw [e] at tL
  exact ud t L MR tL tR h
 ·rw [e]
  walk_at "q"
  refine R.F (by decide +kernel) ?_
  walk_at "q"
  rw [e10,<- e]
  exact ud t L MR tL tR h
theorem xm {Q:Md->D->Prop} {x y z:Int × List Stp} {tg names:List Str} {oL:List Stp} {o0 o1 o2 o3 o5 o9:Option Sl} {sL:Sl} (t:Tri x y z tg names) (L:Mde (besS x.1 y.1 tg x.2 y.2) oL) (tL:Tl (x.1 * y.1) oL sL) (h:∀ m,Q m (.bl true)) :
  n6 { nx:=fun _=>Q .sh .non,rt:=Q } [o0,o1,o2,o3,some (.ow true (.list (tg.map .str))),o5,some (.sh (mcD x)),some (.sh (mcD y)),some (.sh (mcD z)),o9,some sL,none,none]:=by
 obtain ⟨w9,e9⟩:∃ w,w=pD:=⟨_,rfl⟩
 unfold n6
 rw [<- e9]
 walk_at "q"
 refine ⟨y.1,z.1,y.2,z.2,tg,names,rfl,t.pyz,fun oR MR=>⟨fun hR=>?_,fun hR=>?_⟩⟩
 ·walk_at "q"
  rw [e9]
  exact xK t L MR tL (.inl ⟨hR,rfl⟩) h
 ·walk_at "q"
  rw [e9]
  exact xK t L MR tL (.inr ⟨hR,rfl⟩) h
theorem Cj {Q:Md->D->Prop} {x y z:Int × List Stp} {tg names:List Str} {o0 o1 o2 o3 o5 o9:Option Sl} (t:Tri x y z tg names) (h:∀ m,Q m (.bl true)) :
  pF { nx:=fun _=>Q .sh .non,rt:=Q } [o0,o1,o2,o3,some (.ow true (.list (tg.map .str))),o5,some (.sh (mcD x)),some (.sh (mcD y)),some (.sh (mcD z)),o9,none,none,none]:=by
 obtain ⟨w8,e8⟩:∃ w,w=n6:=⟨_,rfl⟩
 unfold pF
 rw [<- e8]
 walk_at "q"
 refine ⟨x.1,y.1,x.2,y.2,tg,names,rfl,t.pxy,fun oL L=>⟨fun hL=>?_,fun hL=>?_⟩⟩
 ·walk_at "q"
  rw [e8]
  exact xm t L (.inl ⟨hL,rfl⟩) h
 ·walk_at "q"
  rw [e8]
  exact xm t L (.inr ⟨hL,rfl⟩) h
theorem Bh {Q:Md->D->Prop} {x y z:Int × List Stp} {tg names:List Str} {o0 o1 o2 o3 o5:Option Sl} (t:Tri x y z tg names) (h:∀ m,Q m (.bl true)) :
  pI { nx:=fun _=>Q .sh .non,rt:=Q } [o0,o1,o2,o3,some (.ow true (.list (tg.map .str))),o5,some (.sh (mcD x)),some (.sh (mcD y)),some (.sh (mcD z)),none,none,none,none]:=by
 obtain ⟨w7,e7⟩:∃ w,w=pF:=⟨_,rfl⟩
 unfold pI
 rw [<- e7]
 walk_at "q"
 refine cY _ (fun i ρ=>∃ o9:Option Sl,ρ=[o0,o1,o2,o3,some (.ow true (.list (tg.map .str))),o5,some (.sh (mcD x)),some (.sh (mcD y)),some (.sh (mcD z)),o9,none,none,none]) ⟨_,rfl⟩ ?_ ?_
 ·rintro i u ρ hx ⟨o9,rfl⟩ N hN
  obtain ⟨m,rfl,m1,m2,mm⟩:∃ m:Int × List Stp,u=mcD m/\1<=m.1/\m.1<=20/\Mc names m:=by
   have:=xaQ hx
   simp only [xaj,xby,or_false] at this
   rcases this with rfl | rfl | rfl
   ·exact ⟨x,rfl,t.x1,t.x2,t.mx⟩
   ·exact ⟨y,rfl,t.y1,t.y2,t.my⟩
   ·exact ⟨z,rfl,t.z1,t.z2,t.mz⟩
  walk_at "q"
  refine ⟨m,tg,names,rfl,m1,m2,mm,t.ex,t.op,?_⟩
  walk_at "q"
  exact hN _ ⟨_,rfl⟩
 ·rintro ρ ⟨o9,rfl⟩
  rw [e7]
  exact Cj t h
theorem Am {Q:Md->D->Prop} {ns:List Int} {tg names:List Str} {o1 o3 o5:Option Sl} (hl:ns.length<=63) (op:∀ t∈tg,Open t) (ex:∃ pool:List Str,names=("*" : Str) :: pool/\pool.length<=5) (hd:∀ n∈names,Deed n) (h:∀ m,Q m (.bl true)) :
  pJ { nx:=fun _=>Q .sh .non,rt:=Q } [some (.sh (.list (ns.map .int))),o1,some (.ow true (.list (names.map .str))),o3,some (.ow true (.list (tg.map .str))),o5,none,none,none,none,none,none,none]:=by
 obtain ⟨w6,e6⟩:∃ w,w=pI:=⟨_,rfl⟩
 unfold pJ
 rw [<- e6]
 walk_at "q"
 have nl:1<=names.length/\names.length<=6:=by obtain ⟨p,rfl,h⟩:=ex; simp; lia
 refine ⟨ns,names,rfl,hl,nl.1,by lia,hd,fun x y z x1 y1 z1 p x2 y2 z2 mx my mz=>?_⟩
 walk_at "q"
 rw [e6]
 exact Bh ⟨x1,y1,z1,p,x2,y2,z2,mx,my,mz,op,ex⟩ h
theorem Cp {l:List Str} {k:Int} (h0:0<=k) (h1:k<=5):(cutG l none (some k)).length<=5:=by
 unfold cutG
 rw [xat]
 have:HT.sIx l.length l.length (some k) - HT.sIx l.length 0 none<=5:=by
  simp only [HT.sIx]
  rw [if_neg (by lia)]
  lia
 lia
theorem Gu:∀ ds Q,sp_law ds Q->Ck { nx:=fun _=>Q .sh .non,rt:=Q } (bh 13 ds):=by
 rintro ds Q ⟨ns,rfl,hl,h⟩
 obtain ⟨w5,e5⟩:∃ w,w=pJ:=⟨_,rfl⟩
 unfold Ck
 rw [<- e5]
 walk_at "q"
 refine ⟨ns,1,rfl,by decide,?_⟩
 generalize ns.getD _ 0=c1
 walk_at "q"
 refine ⟨ns,2,rfl,by decide,?_⟩
 generalize ns.getD _ 0=c2
 walk_at "q"
 refine ⟨c1,c2,rfl,fun pool hp ho nd=>?_⟩
 walk_at "q"
 refine ⟨ns,3,rfl,by decide,?_⟩
 generalize ns.getD _ 0=c3
 walk_at "q"
 rw [CG]
 have cl:=Cp (l:=pool) (k:=3+c3 % 3) (by lia) (by lia)
 have cm:=fun x (hx:x∈cutG pool none (some (3+c3 % 3)))=>Bd hx
 generalize cutG pool none (some (3+c3 % 3))=some' at *
 refine .inl ⟨il pool,by rw [xac]; lia,.inl ⟨il some',ns,4,rfl,by decide,?_⟩⟩
 generalize ns.getD _ 0=c4
 walk_at "q"
 refine cY _ (fun i ρ=>∃ (tg:List Str) (c:Int) (o5:Option Sl),tg.length<=i/\(∀ t∈tg,Open t)/\ρ=[some (.sh (.list (ns.map .int))),some (.ow true (.list (pool.map .str))),some (.ow true (.list ((("*" : Str) :: some').map .str))),some (.sh (.int c)),some (.ow true (.list (tg.map .str))),o5,none,none,none,none,none,none,none]) ⟨[],_,_,xae _,(fun t ht=>nomatch ht),rfl⟩ ?_ ?_
 ·rintro i x ρ hx ⟨tg,c,o5,tl,to,rfl⟩ N hN
  obtain ⟨hi,rfl⟩:=jf hx
  have hi:i<6:=hi
  walk_at "q"
  refine R.D (fun e1=>?_) fun e1=>?_
  ·walk_at "q"
   have hp6:i<pool.length:=by lia
   refine ⟨by lia,.str pool[i],by rw [Int.zero_add]; exact atI_nat (by simp [hp6]),?_⟩
   walk_at "q"
   have a1:=xaM (c / 2) (show 0+(i:Int)+1≠0 by lia)
   have a2:=xaH (c / 2) (show 0<0+(i:Int)+1 by lia)
   generalize c / 2 % (0+(i:Int)+1)=j at *
   refine ⟨by lia,by lia,by lia,?_⟩
   rw [show insL (tg.map D.str) j.toNat (.str pool[i])=(insL tg j.toNat pool[i]).map D.str by simp [insL]]
   refine hN _ ⟨insL tg j.toNat pool[i],_,_,by unfold insL; simp; lia,fun t ht=>?_,rfl⟩
   rcases xak.mp ht with ht | ht
   ·exact to t (xbJ ht)
   ·rcases xaj.mp ht with rfl | ht
    ·exact ho _ (xce _)
    ·exact to t (xbI ht)
  ·walk_at "q"
   exact hN _ ⟨tg,_,_,by lia,to,rfl⟩
 ·rintro ρ ⟨tg,c,o5,tl,to,rfl⟩
  rw [e5]
  refine Am hl to ⟨some',rfl,cl⟩ (fun d hd=>?_) h
  rcases xaj.mp hd with hd | hd
  ·exact .inl hd
  ·exact .inr (ho d (cm d hd))
def top (i:Nat):Stmt:=PySem.Challenge.pw_kinlook_k15_three_side_by_side.main.body.getD i (.Pass ⟨0,0,0,0⟩)
abbrev dw:Stmt:=top 3
abbrev mX:List Str:=["thing"]
abbrev aH:Stmt:=top 12
abbrev du:List Str:=["m"]
abbrev cI:Stmt:=top 13
abbrev lq:List Str:=["m"]
abbrev aU:Stmt:=top 15
abbrev ig:List Str:=["deeds", "deed"]
abbrev a_:Stmt:=top 16
abbrev fL:List Str:=["one", "other", "together", "many", "steps", "start", "deed", "end"]
abbrev aR:Stmt:=top 17
abbrev dZ:List Str:=["one", "other", "together", "many", "steps", "start", "deed", "end"]
abbrev aK:Stmt:=top 18
abbrev cN:List Str:=["one", "other", "together", "many", "steps", "start", "deed", "end", "mates"]
abbrev cT:Stmt:=top 19
abbrev qI:List Str:=["one", "other", "together", "many", "steps", "m"]
abbrev bB:Stmt:=top 21
abbrev jX:List Str:=["_law_script", "_law_k"]
abbrev bu:Stmt:=top 22
abbrev eF:List Str:=["_law_cell", "_law_turn", "_law_letters", "_law_size", "_law_places", "_law_k", "_law_word", "_law_at", "_law_found", "_law_sign"]
abbrev cu:Stmt:=top 23
abbrev pW:List Str:=["_law_cells", "_law_many", "_law_deeds_here", "_law_found", "_law_k", "_law_number", "_law_deed"]
abbrev cA:Stmt:=top 24
abbrev oG:List Str:=["_law_found"]
abbrev aW:Stmt:=top 25
abbrev gP:List Str:=["_law_found", "_law_step"]
abbrev cM:Stmt:=top 26
abbrev qM:List Str:=["_law_one", "_law_other", "_law_together", "_law_handed", "_law_found", "_law_x", "_law_y"]
abbrev bO:Stmt:=top 27
abbrev lY:List Str:=["_law_m", "_law_n", "_law_many", "_law_steps_here", "_law_x", "_law_deed", "_law_y"]
abbrev cj:Stmt:=top 28
abbrev ph:List Str:=["_law_cell", "_law_some"]
abbrev cB:Stmt:=top 29
abbrev nP:List Str:=["_law_script", "_law_names", "_law_first", "_law_sizes_here", "_law_most", "_law_cells", "_law_found", "_law_k"]
abbrev bH:Stmt:=top 30
abbrev gZ:List Str:=["_law_m", "_law_together", "_law_lone", "_law_due"]
abbrev pP:Stmt:=top 31
abbrev Ew:List Str:=["_law_script", "_law_pool", "_law_names", "_law_bits", "_law_together", "_law_k", "_law_one", "_law_other", "_law_third", "_law_m", "_law_left", "_law_right", "_law_due"]
abbrev rn:List Str:=["NoDeed", "TooBig"]
structure Txt (K:PySem.W.Frag) (mg:Str->Option Value):Prop where
 n_all:mg "all" = none
 n_bool:mg "bool" = none
 n_int:mg "int" = none
 n_isinstance:mg "isinstance" = none
 n_len:mg "len" = none
 n_list:mg "list" = none
 n_range:mg "range" = none
 n_set:mg "set" = none
 n_sorted:mg "sorted" = none
 n_str:mg "str" = none
 n_tuple:mg "tuple" = none
 g_LETTERS:GlS mg "LETTERS" "abcdefghijklmnopqrstuvwxyz"
 g_MOST_LETTERS:GlI mg "MOST_LETTERS" 6
 g_MOST_STATES:GlI mg "MOST_STATES" 20
 g_MOST_STEPS:GlI mg "MOST_STEPS" 80
 g_MOST_OPEN_DEEDS:GlI mg "MOST_OPEN_DEEDS" 6
 x_NoDeed:XCl K mg "NoDeed"
 x_TooBig:XCl K mg "TooBig"
 r1_TooBig:Fz K mg ["TooBig"] "TooBig"
section
variable {P:Program} {w:World} {K:PySem.W.Frag} {mg:Str->Option Value} {base:Heap}
theorem m5:FnScope mX ["thing"] (defScope dw):=⟨rfl,rfl,rfl,by decide +kernel,rfl,by decide +kernel,by decide +kernel⟩
theorem vd {f:Addr} {fd:FuncData} (F:Fun K "is_open" "is_open" dw f fd) (T:Txt K mg)  : FnOk P w K mg base CX0 1 f fd ["thing"] (az K bA) :=
 FunQ.ok (t:=k_) F m5 rO (fun cdv A outer s H E hr =>
  have nd:=m5.nd
  have hu:=hr.units
  (aj (cU (qt_w (pK (eV (eX (rP T.n_isinstance (qv 0) (sI T.n_str zX)))) (kI (eV (yu xH xH Ay Ay ao (cP bj fZ rfl T.n_len fW (qv 0)) (q_gi T.g_MOST_LETTERS))))))
   (au (bD q_bl))
   aP)
   (au (bD (cP kAll Ep rfl T.n_all Du (iC (tn:=["sign"]) (cn:=[]) (ix:=[]) rfl (uF (Fl (qv 0))) (cH.of (sc:=defScope dw) (N:=mX) rfl rfl (by decide +kernel)) (fun _ _ _ _=>(aG (i:=0) (show (["sign"]:List Str).Nodup by decide +kernel) rfl (Or.inl rfl) (.inr rfl))) (fun _ _ _ _=>gH) (fun _ _ _ _=>(ou (kIn (K:=K) hu) uP (qv 0) (q_gs T.g_LETTERS) (by rfl))))))))) wG
theorem j_:FnScope lq ["m"] (defScope cI):=⟨rfl,rfl,rfl,by decide +kernel,rfl,by decide +kernel,by decide +kernel⟩
theorem rK {f:Addr} {fd:FuncData} (F:Fun K "deeds_of" "deeds_of" cI f fd) (T:Txt K mg)  : FnOk P w K mg base CX0 1 f fd ["m"] (az K cg) :=
 FunQ.ok (t:=jc) F j_ p_ (fun cdv A outer s H E hr =>
  have nd:=j_.nd
  have hu:=hr.units
  (au (bD (uX rfl T.n_sorted rfl T.n_set (iC (tn:=["step"]) (cn:=[]) (ix:=[]) rfl (iW (q_ix hu (qv 0) ao)) (cH.of (sc:=defScope cI) (N:=lq) rfl rfl (by decide +kernel)) (fun _ _ _ _=>(aG (i:=0) (show (["step"]:List Str).Nodup by decide +kernel) rfl (Or.inl rfl) (.inr rfl))) (fun _ _ _ _=>gH) (fun _ _ _ _=>(q_ix hu (qv 0) ao))))))) uV
theorem fJ:FnScope fL ["one", "other", "together"] (defScope a_):=⟨rfl,rfl,rfl,by decide +kernel,rfl,by decide +kernel,by decide +kernel⟩
theorem jT {f:Addr} {fd:FuncData} (F:Fun K "steps_of_one" "steps_of_one" a_ f fd) (T:Txt K mg)  : FnOk P w K mg base CX0 1 f fd ["one", "other", "together"] (az K aY) :=
 FunQ.ok (t:=dN) F fJ jF (fun cdv A outer s H E hr =>
  have nd:=fJ.nd
  have hu:=hr.units
  (aj (aF (i:=3) nd rfl (Or.inr rfl) (q_ix hu (qv 1) ao))
   (aj (aF (i:=4) nd rfl (Or.inl rfl) (fH aq))
   (aj (bY 0 (eU PassesOwn.never rfl (iT (q_ix hu (qv 0) ao)) (tV rfl (bx (aG (i:=5) nd rfl (Or.inr rfl)) (bx (aG (i:=6) nd rfl (Or.inr rfl)) (bx (aG (i:=7) nd rfl (Or.inr rfl)) kO))))
   (au (cU (bz (yg (K:=K) hu) uP (qv 6) (qv 2) (by rfl))
   (au (bY 6 (wD (eG (pv 4)) (iC (tn:=["q"]) (cn:=["deed", "end", "many", "start"]) (ix:=[6,7,3,5]) rfl (uF (gD T.n_range (qv 3))) (cH.of (sc:=defScope a_) (N:=fL) rfl rfl (by decide +kernel)) (fun _ _ _ _=>(aG (i:=0) (show (["q", "deed", "end", "many", "start"]:List Str).Nodup by decide +kernel) rfl (Or.inl rfl) (.inr rfl))) (fun _ _ _ _=>gH) (fun _ _ _ _=>(cL (aa (cX (eY (qv 4) (qv 3)) (qv 0)) (aa (qv 1) (aa (cX (eY (qv 2) (qv 3)) (qv 0)) aq)))))))))
   aP))))
   (au (eN (pv 4))))))) mj
theorem dU:FnScope dZ ["one", "other", "together"] (defScope aR):=⟨rfl,rfl,rfl,by decide +kernel,rfl,by decide +kernel,by decide +kernel⟩
theorem iV {f:Addr} {fd:FuncData} (F:Fun K "steps_of_other" "steps_of_other" aR f fd) (T:Txt K mg)  : FnOk P w K mg base CX0 1 f fd ["one", "other", "together"] (az K aM) :=
 FunQ.ok (t:=cZ) F dU gO (fun cdv A outer s H E hr =>
  have nd:=dU.nd
  have hu:=hr.units
  (aj (aF (i:=3) nd rfl (Or.inr rfl) (q_ix hu (qv 1) ao))
   (aj (aF (i:=4) nd rfl (Or.inl rfl) (fH aq))
   (aj (bY 1 (eU PassesOwn.never rfl (iT (q_ix hu (qv 1) ao)) (tV rfl (bx (aG (i:=5) nd rfl (Or.inr rfl)) (bx (aG (i:=6) nd rfl (Or.inr rfl)) (bx (aG (i:=7) nd rfl (Or.inr rfl)) kO))))
   (au (cU (bz (yg (K:=K) hu) uP (qv 6) (qv 2) (by rfl))
   (au (bY 6 (wD (eG (pv 4)) (iC (tn:=["p"]) (cn:=["deed", "end", "many", "start"]) (ix:=[6,7,3,5]) rfl (uF (gD T.n_range (q_ix hu (qv 0) ao))) (cH.of (sc:=defScope aR) (N:=dZ) rfl rfl (by decide +kernel)) (fun _ _ _ _=>(aG (i:=0) (show (["p", "deed", "end", "many", "start"]:List Str).Nodup by decide +kernel) rfl (Or.inl rfl) (.inr rfl))) (fun _ _ _ _=>gH) (fun _ _ _ _=>(cL (aa (cX (eY (qv 0) (qv 3)) (qv 4)) (aa (qv 1) (aa (cX (eY (qv 0) (qv 3)) (qv 2)) aq)))))))))
   aP))))
   (au (eN (pv 4))))))) jE
theorem dO:FnScope cN ["one", "other", "together"] (defScope aK):=⟨rfl,rfl,rfl,by decide +kernel,rfl,by decide +kernel,by decide +kernel⟩
theorem i_ {f:Addr} {fd:FuncData} (F:Fun K "steps_together" "steps_together" aK f fd) (T:Txt K mg)  : FnOk P w K mg base CX0 1 f fd ["one", "other", "together"] (az K aN) :=
 FunQ.ok (t:=dg) F dO iQ (fun cdv A outer s H E hr =>
  have nd:=dO.nd
  have hu:=hr.units
  (aj (aF (i:=3) nd rfl (Or.inr rfl) (q_ix hu (qv 1) ao))
   (aj (aF (i:=4) nd rfl (Or.inl rfl) (fH aq))
   (aj (bY 0 (eU PassesOwn.never rfl (iT (q_ix hu (qv 0) ao)) (tV rfl (bx (aG (i:=5) nd rfl (Or.inr rfl)) (bx (aG (i:=6) nd rfl (Or.inr rfl)) (bx (aG (i:=7) nd rfl (Or.inr rfl)) kO))))
   (au (cU (bz (kIn (K:=K) hu) uP (qv 6) (qv 2) (by rfl))
   (aj (uT (i:=8) (tn:=["step"]) (cn:=["deed"]) (ix:=[6]) nd rfl (Or.inl rfl) rfl (iW (q_ix hu (qv 1) ao)) (cH.of (sc:=defScope aK) (N:=cN) rfl rfl (by decide +kernel)) (fun _ _ _ _=>(aG (i:=0) (show (["step", "deed"]:List Str).Nodup by decide +kernel) rfl (Or.inl rfl) (.inr rfl))) (fun _ _ _ _=>(sW (bz (kEq (K:=K) hu) mK (q_ix hu (qv 0) ao) (qv 1) (nomark _)))) (fun _ _ _ _=>(qv 0)))
   (au (bY 6 (wD (eG (pv 4)) (iC (tn:=["mate"]) (cn:=["deed", "end", "many", "start"]) (ix:=[6,7,3,5]) rfl (iW (qv 8)) (cH.of (sc:=defScope aK) (N:=cN) rfl rfl (by decide +kernel)) (fun _ _ _ _=>(aG (i:=0) (show (["mate", "deed", "end", "many", "start"]:List Str).Nodup by decide +kernel) rfl (Or.inl rfl) (.inr rfl))) (fun _ _ _ _=>gH) (fun _ _ _ _=>(cL (aa (cX (eY (qv 4) (qv 3)) (q_ix hu (qv 0) ao)) (aa (qv 1) (aa (cX (eY (qv 2) (qv 3)) (q_ix hu (qv 0) ao)) aq))))))))))
   aP))))
   (au (eN (pv 4))))))) jD
theorem eZ:FnScope jX ["_law_script", "_law_k"] (defScope bB):=⟨rfl,rfl,rfl,by decide +kernel,rfl,by decide +kernel,by decide +kernel⟩
theorem kW {f:Addr} {fd:FuncData} (F:Fun K "_law_cell_at" "_law_cell_at" bB f fd) (T:Txt K mg)  : FnOk P w K mg base CX0 1 f fd ["_law_script", "_law_k"] (az K aD) :=
 FunQ.ok (t:=dI) F eZ jA (fun cdv A outer s H E hr =>
  have nd:=eZ.nd
  have hu:=hr.units
  (aj (cU (bz Dv G7 (qv 1) (cP bj fZ rfl T.n_len fW (qv 0)) (nomark _))
   (au (bD (q_ix hu (qv 0) (qv 1))))
   aP)
   (au (bD ao)))) lO
theorem gU:FnScope eF ["_law_cell", "_law_turn"] (defScope bu):=⟨rfl,rfl,rfl,by decide +kernel,rfl,by decide +kernel,by decide +kernel⟩
theorem nH {f:Addr} {fd:FuncData} (F:Fun K "_law_deeds" "_law_deeds" bu f fd) (T:Txt K mg)  : FnOk P w K mg base CX0 1 f fd ["_law_cell", "_law_turn"] (az K bK) :=
 FunQ.ok (t:=gf) F gU mL (fun cdv A outer s H E hr =>
  have nd:=gU.nd
  have hu:=hr.units
  (aj (aF (i:=2) nd rfl (Or.inr rfl) cO)
   (aj (aF (i:=3) nd rfl (Or.inl rfl) (cX ao (dH (qv 0) ao)))
   (aj (aF (i:=0) nd rfl (Or.inl rfl) (ie (qv 0) ao))
   (aj (aF (i:=4) nd rfl (Or.inl rfl) (fH aq))
   (aj (eU PassesOwn.never rfl (gD T.n_range (qv 3)) (aG (i:=5) nd rfl (Or.inl rfl))
   (aj (pZ (eG (pv 4)) (dH (qv 0) ao))
   (au (aF (i:=0) nd rfl (Or.inl rfl) (ie (qv 0) ao)))))
   (aj (aF (i:=6) nd rfl (Or.inr rfl) (Ex cO (iC (tn:=["_law_k"]) (cn:=["_law_letters"]) (ix:=[2]) rfl (iW (qv 4)) (cH.of (sc:=defScope bu) (N:=eF) rfl rfl (by decide +kernel)) (fun _ _ _ _=>(aG (i:=0) (show (["_law_k", "_law_letters"]:List Str).Nodup by decide +kernel) rfl (Or.inl rfl) (.inr rfl))) (fun _ _ _ _=>gH) (fun _ _ _ _=>(q_ix hu (qv 1) (qv 0))))))
   (aj (cU (bz (kEq (K:=K) hu) mK (dH (ie (qv 1) ao) ao) ao (nomark _))
   (au (bD (iC (tn:=["_law_k"]) (cn:=["_law_word"]) (ix:=[6]) rfl (uF (By T.n_range ao ao)) (cH.of (sc:=defScope bu) (N:=eF) rfl rfl (by decide +kernel)) (fun _ _ _ _=>(aG (i:=0) (show (["_law_k", "_law_word"]:List Str).Nodup by decide +kernel) rfl (Or.inl rfl) (.inr rfl))) (fun _ _ _ _=>gH) (fun _ _ _ _=>(kh (DG ao (qv 1)) jO (fQ (qv 0)))))))
   aP)
   (aj (aF (i:=7) nd rfl (Or.inl rfl) (dH (qv 1) (qv 3)))
   (aj (aF (i:=8) nd rfl (Or.inl rfl) (fH aq))
   (aj (eU PassesOwn.never rfl (gD T.n_range ao) (aG (i:=5) nd rfl (Or.inl rfl))
   (aj (aF (i:=9) nd rfl (Or.inl rfl) (q_ix hu (qv 2) (dH (cX (q_ix hu (qv 4) (qv 7)) (eY ao (qv 5))) ao)))
   (au (pZ (eG (pv 8)) (cX (cX (kh (qv 6) jO (fQ (qv 7))) (qv 9)) (kh (qv 6) (fQ (cX (qv 7) ao)) jO))))))
   (au (eN (pv 8)))))))))))))) qR
theorem gK:FnScope pW ["_law_cells", "_law_many", "_law_deeds_here"] (defScope cu):=⟨rfl,rfl,rfl,by decide +kernel,rfl,by decide +kernel,by decide +kernel⟩
theorem nJ {f:Addr} {fd:FuncData} (F:Fun K "_law_steps" "_law_steps" cu f fd) (T:Txt K mg)  : FnOk P w K mg base CX0 1 f fd ["_law_cells", "_law_many", "_law_deeds_here"] (az K bR) :=
 FunQ.ok (t:=fD) F gK mJ (fun cdv A outer s H E hr =>
  have nd:=gK.nd
  have hu:=hr.units
  (aj (aF (i:=3) nd rfl (Or.inl rfl) (fH aq))
   (aj (eU PassesOwn.never rfl (gD T.n_range (cP bj fZ rfl T.n_len fW (qv 0))) (aG (i:=4) nd rfl (Or.inl rfl))
   (aj (aF (i:=5) nd rfl (Or.inl rfl) (dH (eY (cX (dH (q_ix hu (qv 0) (qv 4)) ao) ao) (cX ao (eY ao (qv 4)))) ao))
   (aj (aF (i:=6) nd rfl (Or.inl rfl) (q_ix hu (qv 2) (dH (ie (qv 5) (qv 1)) (cP bj fZ rfl T.n_len fW (qv 2)))))
   (au (bY 6 (pZ (eG (pv 3)) (cL (aa (dH (qv 5) (qv 1)) (aa (qv 6) (aa (dH (ie (qv 5) (eY (qv 1) (cP bj fZ rfl T.n_len fW (qv 2)))) (qv 1)) aq))))))))))
   (au (eN (pv 3)))))) qC
theorem iJ:FnScope oG ["_law_found"] (defScope cA):=⟨rfl,rfl,rfl,by decide +kernel,rfl,by decide +kernel,by decide +kernel⟩
theorem o_ {f:Addr} {fd:FuncData} (F:Fun K "_law_whole" "_law_whole" cA f fd) (T:Txt K mg)  : FnOk P w K mg base CX0 1 f fd ["_law_found"] (az K aZ) :=
 FunQ.ok (t:=fM) F iJ lN (fun cdv A outer s H E hr =>
  have nd:=iJ.nd
  have hu:=hr.units
  (au (bD (uO (rP T.n_isinstance (qv 0) (sI T.n_int zV)) (zM (GJ (rP T.n_isinstance (qv 0) (sI T.n_bool Bl)))))))) qd
theorem gn:FnScope lY ["_law_m", "_law_n", "_law_many"] (defScope bO):=⟨rfl,rfl,rfl,by decide +kernel,rfl,by decide +kernel,by decide +kernel⟩
theorem lX {f:Addr} {fd:FuncData} (F:Fun K "_law_turned" "_law_turned" bO f fd) (T:Txt K mg)  : FnOk P w K mg base CX0 1 f fd ["_law_m", "_law_n", "_law_many"] (az K bC) :=
 FunQ.ok (t:=eQ) F gn jW (fun cdv A outer s H E hr =>
  have nd:=gn.nd
  have hu:=hr.units
  (aj (aF (i:=3) nd rfl (Or.inl rfl) (fH aq))
   (aj (bY 0 (eU PassesOwn.never rfl (iT (q_ix hu (qv 0) ao)) (tV rfl (bx (aG (i:=4) nd rfl (Or.inl rfl)) (bx (aG (i:=5) nd rfl (Or.inl rfl)) (bx (aG (i:=6) nd rfl (Or.inl rfl)) kO))))
   (au (bY 5 (pZ (eG (pv 3)) (cL (aa (cX (eY (dH (qv 4) (qv 1)) (qv 2)) (ie (qv 4) (qv 1))) (aa (qv 5) (aa (cX (eY (dH (qv 6) (qv 1)) (qv 2)) (ie (qv 6) (qv 1))) aq)))))))))
   (au (bD (cL (aa (q_ix hu (qv 0) ao) (aa (cP Eo yz rfl T.n_sorted jQ (qv 3)) aq)))))))) oX
theorem g8:FnScope ph ["_law_cell"] (defScope cj):=⟨rfl,rfl,rfl,by decide +kernel,rfl,by decide +kernel,by decide +kernel⟩
theorem oM {f:Addr} {fd:FuncData} (F:Fun K "_law_sizes" "_law_sizes" cj f fd) (T:Txt K mg)  : FnOk P w K mg base CX0 1 f fd ["_law_cell"] (az K bV) :=
 FunQ.ok (t:=fV) F g8 mq (fun cdv A outer s H E hr =>
  have nd:=g8.nd
  have hu:=hr.units
  (aj (cU (bz (kEq (K:=K) hu) mK (dH (qv 0) ao) ao (nomark _))
   (by (with_reducible refine yM ?_ ?_ ?_ ?_ ?_ ?_ ?_); (exact nd); (rfl); (exact Or.inl rfl); (with_reducible refine jx ?_); (with_reducible refine jx ?_); (with_reducible refine jx ?_); (with_reducible refine jx ?_); (with_reducible refine jx ?_); (with_reducible refine jx ?_); (with_reducible refine jx ?_); (with_reducible refine jx ?_); (exact aq); (rfl); (exact .inl rfl); exact (au (bD (q_ix hu (qv 1) (dH (ie (qv 0) ao) ao)))))
   aP)
   (au (bD (cL (aa (cX ao (dH (ie (qv 0) ao) ao)) (aa (cX ao (dH (ie (qv 0) ao) ao)) (aa (cX ao (dH (ie (qv 0) ao) ao)) aq)))))))) qH
theorem fj:FnScope du ["m"] (defScope aH):=⟨rfl,rfl,rfl,by decide +kernel,rfl,by decide +kernel,by decide +kernel⟩
theorem lK {f:Addr} (T:Txt K mg) (c_deeds_of:Cal P w K mg base 1 "deeds_of" ["m"] (az K cg)) (c_is_open:Cal P w K mg base 1 "is_open" ["thing"] (az K bA)) (cdv:Value) (A:Around) (outer:List PySem.Env) (s:Shared) (H:Hp) (E:XK) (hr:Room 1 (A.deeper (envOfC "check_bounds" (defScope aH) s.heap.objs.size f cdv))) :
  QSs (cxOf (CXx P w mg rn) P w K mg base du "check_bounds" (defScope aH) f cdv A outer s H E) K (LX rn mg E) (defBody aH) dJ :=
 have nd:=fj.nd
 have hu:(A.deeper (envOfC "check_bounds" (defScope aH) s.heap.objs.size f cdv)).units+64<cLine:=hr.units
 (aj (cU (bz wZ Be (q_ix hu (qv 0) ao) (q_gi T.g_MOST_STATES) (nomark _))
   (au (jJ rfl sX T.x_TooBig (.tail _ (.head _)) cO))
   aP)
   (aj (cU (bz wZ Be (cP bj fZ rfl T.n_len fW (q_ix hu (qv 0) ao)) (q_gi T.g_MOST_STEPS) (nomark _))
   (au (jJ rfl sX T.x_TooBig (.tail _ (.head _)) cO))
   aP)
   (au (cU (bz wZ Be (cP bj fZ rfl T.n_len fW (iC (tn:=["deed"]) (cn:=[]) (ix:=[]) rfl (iW (cC c_deeds_of (hr.mono (by decide)) (aa (qv 0) aq))) (cH.of (sc:=defScope aH) (N:=du) rfl rfl (by decide +kernel)) (fun _ _ _ _=>(aG (i:=0) (show (["deed"]:List Str).Nodup by decide +kernel) rfl (Or.inl rfl) (.inr rfl))) (fun _ _ _ _=>(sW (eX (cC c_is_open (hr.mono (by decide)) (aa (qv 0) aq))))) (fun _ _ _ _=>(qv 0)))) (q_gi T.g_MOST_OPEN_DEEDS) (nomark _))
   (au (jJ rfl sX T.x_TooBig (.tail _ (.head _)) cO))
   aP))))
theorem lz {f:Addr} {fd:FuncData} (F:Fun K "check_bounds" "check_bounds" aH f fd) (T:Txt K mg) (c_deeds_of:Cal P w K mg base 1 "deeds_of" ["m"] (az K cg)) (c_is_open:Cal P w K mg base 1 "is_open" ["thing"] (az K bA)):FnOk P w K mg base (CXx P w mg rn) 2 f fd ["m"] (dq K rn mg aO) :=
 FunX.ok F fj jB (lK T c_deeds_of c_is_open) lM
theorem ir:FnScope ig ["deeds"] (defScope aU):=⟨rfl,rfl,rfl,by decide +kernel,rfl,by decide +kernel,by decide +kernel⟩
theorem qe {f:Addr} (T:Txt K mg) (c_is_open:Cal P w K mg base 1 "is_open" ["thing"] (az K bA)) (cdv:Value) (A:Around) (outer:List PySem.Env) (s:Shared) (H:Hp) (E:XK) (hr:Room 1 (A.deeper (envOfC "check_open" (defScope aU) s.heap.objs.size f cdv))) :
  QSs (cxOf (CXx P w mg rn) P w K mg base ig "check_open" (defScope aU) f cdv A outer s H E) K (LX rn mg E) (defBody aU) e_ :=
 have nd:=ir.nd
 have hu:(A.deeper (envOfC "check_open" (defScope aU) s.heap.objs.size f cdv)).units+64<cLine:=hr.units
 (au (bY 0 (eU PassesOwn.leaving rfl (iT (qv 0)) (aG (i:=1) nd rfl (Or.inl rfl))
   (au (cU (eV (eX (cC c_is_open (hr.mono (by decide)) (aa (qv 1) aq))))
   (au (jJ rfl sX T.x_NoDeed (.head _) cO))
   aP)))))
theorem nT {f:Addr} {fd:FuncData} (F:Fun K "check_open" "check_open" aU f fd) (T:Txt K mg) (c_is_open:Cal P w K mg base 1 "is_open" ["thing"] (az K bA)):FnOk P w K mg base (CXx P w mg rn) 2 f fd ["deeds"] (dq K rn mg bw) :=
 FunX.ok F ir l_ (qe T c_is_open) qF
theorem dF:FnScope gP ["_law_found"] (defScope aW):=⟨rfl,rfl,rfl,by decide +kernel,rfl,by decide +kernel,by decide +kernel⟩
theorem iG {f:Addr} {fd:FuncData} (F:Fun K "_law_is_machine" "_law_is_machine" aW f fd) (T:Txt K mg) (c__law_whole:Cal P w K mg base 1 "_law_whole" ["_law_found"] (az K aZ)):FnOk P w K mg base CX0 2 f fd ["_law_found"] (az K aQ) :=
 FunQ.ok (t:=cJ) F dF gC (fun cdv A outer s H E hr =>
  have nd:=dF.nd
  have hu:=hr.units
  (aj (cU (qt_w (pK (eV (eX (rP T.n_isinstance (qv 0) (sI T.n_tuple tK)))) (pK (bz (kNe (K:=K) hu) jb (cP bj fZ rfl T.n_len fW (qv 0)) ao (nomark _)) (kI (eV (eX (cC c__law_whole (hr.mono (by decide)) (aa (q_ix hu (qv 0) ao) aq))))))))
   (au (bD q_bl))
   aP)
   (aj (cU (eV (eX (rP T.n_isinstance (q_ix hu (qv 0) ao) (sI T.n_list pC))))
   (au (bD q_bl))
   aP)
   (aj (bY 0 (eU PassesOwn.never rfl (iT (q_ix hu (qv 0) ao)) (aG (i:=1) nd rfl (Or.inl rfl))
   (aj (cU (qt_w (pK (eV (eX (rP T.n_isinstance (qv 1) (sI T.n_tuple tK)))) (pK (bz (kNe (K:=K) hu) jb (cP bj fZ rfl T.n_len fW (qv 1)) ao (nomark _)) (kI (eV (eX (rP T.n_isinstance (q_ix hu (qv 1) ao) (sI T.n_str zX))))))))
   (au (bD q_bl))
   aP)
   (au (cU (qt_w (pK (eV (eX (cC c__law_whole (hr.mono (by decide)) (aa (q_ix hu (qv 1) ao) aq)))) (kI (eV (eX (cC c__law_whole (hr.mono (by decide)) (aa (q_ix hu (qv 1) ao) aq)))))))
   (au (bD q_bl))
   aP)))))
   (au (bD q_bl)))))) iY
theorem iD:FnScope nP ["_law_script", "_law_names"] (defScope cB):=⟨rfl,rfl,rfl,by decide +kernel,rfl,by decide +kernel,by decide +kernel⟩
theorem nY {f:Addr} {fd:FuncData} (F:Fun K "_law_three" "_law_three" cB f fd) (T:Txt K mg) (c__law_cell_at:Cal P w K mg base 1 "_law_cell_at" ["_law_script", "_law_k"] (az K aD)) (c__law_sizes:Cal P w K mg base 1 "_law_sizes" ["_law_cell"] (az K bV)) (c__law_steps:Cal P w K mg base 1 "_law_steps" ["_law_cells", "_law_many", "_law_deeds_here"] (az K bR)):FnOk P w K mg base CX0 2 f fd ["_law_script", "_law_names"] (az K bM) :=
 FunQ.ok (t:=fO) F iD mH (fun cdv A outer s H E hr =>
  have nd:=iD.nd
  have hu:=hr.units
  (aj (aF (i:=2) nd rfl (Or.inl rfl) (cC c__law_cell_at (hr.mono (by decide)) (aa (qv 0) (aa ao aq))))
   (aj (aF (i:=3) nd rfl (Or.inl rfl) (cC c__law_sizes (hr.mono (by decide)) (aa (qv 2) aq)))
   (aj (aF (i:=4) nd rfl (Or.inl rfl) ao)
   (aj (cU (bz (kEq (K:=K) hu) mK (dH (ie (qv 2) ao) ao) ao (nomark _))
   (au (aF (i:=4) nd rfl (Or.inl rfl) ao))
   aP)
   (aj (aF (i:=5) nd rfl (Or.inl rfl) (kh (qv 0) (fQ ao) (fQ (cX ao (eY ao (qv 4))))))
   (aj (aF (i:=6) nd rfl (Or.inl rfl) (fH aq))
   (aj (eU PassesOwn.never rfl (gD T.n_range ao) (aG (i:=7) nd rfl (Or.inl rfl))
   (au (pZ (eG (pv 6)) (cL (aa (q_ix hu (qv 3) (qv 7)) (aa (m8 hu rfl T.n_sorted rfl T.n_set (cC c__law_steps (hr.mono (by decide)) (aa (v_ (qv 5) (fQ (qv 7)) jO (fQ ao)) (aa (q_ix hu (qv 3) (qv 7)) (aa (qv 1) aq))))) aq))))))
   (au (eN (pv 6))))))))))) pX
theorem qD:FnScope qI ["one", "other", "together"] (defScope cT):=⟨rfl,rfl,rfl,by decide +kernel,rfl,by decide +kernel,by decide +kernel⟩
theorem zJ {f:Addr} (T:Txt K mg) (c_check_open:CalX P w K mg base rn 2 "check_open" ["deeds"] bw) (c_check_bounds:CalX P w K mg base rn 2 "check_bounds" ["m"] aO) (c_steps_of_one:Cal P w K mg base 1 "steps_of_one" ["one", "other", "together"] (az K aY)) (c_steps_of_other:Cal P w K mg base 1 "steps_of_other" ["one", "other", "together"] (az K aM)) (c_steps_together:Cal P w K mg base 1 "steps_together" ["one", "other", "together"] (az K aN)) (cdv:Value) (A:Around) (outer:List PySem.Env) (s:Shared) (H:Hp) (E:XK) (hr:Room 2 (A.deeper (envOfC "beside" (defScope cT) s.heap.objs.size f cdv))) :
  QSs (cxOf (CXx P w mg rn) P w K mg base qI "beside" (defScope cT) f cdv A outer s H E) K (LX rn mg E) (defBody cT) nR :=
 have nd:=qD.nd
 have hu:(A.deeper (envOfC "beside" (defScope cT) s.heap.objs.size f cdv)).units+64<cLine:=hr.units
 (aj (pQ c_check_open (hr.mono (by decide)) Ad (aa (qv 2) aq))
   (aj (aF (i:=3) nd rfl (Or.inl rfl) (eY (q_ix hu (qv 0) ao) (q_ix hu (qv 1) ao)))
   (aj (bY 3 (pQ c_check_bounds (hr.mono (by decide)) Ad (aa (cL (aa (qv 3) (aa (fH aq) aq))) aq)))
   (aj (aF (i:=4) nd rfl (Or.inl rfl) (cX (cC c_steps_of_one (hr.mono (by decide)) (aa (qv 0) (aa (qv 1) (aa (qv 2) aq)))) (cC c_steps_of_other (hr.mono (by decide)) (aa (qv 0) (aa (qv 1) (aa (qv 2) aq))))))
   (aj (bY 3 (aF (i:=5) nd rfl (Or.inl rfl) (cL (aa (qv 3) (aa (m8 hu rfl T.n_sorted rfl T.n_set (cX (qv 4) (cC c_steps_together (hr.mono (by decide)) (aa (qv 0) (aa (qv 1) (aa (qv 2) aq)))))) aq)))))
   (aj (pQ c_check_bounds (hr.mono (by decide)) Ad (aa (qv 5) aq))
   (au (eN (pv 5)))))))))
theorem yh {f:Addr} {fd:FuncData} (F:Fun K "beside" "beside" cT f fd) (T:Txt K mg) (c_check_open:CalX P w K mg base rn 2 "check_open" ["deeds"] bw) (c_check_bounds:CalX P w K mg base rn 2 "check_bounds" ["m"] aO) (c_steps_of_one:Cal P w K mg base 1 "steps_of_one" ["one", "other", "together"] (az K aY)) (c_steps_of_other:Cal P w K mg base 1 "steps_of_other" ["one", "other", "together"] (az K aM)) (c_steps_together:Cal P w K mg base 1 "steps_together" ["one", "other", "together"] (az K aN)):FnOk P w K mg base (CXx P w mg rn) 3 f fd ["one", "other", "together"] (dq K rn mg dY) :=
 FunX.ok F qD vz (zJ T c_check_open c_check_bounds c_steps_of_one c_steps_of_other c_steps_together) zx
theorem jl:FnScope qM ["_law_one", "_law_other", "_law_together"] (defScope cM):=⟨rfl,rfl,rfl,by decide +kernel,rfl,by decide +kernel,by decide +kernel⟩
theorem qp {f:Addr} {fd:FuncData} (F:Fun K "_law_told" "_law_told" cM f fd) (T:Txt K mg) (c__law_is_machine:Cal P w K mg base 2 "_law_is_machine" ["_law_found"] (az K aQ)) (c_beside:CalX P w K mg base rn 3 "beside" ["one", "other", "together"] dY):FnOk P w K mg base CX0 4 f fd ["_law_one", "_law_other", "_law_together"] (az K aB) :=
 FunQ.ok (t:=gB) F jl oJ (fun cdv A outer s H E hr =>
  have nd:=jl.nd
  have hu:=hr.units
  (aj (aF (i:=3) nd rfl (Or.inl rfl) (fH (aa (cL (aa (q_ix hu (qv 0) ao) (aa (nW jg rQ rfl T.n_list pC (q_ix hu (qv 0) ao)) aq))) (aa (cL (aa (q_ix hu (qv 1) ao) (aa (nW jg rQ rfl T.n_list pC (q_ix hu (qv 1) ao)) aq))) (aa (nW jg rQ rfl T.n_list pC (qv 2)) aq)))))
   (aj (aF (i:=4) nd rfl (Or.inl rfl) (cL (aa cO (aa vI aq))))
   (aj (B_ T.r1_TooBig nd rfl (Or.inl rfl) rfl rfl (fun pn xe E1 σ0 hx1=>(D_ (c0:=.str "machine") pe_str (fun _=>.str (by decide)) c_beside (hr.mono (by decide)) hx1 (aa (q_ix hu (qv 3) ao) (aa (q_ix hu (qv 3) ao) (aa (q_ix hu (qv 3) ao) aq)))))
   (fun pn a=>(au (aF (i:=4) nd rfl (Or.inl rfl) (cL (aa cO (aa vI aq)))))))
   (aj (bY 2 (bY 1 (bY 0 (cU (bz (kNe (K:=K) hu) jb (qv 3) (fH (aa (qv 0) (aa (qv 1) (aa (qv 2) aq)))) (nomark _))
   (au (bD (cL (aa cO (aa vI aq)))))
   aP))))
   (aj (cU (bz (kEq (K:=K) hu) mK (q_ix hu (qv 4) ao) cO (nomark _))
   (aj (aF (i:=5) nd rfl (Or.inl rfl) (cP bj fZ rfl T.n_len fW (q_ix hu (qv 0) ao)))
   (aj (aF (i:=6) nd rfl (Or.inl rfl) (cP bj fZ rfl T.n_len fW (q_ix hu (qv 1) ao)))
   (aj (cU (bz xH Ay (cX (cX (eY (qv 5) (q_ix hu (qv 1) ao)) (eY (qv 6) (q_ix hu (qv 0) ao))) (eY (qv 5) (qv 6))) ao (nomark _))
   (au (bD (cL (aa cO (aa vI aq)))))
   aP)
   (au (eN (pv 4))))))
   aP)
   (aj (cU (eV (eX (cC c__law_is_machine (hr.mono (by decide)) (aa (q_ix hu (qv 4) ao) aq))))
   (au (bD (cL (aa cO (aa vI aq)))))
   aP)
   (au (eN (pv 4)))))))))) rH
theorem iB:FnScope gZ ["_law_m", "_law_together"] (defScope bH):=⟨rfl,rfl,rfl,by decide +kernel,rfl,by decide +kernel,by decide +kernel⟩
theorem pO {f:Addr} {fd:FuncData} (F:Fun K "_law_alone" "_law_alone" bH f fd) (T:Txt K mg) (c__law_told:Cal P w K mg base 4 "_law_told" ["_law_one", "_law_other", "_law_together"] (az K aB)):FnOk P w K mg base CX0 5 f fd ["_law_m", "_law_together"] (az K bN) :=
 FunQ.ok (t:=fG) F iB lW (fun cdv A outer s H E hr =>
  have nd:=iB.nd
  have hu:=hr.units
  (aj (aF (i:=2) nd rfl (Or.inl rfl) (cL (aa ao (aa (fH aq) aq))))
   (aj (bY 0 (cU (qt_w (pK (bz (kNe (K:=K) hu) jb (cC c__law_told (hr.mono (by decide)) (aa (qv 0) (aa (qv 2) (aa (fH aq) aq)))) (cL (aa cO (aa (qv 0) aq))) (nomark _)) (kI (bz (kNe (K:=K) hu) jb (cC c__law_told (hr.mono (by decide)) (aa (qv 2) (aa (qv 0) (aa (fH aq) aq)))) (cL (aa cO (aa (qv 0) aq))) (nomark _)))))
   (au (bD q_bl))
   aP))
   (aj (aF (i:=3) nd rfl (Or.inl rfl) (cL (aa (q_ix hu (qv 0) ao) (aa (iC (tn:=["_law_step"]) (cn:=["_law_together"]) (ix:=[1]) rfl (iW (q_ix hu (qv 0) ao)) (cH.of (sc:=defScope bH) (N:=gZ) rfl rfl (by decide +kernel)) (fun _ _ _ _=>(aG (i:=0) (show (["_law_step", "_law_together"]:List Str).Nodup by decide +kernel) rfl (Or.inl rfl) (.inr rfl))) (fun _ _ _ _=>(sW (bz (yg (K:=K) hu) uP (q_ix hu (qv 0) ao) (qv 1) (by rfl)))) (fun _ _ _ _=>(qv 0))) aq))))
   (au (bY 3 (bD (uO (ou (kEq (K:=K) hu) mK (cC c__law_told (hr.mono (by decide)) (aa (qv 0) (aa (qv 2) (aa (qv 1) aq)))) (cL (aa cO (aa (qv 3) aq))) (nomark _)) (zM (ou (kEq (K:=K) hu) mK (cC c__law_told (hr.mono (by decide)) (aa (qv 2) (aa (qv 0) (aa (qv 1) aq)))) (cL (aa cO (aa (qv 3) aq))) (nomark _))))))))))) qJ
theorem Aa:FnScope Ew ["_law_script"] (defScope pP):=⟨rfl,rfl,rfl,by decide +kernel,rfl,by decide +kernel,by decide +kernel⟩
theorem ok_law {f:Addr} {fd:FuncData} (F:Fun K "law" "law" pP f fd) (T:Txt K mg) (c__law_deeds:Cal P w K mg base 1 "_law_deeds" ["_law_cell", "_law_turn"] (az K bK)) (c__law_cell_at:Cal P w K mg base 1 "_law_cell_at" ["_law_script", "_law_k"] (az K aD)) (c__law_three:Cal P w K mg base 2 "_law_three" ["_law_script", "_law_names"] (az K bM)) (c__law_told:Cal P w K mg base 4 "_law_told" ["_law_one", "_law_other", "_law_together"] (az K aB)) (c__law_alone:Cal P w K mg base 5 "_law_alone" ["_law_m", "_law_together"] (az K bN)) (c__law_turned:Cal P w K mg base 1 "_law_turned" ["_law_m", "_law_n", "_law_many"] (az K bC)):FnOk P w K mg base CX0 6 f fd ["_law_script"] (az K sp_law) :=
 FunQ.ok (t:=Ck) F Aa Cd (fun cdv A outer s H E hr =>
  have nd:=Aa.nd
  have hu:=hr.units
  (aj (aF (i:=1) nd rfl (Or.inl rfl) (cC c__law_deeds (hr.mono (by decide)) (aa (cC c__law_cell_at (hr.mono (by decide)) (aa (qv 0) (aa ao aq))) (aa (cC c__law_cell_at (hr.mono (by decide)) (aa (qv 0) (aa ao aq))) aq))))
   (aj (aF (i:=2) nd rfl (Or.inl rfl) (cX (fH (aa cO aq)) (kh (qv 1) jO (fQ (cX ao (dH (cC c__law_cell_at (hr.mono (by decide)) (aa (qv 0) (aa ao aq))) ao))))))
   (aj (aF (i:=3) nd rfl (Or.inl rfl) (cC c__law_cell_at (hr.mono (by decide)) (aa (qv 0) (aa ao aq))))
   (aj (aF (i:=4) nd rfl (Or.inl rfl) (fH aq))
   (aj (eU PassesOwn.never rfl (gD T.n_range ao) (aG (i:=5) nd rfl (Or.inl rfl))
   (aj (cU (bz (kEq (K:=K) hu) mK (dH (qv 3) ao) ao (nomark _))
   (au (Dg (eG (pv 4)) (dH (ie (qv 3) ao) (cX (qv 5) ao)) (q_ix hu (qv 1) (qv 5))))
   aP)
   (au (aF (i:=3) nd rfl (Or.inl rfl) (ie (qv 3) ao)))))
   (aj (Bx (q_fz (cC c__law_three (hr.mono (by decide)) (aa (qv 0) (aa (qv 2) aq)))) (Dc rfl (bx (aG (i:=6) nd rfl (Or.inl rfl)) (bx (aG (i:=7) nd rfl (Or.inl rfl)) (bx (aG (i:=8) nd rfl (Or.inl rfl)) kO)))))
   (aj (bY 8 (bY 7 (bY 6 (eU PassesOwn.never rfl (Dk (cL (aa (qv 6) (aa (qv 7) (aa (qv 8) aq))))) (aG (i:=9) nd rfl (Or.inl rfl))
   (au (cU (eV (eX (cC c__law_alone (hr.mono (by decide)) (aa (qv 9) (aa (qv 4) aq)))))
   (au (bD q_bl))
   aP))))))
   (aj (aF (i:=10) nd rfl (Or.inl rfl) (cC c__law_told (hr.mono (by decide)) (aa (qv 6) (aa (qv 7) (aa (qv 4) aq)))))
   (aj (aF (i:=11) nd rfl (Or.inl rfl) (cC c__law_told (hr.mono (by decide)) (aa (qv 7) (aa (qv 8) (aa (qv 4) aq)))))
   (aj (cU (bz (kEq (K:=K) hu) mK (q_ix hu (qv 10) ao) cO (nomark _))
   (aj (aF (i:=12) nd rfl (Or.inl rfl) (cL (aa cO (aa (cC c__law_turned (hr.mono (by decide)) (aa (q_ix hu (qv 10) ao) (aa (q_ix hu (qv 7) ao) (aa (q_ix hu (qv 6) ao) aq)))) aq))))
   (au (cU (qt_w (pK (bz (kNe (K:=K) hu) jb (q_ix hu (q_ix hu (qv 10) ao) ao) (eY (q_ix hu (qv 6) ao) (q_ix hu (qv 7) ao)) (nomark _)) (kI (bz (kNe (K:=K) hu) jb (cC c__law_told (hr.mono (by decide)) (aa (qv 7) (aa (qv 6) (aa (qv 4) aq)))) (qv 12) (nomark _)))))
   (au (bD q_bl))
   aP)))
   aP)
   (aj (cU (qt_w (pK (bz (kNe (K:=K) hu) jb (q_ix hu (qv 10) ao) cO (nomark _)) (kI (bz (kNe (K:=K) hu) jb (q_ix hu (qv 11) ao) cO (nomark _)))))
   (au (bD (uO (ou (kNe (K:=K) hu) jb (q_ix hu (qv 10) ao) cO (nomark _)) (uO (ou (kNe (K:=K) hu) jb (q_ix hu (qv 11) ao) cO (nomark _)) (uO (ou (kNe (K:=K) hu) jb (q_ix hu (qv 10) ao) cO (nomark _)) (zM (ou (kNe (K:=K) hu) jb (q_ix hu (qv 11) ao) cO (nomark _))))))))
   aP)
   (aj (aF (i:=10) nd rfl (Or.inl rfl) (cC c__law_told (hr.mono (by decide)) (aa (q_ix hu (qv 10) ao) (aa (qv 8) (aa (qv 4) aq)))))
   (aj (aF (i:=11) nd rfl (Or.inl rfl) (cC c__law_told (hr.mono (by decide)) (aa (qv 6) (aa (q_ix hu (qv 11) ao) (aa (qv 4) aq)))))
   (au (bD (uO (ou (kEq (K:=K) hu) mK (qv 10) (qv 11) (nomark _)) (zM (ou (kIn (K:=K) hu) uP (q_ix hu (qv 10) ao) (cL (aa cO (aa cO aq))) (by rfl)))))))))))))))))))) Gu
end
theorem us1 {us:List Value} (h:us.length=1):∃ a0,us=[a0]:=by
 cases us with
 | nil=>simp at h
 | cons a0 us =>
 cases us with
 | nil=>exact ⟨_,rfl⟩
 | cons b us=>simp at h
theorem us2 {us:List Value} (h:us.length=2):∃ a0 a1,us=[a0,a1]:=by
 cases us with
 | nil=>simp at h
 | cons a0 us =>
 cases us with
 | nil=>simp at h
 | cons a1 us =>
 cases us with
 | nil=>exact ⟨_,_,rfl⟩
 | cons b us=>simp at h
theorem us3 {us:List Value} (h:us.length=3):∃ a0 a1 a2,us=[a0,a1,a2]:=by
 cases us with
 | nil=>simp at h
 | cons a0 us =>
 cases us with
 | nil=>simp at h
 | cons a1 us =>
 cases us with
 | nil=>simp at h
 | cons a2 us =>
 cases us with
 | nil=>exact ⟨_,_,_,rfl⟩
 | cons b us=>simp at h
theorem all_mk {l:PySem.W.OpenLaw} {w:World} {K:PySem.W.Frag} {h:Heap} {mg:Str->Option Value} {fa:Addr} (X:K.In h) (G:h.Ns mainGlobals mg) (hfa:mg "law" = some (.ref fa))
  (a0:PySem.W.nsIn K mainGlobals "is_open" = some (some (.ref f0))) (l0:K.lookup f0=some ⟨o0,d0,.func (PySem.W.fnOf "is_open" "is_open" (defArgs dw) (defBody dw) (defScope dw) .none v0 j0 p0 e0 r0 u0),t0⟩) (c0:PySem.W.codeIn K r0 "is_open" = true) (k0:PySem.W.keepIn K (.ref f0)=true)
  (a1:PySem.W.nsIn K mainGlobals "check_bounds" = some (some (.ref f1))) (l1:K.lookup f1=some ⟨o1,d1,.func (PySem.W.fnOf "check_bounds" "check_bounds" (defArgs aH) (defBody aH) (defScope aH) .none v1 j1 p1 e1 r1 u1),t1⟩) (c1:PySem.W.codeIn K r1 "check_bounds" = true) (k1:PySem.W.keepIn K (.ref f1)=true)
  (a2:PySem.W.nsIn K mainGlobals "deeds_of" = some (some (.ref f2))) (l2:K.lookup f2=some ⟨o2,d2,.func (PySem.W.fnOf "deeds_of" "deeds_of" (defArgs cI) (defBody cI) (defScope cI) .none v2 j2 p2 e2 r2 u2),t2⟩) (c2:PySem.W.codeIn K r2 "deeds_of" = true) (k2:PySem.W.keepIn K (.ref f2)=true)
  (a3:PySem.W.nsIn K mainGlobals "check_open" = some (some (.ref f3))) (l3:K.lookup f3=some ⟨o3,d3,.func (PySem.W.fnOf "check_open" "check_open" (defArgs aU) (defBody aU) (defScope aU) .none v3 j3 p3 e3 r3 u3),t3⟩) (c3:PySem.W.codeIn K r3 "check_open" = true) (k3:PySem.W.keepIn K (.ref f3)=true)
  (a4:PySem.W.nsIn K mainGlobals "steps_of_one" = some (some (.ref f4))) (l4:K.lookup f4=some ⟨o4,d4,.func (PySem.W.fnOf "steps_of_one" "steps_of_one" (defArgs a_) (defBody a_) (defScope a_) .none v4 j4 p4 e4 r4 u4),t4⟩) (c4:PySem.W.codeIn K r4 "steps_of_one" = true) (k4:PySem.W.keepIn K (.ref f4)=true)
  (a5:PySem.W.nsIn K mainGlobals "steps_of_other" = some (some (.ref f5))) (l5:K.lookup f5=some ⟨o5,d5,.func (PySem.W.fnOf "steps_of_other" "steps_of_other" (defArgs aR) (defBody aR) (defScope aR) .none v5 j5 p5 e5 r5 u5),t5⟩) (c5:PySem.W.codeIn K r5 "steps_of_other" = true) (k5:PySem.W.keepIn K (.ref f5)=true)
  (a6:PySem.W.nsIn K mainGlobals "steps_together" = some (some (.ref f6))) (l6:K.lookup f6=some ⟨o6,d6,.func (PySem.W.fnOf "steps_together" "steps_together" (defArgs aK) (defBody aK) (defScope aK) .none v6 j6 p6 e6 r6 u6),t6⟩) (c6:PySem.W.codeIn K r6 "steps_together" = true) (k6:PySem.W.keepIn K (.ref f6)=true)
  (a7:PySem.W.nsIn K mainGlobals "beside" = some (some (.ref f7))) (l7:K.lookup f7=some ⟨o7,d7,.func (PySem.W.fnOf "beside" "beside" (defArgs cT) (defBody cT) (defScope cT) .none v7 j7 p7 e7 r7 u7),t7⟩) (c7:PySem.W.codeIn K r7 "beside" = true) (k7:PySem.W.keepIn K (.ref f7)=true)
  (a8:PySem.W.nsIn K mainGlobals "_law_cell_at" = some (some (.ref f8))) (l8:K.lookup f8=some ⟨o8,d8,.func (PySem.W.fnOf "_law_cell_at" "_law_cell_at" (defArgs bB) (defBody bB) (defScope bB) .none v8 j8 p8 e8 r8 u8),t8⟩) (c8:PySem.W.codeIn K r8 "_law_cell_at" = true) (k8:PySem.W.keepIn K (.ref f8)=true)
  (a9:PySem.W.nsIn K mainGlobals "_law_deeds" = some (some (.ref f9))) (l9:K.lookup f9=some ⟨o9,d9,.func (PySem.W.fnOf "_law_deeds" "_law_deeds" (defArgs bu) (defBody bu) (defScope bu) .none v9 j9 p9 e9 r9 u9),t9⟩) (c9:PySem.W.codeIn K r9 "_law_deeds" = true) (k9:PySem.W.keepIn K (.ref f9)=true)
  (a10:PySem.W.nsIn K mainGlobals "_law_steps" = some (some (.ref f10))) (l10:K.lookup f10=some ⟨o10,d10,.func (PySem.W.fnOf "_law_steps" "_law_steps" (defArgs cu) (defBody cu) (defScope cu) .none v10 j10 p10 e10 r10 u10),t10⟩) (c10:PySem.W.codeIn K r10 "_law_steps" = true) (k10:PySem.W.keepIn K (.ref f10)=true)
  (a11:PySem.W.nsIn K mainGlobals "_law_whole" = some (some (.ref f11))) (l11:K.lookup f11=some ⟨o11,d11,.func (PySem.W.fnOf "_law_whole" "_law_whole" (defArgs cA) (defBody cA) (defScope cA) .none v11 j11 p11 e11 r11 u11),t11⟩) (c11:PySem.W.codeIn K r11 "_law_whole" = true) (k11:PySem.W.keepIn K (.ref f11)=true)
  (a12:PySem.W.nsIn K mainGlobals "_law_is_machine" = some (some (.ref f12))) (l12:K.lookup f12=some ⟨o12,d12,.func (PySem.W.fnOf "_law_is_machine" "_law_is_machine" (defArgs aW) (defBody aW) (defScope aW) .none v12 j12 p12 e12 r12 u12),t12⟩) (c12:PySem.W.codeIn K r12 "_law_is_machine" = true) (k12:PySem.W.keepIn K (.ref f12)=true)
  (a13:PySem.W.nsIn K mainGlobals "_law_told" = some (some (.ref f13))) (l13:K.lookup f13=some ⟨o13,d13,.func (PySem.W.fnOf "_law_told" "_law_told" (defArgs cM) (defBody cM) (defScope cM) .none v13 j13 p13 e13 r13 u13),t13⟩) (c13:PySem.W.codeIn K r13 "_law_told" = true) (k13:PySem.W.keepIn K (.ref f13)=true)
  (a14:PySem.W.nsIn K mainGlobals "_law_turned" = some (some (.ref f14))) (l14:K.lookup f14=some ⟨o14,d14,.func (PySem.W.fnOf "_law_turned" "_law_turned" (defArgs bO) (defBody bO) (defScope bO) .none v14 j14 p14 e14 r14 u14),t14⟩) (c14:PySem.W.codeIn K r14 "_law_turned" = true) (k14:PySem.W.keepIn K (.ref f14)=true)
  (a15:PySem.W.nsIn K mainGlobals "_law_sizes" = some (some (.ref f15))) (l15:K.lookup f15=some ⟨o15,d15,.func (PySem.W.fnOf "_law_sizes" "_law_sizes" (defArgs cj) (defBody cj) (defScope cj) .none v15 j15 p15 e15 r15 u15),t15⟩) (c15:PySem.W.codeIn K r15 "_law_sizes" = true) (k15:PySem.W.keepIn K (.ref f15)=true)
  (a16:PySem.W.nsIn K mainGlobals "_law_three" = some (some (.ref f16))) (l16:K.lookup f16=some ⟨o16,d16,.func (PySem.W.fnOf "_law_three" "_law_three" (defArgs cB) (defBody cB) (defScope cB) .none v16 j16 p16 e16 r16 u16),t16⟩) (c16:PySem.W.codeIn K r16 "_law_three" = true) (k16:PySem.W.keepIn K (.ref f16)=true)
  (a17:PySem.W.nsIn K mainGlobals "_law_alone" = some (some (.ref f17))) (l17:K.lookup f17=some ⟨o17,d17,.func (PySem.W.fnOf "_law_alone" "_law_alone" (defArgs bH) (defBody bH) (defScope bH) .none v17 j17 p17 e17 r17 u17),t17⟩) (c17:PySem.W.codeIn K r17 "_law_alone" = true) (k17:PySem.W.keepIn K (.ref f17)=true)
  (a18:PySem.W.nsIn K mainGlobals "law" = some (some (.ref f18))) (l18:K.lookup f18=some ⟨o18,d18,.func (PySem.W.fnOf "law" "law" (defArgs pP) (defBody pP) (defScope pP) .none v18 j18 p18 e18 r18 u18),t18⟩) (c18:PySem.W.codeIn K r18 "law" = true) (k18:PySem.W.keepIn K (.ref f18)=true)
  (n_all:PySem.W.nsIn K mainGlobals "all" = some none)
  (n_bool:PySem.W.nsIn K mainGlobals "bool" = some none)
  (n_int:PySem.W.nsIn K mainGlobals "int" = some none)
  (n_isinstance:PySem.W.nsIn K mainGlobals "isinstance" = some none)
  (n_len:PySem.W.nsIn K mainGlobals "len" = some none)
  (n_list:PySem.W.nsIn K mainGlobals "list" = some none)
  (n_range:PySem.W.nsIn K mainGlobals "range" = some none)
  (n_set:PySem.W.nsIn K mainGlobals "set" = some none)
  (n_sorted:PySem.W.nsIn K mainGlobals "sorted" = some none)
  (n_str:PySem.W.nsIn K mainGlobals "str" = some none)
  (n_tuple:PySem.W.nsIn K mainGlobals "tuple" = some none)
  {t_LETTERS:Tok} (g_LETTERS:PySem.W.nsIn K mainGlobals "LETTERS" = some (some (.str "abcdefghijklmnopqrstuvwxyz" t_LETTERS)))
  {t_MOST_LETTERS:Tok} (g_MOST_LETTERS:PySem.W.nsIn K mainGlobals "MOST_LETTERS" = some (some (.int 6 t_MOST_LETTERS)))
  {t_MOST_STATES:Tok} (g_MOST_STATES:PySem.W.nsIn K mainGlobals "MOST_STATES" = some (some (.int 20 t_MOST_STATES)))
  {t_MOST_STEPS:Tok} (g_MOST_STEPS:PySem.W.nsIn K mainGlobals "MOST_STEPS" = some (some (.int 80 t_MOST_STEPS)))
  {t_MOST_OPEN_DEEDS:Tok} (g_MOST_OPEN_DEEDS:PySem.W.nsIn K mainGlobals "MOST_OPEN_DEEDS" = some (some (.int 6 t_MOST_OPEN_DEEDS)))
  {C_NoDeed:Addr} (xa_NoDeed:PySem.W.nsIn K mainGlobals "NoDeed" = some (some (.ref C_NoDeed)))
  {C_TooBig:Addr} (xa_TooBig:PySem.W.nsIn K mainGlobals "TooBig" = some (some (.ref C_TooBig)))
  (xe_NoDeed:PySem.W.excIn K C_NoDeed [.type "ValueError",.type "Exception",.type "BaseException",.type "object"] "ValueError.__new__" = true) (xg_NoDeed:PySem.W.findIn K (.ref C_NoDeed) "__getattr__" = some none) (xh_NoDeed:PySem.W.findIn K (.ref C_NoDeed) "__getattribute__" = some (some (.builtin "BaseException.__getattribute__"))) (xi_NoDeed:PySem.W.findIn K (.ref C_NoDeed) "__class__" = some (some (.builtin "object.__class__"))) (xj_NoDeed:PySem.W.mroIn K C_NoDeed (.type "object")=some true)
  (xe_TooBig:PySem.W.excIn K C_TooBig [.type "ValueError",.type "Exception",.type "BaseException",.type "object"] "ValueError.__new__" = true) (xg_TooBig:PySem.W.findIn K (.ref C_TooBig) "__getattr__" = some none) (xh_TooBig:PySem.W.findIn K (.ref C_TooBig) "__getattribute__" = some (some (.builtin "BaseException.__getattribute__"))) (xi_TooBig:PySem.W.findIn K (.ref C_TooBig) "__class__" = some (some (.builtin "object.__class__"))) (xj_TooBig:PySem.W.mroIn K C_TooBig (.type "object")=some true)
  (x1_TooBig:PySem.W.mroIn K C_TooBig (.ref C_TooBig)=some true)
  : ∃ fd:FuncData,(∀ (s:Shared) (v:Value),BindsTo s fd ⟨[v],[]⟩ [("_law_script",v)])/\∀ base:Heap,K.In base->base.Ns mainGlobals mg->FnOk l.prog w K mg base CX0 6 fa fd ["_law_script"] (az K sp_law):=by
 have e:=hfa.symm.trans (PySem.W.mg_of X G a18)
 cases e
 have ma_NoDeed:=PySem.W.mg_of X G xa_NoDeed
 have ma_TooBig:=PySem.W.mg_of X G xa_TooBig
 have mk_NoDeed:XcK K C_NoDeed:=⟨xe_NoDeed,xg_NoDeed,xh_NoDeed,xi_NoDeed,xj_NoDeed⟩
 have mk_TooBig:XcK K C_TooBig:=⟨xe_TooBig,xg_TooBig,xh_TooBig,xi_TooBig,xj_TooBig⟩
 have each:∀ {G:Str->Addr->Prop},G "NoDeed" C_NoDeed->G "TooBig" C_TooBig->∀ n C,n∈rn->mg n=some (.ref C)->G n C:=by
  intro G q_NoDeed q_TooBig n C hn hm
  simp only [rn,xaj,xby,or_false] at hn
  rcases hn with rfl | rfl
  ·rw [ma_NoDeed] at hm; cases hm; exact q_NoDeed
  ·rw [ma_TooBig] at hm; cases hm; exact q_TooBig
 have T:Txt K mg:=⟨PySem.W.mg_none_of X G n_all,PySem.W.mg_none_of X G n_bool,PySem.W.mg_none_of X G n_int,PySem.W.mg_none_of X G n_isinstance,PySem.W.mg_none_of X G n_len,PySem.W.mg_none_of X G n_list,PySem.W.mg_none_of X G n_range,PySem.W.mg_none_of X G n_set,PySem.W.mg_none_of X G n_sorted,PySem.W.mg_none_of X G n_str,PySem.W.mg_none_of X G n_tuple,⟨_,PySem.W.mg_of X G g_LETTERS⟩,⟨_,PySem.W.mg_of X G g_MOST_LETTERS⟩,⟨_,PySem.W.mg_of X G g_MOST_STATES⟩,⟨_,PySem.W.mg_of X G g_MOST_STEPS⟩,⟨_,PySem.W.mg_of X G g_MOST_OPEN_DEEDS⟩,⟨_,ma_NoDeed,mk_NoDeed⟩,⟨_,ma_TooBig,mk_TooBig⟩,⟨_,ma_TooBig,mk_TooBig,fun n C hn hm=>by obtain rfl:=xaV.mp hn; rw [ma_TooBig] at hm; cases hm; exact ⟨mk_TooBig,x1_TooBig⟩⟩⟩
 have F0:=fun_mk (st:=dw) l0 c0 k0
 have F1:=fun_mk (st:=aH) l1 c1 k1
 have F2:=fun_mk (st:=cI) l2 c2 k2
 have F3:=fun_mk (st:=aU) l3 c3 k3
 have F4:=fun_mk (st:=a_) l4 c4 k4
 have F5:=fun_mk (st:=aR) l5 c5 k5
 have F6:=fun_mk (st:=aK) l6 c6 k6
 have F7:=fun_mk (st:=cT) l7 c7 k7
 have F8:=fun_mk (st:=bB) l8 c8 k8
 have F9:=fun_mk (st:=bu) l9 c9 k9
 have F10:=fun_mk (st:=cu) l10 c10 k10
 have F11:=fun_mk (st:=cA) l11 c11 k11
 have F12:=fun_mk (st:=aW) l12 c12 k12
 have F13:=fun_mk (st:=cM) l13 c13 k13
 have F14:=fun_mk (st:=bO) l14 c14 k14
 have F15:=fun_mk (st:=cj) l15 c15 k15
 have F16:=fun_mk (st:=cB) l16 c16 k16
 have F17:=fun_mk (st:=bH) l17 c17 k17
 have F18:=fun_mk (st:=pP) l18 c18 k18
 refine ⟨PySem.W.fnOf "law" "law" (defArgs pP) (defBody pP) (defScope pP) .none v18 j18 p18 e18 r18 u18,fun s v=>.of_eq rfl,fun base _ _=>?_⟩
 have C0:Cal l.prog w K mg base 1 "is_open" ["thing"] (az K bA):=F0.cal (PySem.W.mg_of X G a0) (vd F0 T ) fun _ _ _ _ _ _ us hl=>by obtain ⟨_,rfl⟩:=us1 hl; rfl
 have C2:Cal l.prog w K mg base 1 "deeds_of" ["m"] (az K cg):=F2.cal (PySem.W.mg_of X G a2) (rK F2 T ) fun _ _ _ _ _ _ us hl=>by obtain ⟨_,rfl⟩:=us1 hl; rfl
 have C4:Cal l.prog w K mg base 1 "steps_of_one" ["one", "other", "together"] (az K aY):=F4.cal (PySem.W.mg_of X G a4) (jT F4 T ) fun _ _ _ _ _ _ us hl=>by obtain ⟨_,_,_,rfl⟩:=us3 hl; rfl
 have C5:Cal l.prog w K mg base 1 "steps_of_other" ["one", "other", "together"] (az K aM):=F5.cal (PySem.W.mg_of X G a5) (iV F5 T ) fun _ _ _ _ _ _ us hl=>by obtain ⟨_,_,_,rfl⟩:=us3 hl; rfl
 have C6:Cal l.prog w K mg base 1 "steps_together" ["one", "other", "together"] (az K aN):=F6.cal (PySem.W.mg_of X G a6) (i_ F6 T ) fun _ _ _ _ _ _ us hl=>by obtain ⟨_,_,_,rfl⟩:=us3 hl; rfl
 have C8:Cal l.prog w K mg base 1 "_law_cell_at" ["_law_script", "_law_k"] (az K aD):=F8.cal (PySem.W.mg_of X G a8) (kW F8 T ) fun _ _ _ _ _ _ us hl=>by obtain ⟨_,_,rfl⟩:=us2 hl; rfl
 have C9:Cal l.prog w K mg base 1 "_law_deeds" ["_law_cell", "_law_turn"] (az K bK):=F9.cal (PySem.W.mg_of X G a9) (nH F9 T ) fun _ _ _ _ _ _ us hl=>by obtain ⟨_,_,rfl⟩:=us2 hl; rfl
 have C10:Cal l.prog w K mg base 1 "_law_steps" ["_law_cells", "_law_many", "_law_deeds_here"] (az K bR):=F10.cal (PySem.W.mg_of X G a10) (nJ F10 T ) fun _ _ _ _ _ _ us hl=>by obtain ⟨_,_,_,rfl⟩:=us3 hl; rfl
 have C11:Cal l.prog w K mg base 1 "_law_whole" ["_law_found"] (az K aZ):=F11.cal (PySem.W.mg_of X G a11) (o_ F11 T ) fun _ _ _ _ _ _ us hl=>by obtain ⟨_,rfl⟩:=us1 hl; rfl
 have C14:Cal l.prog w K mg base 1 "_law_turned" ["_law_m", "_law_n", "_law_many"] (az K bC):=F14.cal (PySem.W.mg_of X G a14) (lX F14 T ) fun _ _ _ _ _ _ us hl=>by obtain ⟨_,_,_,rfl⟩:=us3 hl; rfl
 have C15:Cal l.prog w K mg base 1 "_law_sizes" ["_law_cell"] (az K bV):=F15.cal (PySem.W.mg_of X G a15) (oM F15 T ) fun _ _ _ _ _ _ us hl=>by obtain ⟨_,rfl⟩:=us1 hl; rfl
 have C1:CalX l.prog w K mg base rn 2 "check_bounds" ["m"] aO:=Fun.calX F1 (PySem.W.mg_of X G a1) (lz F1 T C2 C0) fun _ _ _ _ _ _ us hl=>by obtain ⟨_,rfl⟩:=us1 hl; rfl
 have C3:CalX l.prog w K mg base rn 2 "check_open" ["deeds"] bw:=Fun.calX F3 (PySem.W.mg_of X G a3) (nT F3 T C0) fun _ _ _ _ _ _ us hl=>by obtain ⟨_,rfl⟩:=us1 hl; rfl
 have C12:Cal l.prog w K mg base 2 "_law_is_machine" ["_law_found"] (az K aQ):=F12.cal (PySem.W.mg_of X G a12) (iG F12 T C11) fun _ _ _ _ _ _ us hl=>by obtain ⟨_,rfl⟩:=us1 hl; rfl
 have C16:Cal l.prog w K mg base 2 "_law_three" ["_law_script", "_law_names"] (az K bM):=F16.cal (PySem.W.mg_of X G a16) (nY F16 T C8 C15 C10) fun _ _ _ _ _ _ us hl=>by obtain ⟨_,_,rfl⟩:=us2 hl; rfl
 have C7:CalX l.prog w K mg base rn 3 "beside" ["one", "other", "together"] dY:=Fun.calX F7 (PySem.W.mg_of X G a7) (yh F7 T C3 C1 C4 C5 C6) fun _ _ _ _ _ _ us hl=>by obtain ⟨_,_,_,rfl⟩:=us3 hl; rfl
 have C13:Cal l.prog w K mg base 4 "_law_told" ["_law_one", "_law_other", "_law_together"] (az K aB):=F13.cal (PySem.W.mg_of X G a13) (qp F13 T C12 C7) fun _ _ _ _ _ _ us hl=>by obtain ⟨_,_,_,rfl⟩:=us3 hl; rfl
 have C17:Cal l.prog w K mg base 5 "_law_alone" ["_law_m", "_law_together"] (az K bN):=F17.cal (PySem.W.mg_of X G a17) (pO F17 T C13) fun _ _ _ _ _ _ us hl=>by obtain ⟨_,_,rfl⟩:=us2 hl; rfl
 exact ok_law F18 T C9 C8 C16 C13 C17 C14
theorem walk {l:PySem.W.OpenLaw} {q:Program} {loose:List Str} {XP:(Str->Option Value)->Heap->Prop} {YP:World->Heap->Prop} {d:DefRec} {K:Params->PySem.W.Frag} (hn:l.most=some 63) (hdf:d.params.defaults=[])
  (hY:∀ (w:World) (h:Heap),YP w h->(K w.params).In h)
  (F:∀ (w:World) (mg:Str->Option Value) (fa:Addr) (h:Heap),(K w.params).In h->h.Ns mainGlobals mg->mg d.name=some (.ref fa) ->
   ∃ fd:FuncData,(∀ (s:Shared) (u:Value),BindsTo s fd ⟨[u],[]⟩ [("_law_script",u)])/\∀ base:Heap,(K w.params).In base->base.Ns mainGlobals mg->FnOk l.prog w (K w.params) mg base CX0 6 fa fd ["_law_script"] (az (K w.params) sp_law)) :
  PySem.W.WalkO q loose XP YP l.row.toRowW d [] (fun f vs=>PySem.call f vs) :=
 L2.walk_of (n:=63) (k:=6) (x := "_law_script") (CX:=fun _=>CX0) (sp:=fun w=>az (K w.params) sp_law) hn (by decide) hdf ⟨rfl,by decide,by decide⟩ hY F (fun w H a ns hl hO hS=>y_ hl hS) fun _ _ _ _ _ z=>z
end L2.Q.Law
open PySem PySem.W PyProof.Rows
namespace PySem.W.Fast
def tw14770348295904928305:=0
def tw575399690488213443:=0
def tw1122040487629040716:=0
def tw17182532534636137147:=0
def tw3321772898178545724:=0
def tw11634850243532475074:=0
def tw7393988099122032749:=0
def tw14650347406010283026:=0
def tw9155525504253192722:=0
def tw2877401792794131824:=0
def tw12077019606892138434:=0
def tw13903671669167968399:=0
def tw3133627095044603679:=0
def tw13448502700490049538:=0
def tw2601106773401391180:=0
def tw351278687415212441:=0
def tw7436716815405403816:=0
def tw4907228946985046369:=0
def tw8877071803428311656:=0
def tw17658749259756958849:=0
end PySem.W.Fast
set_option maxRecDepth 100000 in
set_option maxHeartbeats 0 in
theorem PySem.Challenge.cw_kinlook_k15_three_side_by_side_holds : PySem.Challenge.rw_kinlook_k15_three_side_by_side.Holds := by
 w_on; o_law; k_head; (case hw=>w_witness2)
 k_fill
 refine L2.Q.Law.walk (l:=PySem.Challenge.rw_kinlook_k15_three_side_by_side) rfl rfl (fun w h Y=>PySem.W.kIn_of Y) ?F
 case F =>
  intro w mg fa h KX G hmg
  refine' L2.Q.Law.all_mk KX G hmg ?a0 ?l0 ?c0 ?k0 ?a1 ?l1 ?c1 ?k1 ?a2 ?l2 ?c2 ?k2 ?a3 ?l3 ?c3 ?k3 ?a4 ?l4 ?c4 ?k4 ?a5 ?l5 ?c5 ?k5 ?a6 ?l6 ?c6 ?k6 ?a7 ?l7 ?c7 ?k7 ?a8 ?l8 ?c8 ?k8 ?a9 ?l9 ?c9 ?k9 ?a10 ?l10 ?c10 ?k10 ?a11 ?l11 ?c11 ?k11 ?a12 ?l12 ?c12 ?k12 ?a13 ?l13 ?c13 ?k13 ?a14 ?l14 ?c14 ?k14 ?a15 ?l15 ?c15 ?k15 ?a16 ?l16 ?c16 ?k16 ?a17 ?l17 ?c17 ?k17 ?a18 ?l18 ?c18 ?k18 ?n_all ?n_bool ?n_int ?n_isinstance ?n_len ?n_list ?n_range ?n_set ?n_sorted ?n_str ?n_tuple ?g_LETTERS ?g_MOST_LETTERS ?g_MOST_STATES ?g_MOST_STEPS ?g_MOST_OPEN_DEEDS ?xa_NoDeed ?xa_TooBig ?xe_NoDeed ?xg_NoDeed ?xh_NoDeed ?xi_NoDeed ?xj_NoDeed ?xe_TooBig ?xg_TooBig ?xh_TooBig ?xi_TooBig ?xj_TooBig ?x1_TooBig
  (case a0=>k_is)
  (case l0=>k_is)
  (case c0=>k_is)
  (case k0=>k_is)
  (case a1=>k_is)
  (case l1=>k_is)
  (case c1=>k_is)
  (case k1=>k_is)
  (case a2=>k_is)
  (case l2=>k_is)
  (case c2=>k_is)
  (case k2=>k_is)
  (case a3=>k_is)
  (case l3=>k_is)
  (case c3=>k_is)
  (case k3=>k_is)
  (case a4=>k_is)
  (case l4=>k_is)
  (case c4=>k_is)
  (case k4=>k_is)
  (case a5=>k_is)
  (case l5=>k_is)
  (case c5=>k_is)
  (case k5=>k_is)
  (case a6=>k_is)
  (case l6=>k_is)
  (case c6=>k_is)
  (case k6=>k_is)
  (case a7=>k_is)
  (case l7=>k_is)
  (case c7=>k_is)
  (case k7=>k_is)
  (case a8=>k_is)
  (case l8=>k_is)
  (case c8=>k_is)
  (case k8=>k_is)
  (case a9=>k_is)
  (case l9=>k_is)
  (case c9=>k_is)
  (case k9=>k_is)
  (case a10=>k_is)
  (case l10=>k_is)
  (case c10=>k_is)
  (case k10=>k_is)
  (case a11=>k_is)
  (case l11=>k_is)
  (case c11=>k_is)
  (case k11=>k_is)
  (case a12=>k_is)
  (case l12=>k_is)
  (case c12=>k_is)
  (case k12=>k_is)
  (case a13=>k_is)
  (case l13=>k_is)
  (case c13=>k_is)
  (case k13=>k_is)
  (case a14=>k_is)
  (case l14=>k_is)
  (case c14=>k_is)
  (case k14=>k_is)
  (case a15=>k_is)
  (case l15=>k_is)
  (case c15=>k_is)
  (case k15=>k_is)
  (case a16=>k_is)
  (case l16=>k_is)
  (case c16=>k_is)
  (case k16=>k_is)
  (case a17=>k_is)
  (case l17=>k_is)
  (case c17=>k_is)
  (case k17=>k_is)
  (case a18=>k_is)
  (case l18=>k_is)
  (case c18=>k_is)
  (case k18=>k_is)
  (case n_all=>k_is)
  (case n_bool=>k_is)
  (case n_int=>k_is)
  (case n_isinstance=>k_is)
  (case n_len=>k_is)
  (case n_list=>k_is)
  (case n_range=>k_is)
  (case n_set=>k_is)
  (case n_sorted=>k_is)
  (case n_str=>k_is)
  (case n_tuple=>k_is)
  (case g_LETTERS=>k_is)
  (case g_MOST_LETTERS=>k_is)
  (case g_MOST_STATES=>k_is)
  (case g_MOST_STEPS=>k_is)
  (case g_MOST_OPEN_DEEDS=>k_is)
  (case xa_NoDeed=>k_is)
  (case xa_TooBig=>k_is)
  (case xe_NoDeed=>k_exc)
  (case xg_NoDeed=>k_is)
  (case xh_NoDeed=>k_is)
  (case xi_NoDeed=>k_is)
  (case xj_NoDeed=>k_is)
  (case xe_TooBig=>k_exc)
  (case xg_TooBig=>k_is)
  (case xh_TooBig=>k_is)
  (case xi_TooBig=>k_is)
  (case xj_TooBig=>k_is)
  (case x1_TooBig=>k_is)
