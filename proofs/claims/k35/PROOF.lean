import PyProof.Rows.All
import Wide.All
import OpenK.AllK
import Wide.FinOn
import Lean
import PyProof.EqAt
import PyProof.EqKinds
import PyProof.TupleCall
import PyProof.CompUse
import PyProof.NeData
import PyProof.WalksEnum
import PyProof.EnumMake
import PyProof.ZipIter
import PyProof.Rows.EnumRows
import PyProof.Rows.FactsT2
import KE.KDictList
import PyProof.Rows.SortRuns
import PyProof.Rows.SortWalk
import KE.KSortTup
import PyProof.Rows.SortStr
import PyProof.ListRange
import PyProof.StrOps2
import PyProof.StrBlock2
import PyProof.AutoIntG3
import PyProof.ListMulRight
import PyProof.Rows.ListMulArg
import PyProof.Rows.CallKwBuiltin
import PyProof.Rows.StrMul
import KE.KMinBuiltin
import PyProof.TupleKey
import PyProof.SetKind
import PyProof.Rows.SetFrom
import PyProof.DictWalks
import KE.KRevIter
import PyProof.AutoSeq1
import PyProof.P3Eq
import PyProof.MeetsSeq3
import PyProof.FactsAll.list_2
import PyProof.FactsAll.tuple_2
import PyProof.Rows.RowHeap
import PyProof.FactsAll.list_3
import KE.KItem
import PyProof.MeetsSeq
import PyProof.FactsAll.list_4
import PyProof.MaxThree
import PySem.Challenge.RW_kinlook_k35_whole_order_stays
open PySem renaming wpAny_bind->xaa,wpAny_pure->xac,wpAny_mono->xba
open List renaming mem_cons_of_mem->xab,mem_cons_self->xad,length_map->xag,mem_append_right->xah,mem_append->xai,mem_map->xaj,mem_cons->xak,getElem?_eq_some_iff->xal,getElem?_eq_getElem->xam,nodup_append->xar,map_cons->xat,sublist_append_right->xav,mem_append_left->xay,size_toArray->xaz,mem_of_getElem?->xaC,length_take->xaE,getElem?_map->xaG,nodup_cons->xaH,drop_eq_getElem_cons->xaI,map_map->xaJ,getElem?_eq_none->xaK,pairwise_map->xaL,getElem?_append_right->xaM,length_cons->xaN,pairwise_iff_getElem->xaQ,nodup_nil->xaR,mem_singleton->xaS,length_append->xaU,mem_range->xaV,append_nil->xaX,replicate_succ->xaY,append_assoc->xaZ,getElem?_append_left->xa0,zip_cons_cons->xa4,length_drop->xa5,lookup_cons->xa6,flatten_cons->xa8,sublist_append_left->xbb,ext_getElem?->xbe,getD_eq_getElem?_getD->xbh,nil_sublist->xbi,getElem_mem->xbj,take_of_length_le->xbp,all_eq_true->xbq,append_eq_nil_iff->xbr,nodup_iff_pairwise_ne->xbt,mem_iff_getElem?->xbu,nil_append->xbw,getElem?_set_ne->xbA,pairwise_append->xbB,filterMap_cons->xbC,filter_eq_self->xbE,length_eq_zero_iff->xbF,all_cons->xbH,any_cons->xbI,find?_cons->xbJ,map_append->xbL,take_add_one->xbM,take_append_drop->xbO,mem_of_mem_take->xbR,extract_eq_drop_take->xbT,mem_filter->xbV,getElem?_set_self->xb3,drop_of_length_le->xb5,perm_append_comm->xb7,map_fst_zip->xb9,countP_cons->xca,not_mem_nil->xcb,cons_ne_nil->xcc,mem_of_mem_drop->xce,length_zip->xcf,map_congr_left->xch,mem_filterMap->xcj,filterMap_map->xck,length_range->xcn,getElem_take->xcq,drop_length->xcr,take_length->xcs,any_eq_true->xct,ext_getElem->xcu,all_map->xcA
open PySem.Heap renaming get?_push_of_some->xae,lt_size->xan,get?_push_size->xaq,get?_update_other->xbo,get?_update_self->xbs,get?_push_ne->xby,size_update->xbD,size_push->xbP
open Nat renaming le_refl->xaf,zero_le->xas,lt_of_lt_of_le->xau,ne_of_lt->xaw,le_trans->xaA,le_of_lt->xaF,lt_succ_of_lt->xaO,lt_irrefl->xaW,zero_add->xa3,le_of_not_lt->xbc,pow_succ->xbn,not_lt_zero->xbv,lt_succ_of_le->xbz,add_sub_of_le->xbN,mul_assoc->xbU,one_pos->xbW,ne_of_gt->xbX,add_zero->xbY,lt_or_ge->xbZ,lt_of_succ_lt->xb0,le_of_succ_le->xb1,le_of_lt_succ->xb2,sub_lt->xb4,le_add_right->xb6,le_of_eq->xcg,mod_lt->xci,lt_trans->xcv,add_comm->xcw,min_self->xcx,mul_comm->xcy,succ_pos->xcz
open Bool renaming false_eq_true->xao,false_ne_true->xap,and_eq_true->xaB,eq_iff_iff->xbf,not_true->xco,and_true->xcp
open Array renaming getElem?_toList->xax,toList_push->xaD,getElem?_eq_getElem->xaP,getD_eq_getD_getElem?->xaT,getElem?_eq_none->xa1,length_toList->xa2,getElem?_eq_some_iff->xa7,size_extract->xbk,eq_empty_of_size_eq_zero->xbl,append_assoc->xbG,getElem?_extract->xbK,toArray_toList->xbQ,perm_iff_toList_perm->xbS,toList_inj->xb8,toList_extract->xcd,append_empty->xcl
open Int renaming le_trans->xa9,le_refl->xbd,toNat_of_nonneg->xbg,le_of_lt->xbm,toNat_natCast->xbx,emod_lt_of_pos->xcm
local macro_rules | `(command| def $i:declId $s:optDeclSig $v:declVal)=>`(command| noncomputable def $i:declId $s:optDeclSig $v:declVal)
local macro_rules | `(command| abbrev $i:declId $s:optDeclSig $v:declVal)=>`(command| noncomputable abbrev $i:declId $s:optDeclSig $v:declVal)
set_option compiler.extract_closed false
local macro_rules | `(tactic| walk_at "l") => `(tactic| first | lia | omega)
local macro_rules | `(tactic| walk_at "s1") => `(tactic| solve_by_elim (maxDepth := 4) [Nat.lt_of_lt_of_le, Nat.lt_of_le_of_lt, Nat.le_trans, Nat.lt_trans, Nat.le_of_lt, Nat.le_of_not_lt])
local macro_rules | `(tactic| walk_at "s2") => `(tactic| solve_by_elim (maxDepth := 5) [Nat.lt_of_lt_of_le, Nat.lt_of_le_of_lt, Nat.le_trans, Nat.le_of_lt, Nat.le_of_not_lt, Nat.lt_of_not_le, Nat.lt_of_succ_lt, Nat.le_of_succ_le])
local macro_rules | `(tactic| walk_at "s3") => `(tactic| solve_by_elim (maxDepth := 5) [Int.lt_of_lt_of_le, Int.lt_of_le_of_lt, Int.le_trans, Int.le_of_lt, Int.not_lt.mp, Int.not_le.mp])
local macro_rules | `(tactic| walk_at "s4") => `(tactic| solve_by_elim (maxDepth := 5) [Nat.le_trans, Nat.lt_of_lt_of_le, Nat.le_of_lt, Nat.le_add_right, Nat.le_add_left, Nat.add_le_add_left, Nat.add_lt_add_left, Nat.succ_le_succ, Nat.sub_le])
theorem L2.ex2 {α β:Type _} {A B C:α->β->Prop} {G:Prop} (x:∃ a b,A a b/\B a b/\C a b) (k:∀ a b,A a b->B a b->C a b->G):G :=
 let ⟨a,b,p,q,r⟩:=x
 k a b p q r
set_option Elab.async false
set_option linter.all false
set_option maxRecDepth 100000
namespace L2
open PySem PySem.Spec PyProof.Rows
abbrev Key:=Sum Int Str
def keyIs:Key->Value->Bool
 | .inl k,v=>Value.isInt k v
 | .inr x,v=>Value.isStrOf x v
def keyH (w:World):Key->Int
 | .inl k=>hashInt k
 | .inr x=>hashStr w x
theorem keyIs_shape:∀ {k:Key} {v:Value},keyIs k v=true->(∃ i t,k=Sum.inl i/\v=Value.int i t)\/(∃ x t,k=Sum.inr x/\v=Value.str x t)
 | .inl i,v,h=>by
  obtain ⟨t,e⟩:=Value.isInt_shape (k:=i) (v:=v) h
  exact .inl ⟨i,t,rfl,e⟩
 | .inr x,v,h=>by
  obtain ⟨t,e⟩:=Value.isStrOf_shape (x:=x) (v:=v) h
  exact .inr ⟨x,t,rfl,e⟩
theorem keyIs_int (i:Int) (t:Tok):keyIs (.inl i) (.int i t)=true:=by simp [keyIs,Value.isInt]
theorem keyIs_str (x:Str) (t:Tok):keyIs (.inr x) (.str x t)=true:=by simp [keyIs,Value.isStrOf]
theorem key_ll (a b:Int):decide ((Sum.inl a:Key)=Sum.inl b)=(a == b):=by
 by_cases e:a=b
 ·subst e; simp
 ·have h:¬ (Sum.inl a:Key)=Sum.inl b:=fun q=>e (Sum.inl.inj q)
  rw [decide_eq_false h]
  exact (beq_eq_false_iff_ne.mpr e).symm
theorem key_rr (a b:Str):decide ((Sum.inr a:Key)=Sum.inr b)=decide (a=b):=by
 by_cases e:a=b
 ·subst e; simp
 ·have h:¬ (Sum.inr a:Key)=Sum.inr b:=fun q=>e (Sum.inr.inj q)
  rw [decide_eq_false h,decide_eq_false e]
theorem key_lr (a:Int) (b:Str):decide ((Sum.inl a:Key)=Sum.inr b)=false:=decide_eq_false (fun q=>nomatch q)
theorem key_rl (a:Str) (b:Int):decide ((Sum.inr a:Key)=Sum.inl b)=false:=decide_eq_false (fun q=>nomatch q)
def mixKind (prog:Program) (w:World):PySem.KeyKind prog w Key where
 is:=keyIs
 hash:=keyH w
 inj:=fun v a b ha hb=>by
  rcases keyIs_shape ha with ⟨i,t,rfl,rfl⟩ | ⟨x,t,rfl,rfl⟩
  ·rcases keyIs_shape hb with ⟨j,u,rfl,e⟩ | ⟨y,u,rfl,e⟩
   ·injection e with e1 _; rw [e1]
   ·exact nomatch e
  ·rcases keyIs_shape hb with ⟨j,u,rfl,e⟩ | ⟨y,u,rfl,e⟩
   ·exact nomatch e
   ·injection e with e1 _; rw [e1]
 byValue:=fun k v h=>by
  rcases keyIs_shape h with ⟨i,t,rfl,rfl⟩ | ⟨x,t,rfl,rfl⟩ <;> rfl
 pyHash:=fun hv h=>by
  rcases keyIs_shape hv with ⟨i,t,rfl,rfl⟩ | ⟨x,t,rfl,rfl⟩
  ·exact wpAny_pyHash_int h
  ·exact wpAny_pyHash_str h
 eqBool:=fun hu hv h=>by
  rcases keyIs_shape hu with ⟨i,t,rfl,rfl⟩ | ⟨x,t,rfl,rfl⟩
  ·rcases keyIs_shape hv with ⟨j,u,rfl,rfl⟩ | ⟨y,u,rfl,rfl⟩
   ·rw [key_ll] at h; exact wpAny_eqBool_int h
   ·rw [key_lr] at h; exact SeqAt.EqAt.int_str i t y u _ _ _ _ h
  ·rcases keyIs_shape hv with ⟨j,u,rfl,rfl⟩ | ⟨y,u,rfl,rfl⟩
   ·rw [key_rl] at h; exact SeqAt.EqAt.str_int x t j u _ _ _ _ h
   ·rw [key_rr] at h; exact wpAny_eqBool_str h
 «strs» := fun k x t v h=>by
  rcases keyIs_shape h with ⟨i,u,rfl,e⟩ | ⟨y,u,rfl,e⟩
  ·exact nomatch e
  ·injection e with e1 _
   subst e1
   cases v <;> rfl
theorem mixKind_int (prog:Program) (w:World) (i:Int) (t:Tok):(mixKind prog w).is (.inl i) (.int i t)=true:=keyIs_int i t
theorem mixKind_str (prog:Program) (w:World) (x:Str) (t:Tok):(mixKind prog w).is (.inr x) (.str x t)=true:=keyIs_str x t
inductive V where
 | non | bl (b:Bool) | int (i:Int) | str (x:Str) | byt (b:Array UInt8) | flt (b:UInt64) | ref (a:Addr) | ty (n:String)
 deriving DecidableEq
def RelV:V->Value->Prop
 | .non,u=>u=Value.none
 | .bl b,u=>u=Value.bool b
 | .int i,u=>∃ t,u=Value.int i t
 | .str x,u=>∃ t,u=Value.str x t
 | .byt b,u=>∃ t,u=Value.bytes b t
 | .flt b,u=>∃ t,u=Value.float b t
 | .ref a,u=>u=Value.ref a
 | .ty n,u=>u=Value.type n
abbrev Vals:List V->List Value->Prop:=Paired RelV
theorem Vals.length {xs:List V} {us:List Value} (r:Vals xs us):xs.length=us.length:=Paired.length r
theorem Vals.get:∀ {xs:List V} {us:List Value} {i:Nat} {x:V},Vals xs us->xs[i]? = some x->∃ u,us[i]? = some u/\RelV x u
 | _,_,_,_,.nil,e=>by simp at e
 | _,_,0,_,.cons r _,e=>by simp at e; subst e; exact ⟨_,rfl,r⟩
 | _,_,i+1,x,.cons _ t,e=>by
  obtain ⟨u,h1,h2⟩:=Vals.get (i:=i) (x:=x) t (by simpa using e)
  exact ⟨u,by simpa using h1,h2⟩
theorem Vals.set {x:V} {u:Value} (r:RelV x u):∀ {xs:List V} {us:List Value} (i:Nat),Vals xs us->Vals (xs.set i x) (us.set i u)
 | _,_,_,.nil=>.nil
 | _,_,0,.cons _ t=>.cons r t
 | _,_,i+1,.cons q t=>.cons q (Vals.set r i t)
theorem Vals.append:∀ {xs ys:List V} {us ws:List Value},Vals xs us->Vals ys ws->Vals (xs++ys) (us++ws)
 | _,_,_,_,.nil,s=>s
 | _,_,_,_,.cons r t,s=>.cons r (Vals.append t s)
theorem Vals.take:∀ {xs:List V} {us:List Value} (n:Nat),Vals xs us->Vals (xs.take n) (us.take n)
 | _,_,0,_=>.nil
 | _,_,_+1,.nil=>.nil
 | _,_,n+1,.cons r t=>.cons r (Vals.take n t)
theorem Vals.drop:∀ {xs:List V} {us:List Value} (n:Nat),Vals xs us->Vals (xs.drop n) (us.drop n)
 | _,_,0,r=>r
 | _,_,_+1,.nil=>.nil
 | _,_,n+1,.cons _ t=>Vals.drop n t
def RelO:Option V->Option Value->Prop
 | some v,some u=>RelV v u
 | none,none=>True
 | _,_=>False
def KV {κ:Type}:List (κ × V)->List (κ × Value)->Prop:=Paired fun (p:κ × V) (q:κ × Value)=>p.1=q.1/\RelV p.2 q.2
def kV:Key->V
 | .inl i=>.int i
 | .inr x=>.str x
inductive HO where
 /-- a list -/
 | lst (xs:List V)
 /-- a tuple (never changes) -/
 | tup (xs:List V)
 /-- a dict whose keys are ints and texts; one whose keys are tuples of ints and texts (the empty one is both) -/
 | dK (kvs:List (Key × V)) | dT (kvs:List (List Key × V))
 /-- a set of ints: its members,its size -/
 | set (S:Int->Bool) (n:Nat)
 /-- an instance of the class at C,its dict at dx,its attributes -/
 | ins (C dx:Addr) (fs:List (Str × V))
 /-- the dict of the instance at x -/
 | own (x:Addr)
 /-- the dict of an exception -/
 | xd (fs:List (Str × V))
 /-- a bound method,f of x -/
 | met (f x:Addr)
 /-- a range object lo,lo+1,.. below hi -/
 | rng (lo hi:Int)
 /-- a thing that is known to the object (the script; a dict while a loop walks it): read,never written while it is so -/
 | frz (o:Obj) (u:HO)
 /-- a code object's table -/
 | tbl (ps:Array Value)
 /-- any other thing,by what is true of its one object (a def of one's own: SetO a S n:=HO.ext fun h=>..) -/
 | ext (φ:Heap->Prop)
abbrev Hp:=Addr->Option HO
def upd (H:Hp) (a:Addr) (o:HO):Hp:=fun b=>if b=a then some o else H b
theorem upd_same {H:Hp} {a:Addr} {o:HO}:upd H a o a=some o:=by unfold upd; rw [if_pos rfl]
theorem upd_ne {H:Hp} {a b:Addr} {o:HO} (h:b≠a):upd H a o b=H b:=by unfold upd; rw [if_neg h]
theorem ne_of {H:Hp} {a b:Addr} {o u:HO} (h:H a=some o) (h':H b=some u) (d:o≠u):a≠b:=by
 intro e; subst e; rw [h] at h'; exact d (Option.some.inj h')
theorem ne_of_none {H:Hp} {a b:Addr} {o:HO} (h:H a=some o) (h':H b=none):a≠b:=by
 intro e; subst e; rw [h] at h'; cases h'
section
variable (P:Program) (w:World)
def ObjOk (H:Hp) (h:Heap) (a:Addr):HO->Prop
 | .lst xs=>xs.length<=sizeLine/\∃ (its:List Value) (n:Nat),Vals xs its/\h.get? a=some { cls:=.type "list",data:=.seq its.toArray n }
 | .tup xs=>xs.length<=sizeLine/\∃ its:List Value,Vals xs its/\IsTup h a its.toArray
 | .dK kvs=>kvs.length<=sizeLine/\(a == sysModules)=false/\∃ vs,KV kvs vs/\h.DictOf (mixKind P w) a vs
 | .dT kvs=>kvs.length<=sizeLine/\(a == sysModules)=false/\∃ xs:List (List Key × Addr × Value),
   Paired (fun (p:List Key × V) (q:List Key × Addr × Value)=>p.1=q.1/\H q.2.1=some (.tup (p.1.map kV))/\RelV p.2 q.2.2) kvs xs /\
   ∃ o es ep,h.get? a=some o/\o.ExactDict/\o.data=.dict es ep/\es.toList=xs.map (entryOfKey (tupleKind (mixKind P w)))/\(xs.map (·.1)).Nodup
 | .set S n=>h.SetOf (intKind P w) a S n
 | .ins C dx fs=>H dx=some (.own a)/\fs.length<=1000/\dx≠a/\h.get? a=some (PySem.W.instObj C dx) /\
   ∃ mA,h.Ns1 dx mA/\(∀ f,RelO (fs.lookup f) (mA f))/\PySem.Within mA (fs.map (·.1))
 | .own _=>∃ o,h.get? a=some o
 | .xd fs=>∃ mA,h.Ns1 a mA/\∀ f,RelO (fs.lookup f) (mA f)
 | .rng lo hi=>∃ t u v,h.get? a=some { cls:=.type "range",data:=.fields #[.int lo t,.int hi u,.int 1 v] }
 | .frz o u=>h.get? a=some o/\ObjOk H h a u
 | .tbl ps=>h.get? a=some { cls:=.none,data:=.fields ps }
 | .met f x=>h.get? a=some (PySem.W.methodObj (.ref f) (.ref x))
 | .ext φ=>φ h/\(∃ o,h.get? a=some o)/\∀ h1 h2:Heap,φ h1->(∀ o,h1.get? a=some o->h2.get? a=some o)->φ h2
def HOk (H:Hp) (h:Heap):Prop:=∀ a o,H a=some o->ObjOk P w H h a o
end
section
variable {P:Program} {w:World} {H H':Hp} {h h':Heap} {a:Addr} {o:HO}
theorem ObjOk.lt (x:ObjOk P w H h a o):a<h.objs.size:=by
 cases o with
 | lst xs=>obtain ⟨_,_,_,_,e⟩:=x; exact xan e
 | tup xs=>obtain ⟨_,_,_,p⟩:=x; exact p.lt
 | dK kvs=>obtain ⟨_,_,_,_,o,_,_,e,_⟩:=x; exact xan e
 | dT kvs=>obtain ⟨_,_,_,_,o,_,_,e,_⟩:=x; exact xan e
 | set S n=>obtain ⟨o,_,_,_,e,_⟩:=x; exact xan e
 | ins C dx fs=>obtain ⟨_,_,_,e,_⟩:=x; exact xan e
 | own y=>obtain ⟨_,e⟩:=x; exact xan e
 | xd fs=>obtain ⟨_,⟨_,_,_,e,_⟩,_⟩:=x; exact xan e
 | rng lo hi=>obtain ⟨_,_,_,e⟩:=x; exact xan e
 | frz ob u=>obtain ⟨e,_⟩:=x; exact xan e
 | tbl ps=>exact xan (show h.get? a=some _ from x)
 | met f y=>exact xan (show h.get? a=some _ from x)
 | ext φ=>obtain ⟨_,⟨_,e⟩,_⟩:=x; exact xan e
theorem Paired.mapP {α β:Type} {F G:α->β->Prop}:∀ {l₁:List α} {l₂:List β},Paired F l₁ l₂->(∀ a b,F a b->G a b)->Paired G l₁ l₂
 | _,_,.nil,_=>.nil
 | _,_,.cons r t,f=>.cons (f _ _ r) (Paired.mapP t f)
theorem ObjOk.stay (x:ObjOk P w H h a o) (k:∀ b u,(b=a\/H b=some (.own a))->h.get? b=some u->h'.get? b=some u)
  (ho:∀ b,H b=some (.own a)->H' b=some (.own a)) (ht:∀ b xs,H b=some (.tup xs)->H' b=some (.tup xs)):ObjOk P w H' h' a o:=by
 induction o with
 | lst xs=>obtain ⟨z,its,n,r,e⟩:=x; exact ⟨z,its,n,r,k _ _ (.inl rfl) e⟩
 | tup xs=>obtain ⟨z,its,r,ob,e,c⟩:=x; exact ⟨z,its,r,ob,k _ _ (.inl rfl) e,c⟩
 | dK kvs=>obtain ⟨z,y,vs,r,ob,es,ep,e,c⟩:=x; exact ⟨z,y,vs,r,ob,es,ep,k _ _ (.inl rfl) e,c⟩
 | dT kvs =>
  obtain ⟨z,y,xs,r,ob,es,ep,e,c⟩:=x
  exact ⟨z,y,xs,Paired.mapP r fun p q z=>⟨z.1,ht _ _ z.2.1,z.2.2⟩,ob,es,ep,k _ _ (.inl rfl) e,c⟩
 | set S n=>obtain ⟨ob,es,ep,t,e,c⟩:=x; exact ⟨ob,es,ep,t,k _ _ (.inl rfl) e,c⟩
 | ins C dx fs =>
  obtain ⟨d,z,ne,e,mA,⟨od,es,ep,e2,c⟩,r⟩:=x
  exact ⟨ho _ d,z,ne,k _ _ (.inl rfl) e,mA,⟨od,es,ep,k _ _ (.inr d) e2,c⟩,r⟩
 | own y=>obtain ⟨ob,e⟩:=x; exact ⟨ob,k _ _ (.inl rfl) e⟩
 | xd fs=>obtain ⟨mA,⟨od,es,ep,e,c⟩,r⟩:=x; exact ⟨mA,⟨od,es,ep,k _ _ (.inl rfl) e,c⟩,r⟩
 | rng lo hi=>obtain ⟨t,u,v,e⟩:=x; exact ⟨t,u,v,k _ _ (.inl rfl) e⟩
 | frz ob u ih=>obtain ⟨e,q⟩:=x; exact ⟨k _ _ (.inl rfl) e,ih q⟩
 | tbl ps =>
  have e:h.get? a=some { cls:=.none,data:=.fields ps }:=x
  show h'.get? a=some { cls:=.none,data:=.fields ps }
  exact k a _ (.inl rfl) e
 | met f y =>
  have e:h.get? a=some (PySem.W.methodObj (.ref f) (.ref y)):=x
  show h'.get? a=some (PySem.W.methodObj (.ref f) (.ref y))
  exact k a _ (.inl rfl) e
 | ext φ=>obtain ⟨p,⟨o,e⟩,st⟩:=x; exact ⟨st _ _ p fun o q=>k _ _ (.inl rfl) q,⟨o,k _ _ (.inl rfl) e⟩,st⟩
theorem HOk.lt (x:HOk P w H h) (e:H a=some o):a<h.objs.size:=(x a o e).lt
theorem HOk.fresh (x:HOk P w H h) (e:h.objs.size<=a):H a=none:=by
 cases q:H a with
 | none=>rfl
 | some u=>exact absurd (xau (x.lt q) e) (xaW _)
theorem HOk.kept (x:HOk P w H h) (k:∀ b u,h.get? b=some u->h'.get? b=some u):HOk P w H h':=fun a o e =>
 (x a o e).stay (fun b u _ q=>k b u q) (fun _ q=>q) fun _ _ q=>q
theorem HOk.laid (x:HOk P w H h) (k:∀ b u,h.get? b=some u->h'.get? b=some u) (hp:h.objs.size<=a) (new:ObjOk P w (upd H a o) h' a o):HOk P w (upd H a o) h':=fun b u e=>by
 have hn:=x.fresh hp
 by_cases hb:b=a
 ·subst hb; rw [upd_same] at e; cases e; exact new
 ·rw [upd_ne hb] at e
  exact (x b u e).stay (fun c v _ q=>k c v q) (fun c q=>by rw [upd_ne (ne_of_none q hn)]; exact q) fun c xs q=>by rw [upd_ne (ne_of_none q hn)]; exact q
end
def Rd (H:Hp) (a:Addr) (u:HO):Prop:=H a=some u\/∃ o,H a=some (.frz o u)
theorem Rd.ok {P:Program} {w:World} {H:Hp} {h:Heap} {a:Addr} {u:HO} (r:Rd H a u) (x:HOk P w H h):ObjOk P w H h a u:=by
 rcases r with r | ⟨o,r⟩
 ·exact x a u r
 ·obtain ⟨_,q⟩:=x a _ r
  exact q
def Mut:Option HO->Prop
 | some (.lst _)=>True
 | some (.dK _)=>True
 | some (.dT _)=>True
 | some (.set _ _)=>True
 | some (.ins _ _ _)=>True
 | some (.ext _)=>True
 | _=>False
section
variable {P:Program} {w:World} {H:Hp} {h h':Heap} {x e:Addr} {o':HO}
theorem HOk.write (ok:HOk P w H h) (mu:Mut (H x)) (he:e=x\/H e=some (.own x)) (k:∀ b u,b≠e->h.get? b=some u->h'.get? b=some u) (heo:∃ u,h'.get? e=some u)
  (new:ObjOk P w (upd H x o') h' x o'):HOk P w (upd H x o') h':=fun b u q=>by
 have nown:∀ c y,H c=some (.own y)->c≠x:=fun c y r z=>by subst z; rw [r] at mu; exact mu
 have ntup:∀ c xs,H c=some (.tup xs)->c≠x:=fun c xs r z=>by subst z; rw [r] at mu; exact mu
 by_cases hb:b=x
 ·subst hb; rw [upd_same] at q; cases q; exact new
 ·rw [upd_ne hb] at q
  by_cases hbe:b=e
  ·have q':H b=some (.own x):=by
    rcases he with z | z
    ·exact absurd (hbe.trans z) hb
    ·rw [hbe]; exact z
   rw [q] at q'; cases q'
   obtain ⟨v,hv⟩:=heo
   exact ⟨v,by rw [hbe]; exact hv⟩
  ·refine (ok b u q).stay (fun c v hc r=>k c v ?_ r) (fun c r=>by rw [upd_ne (nown c b r)]; exact r) fun c xs r=>by rw [upd_ne (ntup c xs r)]; exact r
   rcases hc with rfl | hc
   ·exact hbe
   ·rintro rfl
    rcases he with z | z
    ·exact nown c b hc z
    ·rw [hc] at z; cases z; exact hb rfl
end
structure Un (fs ex:List Addr) (H H':Hp) (h h':Heap):Prop where
 keep:∀ b o,h.get? b=some o->H b=none->b∉fs->b∉ex->h'.get? b=some o
 slot:∀ b o,h.get? b=some o->H b=none->b∈fs->b∉ex->∃ sl,h'.get? b=some { o with slots:=sl }
 free:∀ b o,h.get? b=some o->H b=none->b∉ex->H' b=none
 there:∀ b o,h.get? b=some o->b∉ex->∃ o',h'.get? b=some o'
 tups:∀ b xs,H b=some (.tup xs)->H' b=some (.tup xs)
 frzs:∀ b o u,H b=some (.frz o u)->H' b=some (.frz o u)
 tbls:∀ b ps,H b=some (.tbl ps)->∃ more,H' b=some (.tbl (ps++more))
section
variable {fs ex:List Addr} {H H1 H2:Hp} {h h1 h2 h':Heap} {a x e:Addr} {o:HO}
theorem Un.any (u:Un fs ex H H1 h h1) {b:Addr} {ob:Obj} (q:h.get? b=some ob) (n:H b=none) (hx:b∉ex):∃ sl,h1.get? b=some { ob with slots:=sl }:=by
 by_cases hb:b∈fs
 ·exact u.slot b ob q n hb hx
 ·exact ⟨ob.slots,u.keep b ob q n hb hx⟩
theorem Un.trans (a:Un fs ex H H1 h h1) (b:Un fs ex H1 H2 h1 h2):Un fs ex H H2 h h2 where
 keep:=fun c ob q n hc hx=>b.keep c ob (a.keep c ob q n hc hx) (a.free c ob q n hx) hc hx
 slot:=fun c ob q n hc hx=>by
  obtain ⟨sl,e1⟩:=a.slot c ob q n hc hx
  obtain ⟨sl',e2⟩:=b.slot c _ e1 (a.free c ob q n hx) hc hx
  exact ⟨sl',e2⟩
 free:=fun c ob q n hx=>by
  obtain ⟨o',e1⟩:=a.there c ob q hx
  exact b.free c o' e1 (a.free c ob q n hx) hx
 there:=fun c ob q hx=>by
  obtain ⟨o',e1⟩:=a.there c ob q hx
  exact b.there c o' e1 hx
 tups:=fun c xs q=>b.tups c xs (a.tups c xs q)
 frzs:=fun c ob xs q=>b.frzs c ob xs (a.frzs c ob xs q)
 tbls:=fun c ps q=>by
  obtain ⟨m1,e1⟩:=a.tbls c ps q
  obtain ⟨m2,e2⟩:=b.tbls c _ e1
  exact ⟨m1++m2,by rw [e2,xbG]⟩
theorem Un.kept (k:∀ b u,h.get? b=some u->h'.get? b=some u):Un fs ex H H h h' :=
 ⟨fun b ob q _ _ _=>k b ob q,fun b ob q _ _ _=>⟨ob.slots,k b ob q⟩,fun _ _ _ n _=>n,fun b ob q _=>⟨ob,k b ob q⟩,fun _ _ q=>q,fun _ _ _ q=>q,fun _ ps q=>⟨#[],by rw [q]; simp⟩⟩
theorem Un.refl:Un fs ex H H h h:=Un.kept fun _ _ q=>q
theorem Un.laid (k:∀ b u,h.get? b=some u->h'.get? b=some u) (hp:h.objs.size<=a) (hn:H a=none):Un fs ex H (upd H a o) h h' where
 keep:=fun b u q _ _ _=>k b u q
 slot:=fun b u q _ _ _=>⟨u.slots,k b u q⟩
 free:=fun b u q n _=>by rw [upd_ne (xaw (xau (xan q) hp))]; exact n
 there:=fun b u q _=>⟨u,k b u q⟩
 tups:=fun b xs q=>by rw [upd_ne (ne_of_none q hn)]; exact q
 frzs:=fun b u xs q=>by rw [upd_ne (ne_of_none q hn)]; exact q
 tbls:=fun b ps q=>⟨#[],by rw [upd_ne (ne_of_none q hn),q]; simp⟩
theorem Un.write (mu:Mut (H x)) (he:e=x\/H e=some (.own x)) (k:∀ b u,b≠e->h.get? b=some u->h'.get? b=some u) (heo:∃ u,h'.get? e=some u):Un fs ex H (upd H x o) h h':=by
 have hx:∀ b,H b=none->b≠x:=fun b n z=>by subst z; rw [n] at mu; exact mu
 have hb:∀ b,H b=none->b≠e:=fun b n z=>by
  subst z
  rcases he with r | r
  ·exact hx b n r
  ·rw [n] at r; cases r
 have hm:∀ b u,H b=some u->¬ Mut (some u)->b≠x:=fun b u q nm z=>by subst z; rw [q] at mu; exact nm mu
 refine ⟨fun b u q n _ _=>k b u (hb b n) q,fun b u q n _ _=>⟨u.slots,k b u (hb b n) q⟩,fun b u q n _=>by rw [upd_ne (hx b n)]; exact n,fun b u q _=>?_,
  fun b xs q=>by rw [upd_ne (hm b _ q fun z=>z)]; exact q,fun b u xs q=>by rw [upd_ne (hm b _ q fun z=>z)]; exact q,fun b ps q=>⟨#[],by rw [upd_ne (hm b _ q fun z=>z),q]; simp⟩⟩
 by_cases hbe:b=e
 ·subst hbe; exact heo
 ·exact ⟨u,k b u hbe q⟩
end
def trk (h:Heap) (H:Hp):List Addr:=(List.range h.objs.size).filter fun a=>(H a).isSome
def hidT (h:Heap) (H:Hp):Heap:=PySem.W.hideAll h (trk h H)
theorem hidT_size (h:Heap) (H:Hp):(hidT h H).objs.size=h.objs.size:=PySem.W.hideAll_size _ _
theorem hidT_get {h:Heap} {H:Hp} {b:Addr} {o:Obj} (e:h.get? b=some o) (n:H b=none):(hidT h H).get? b=some o :=
 PySem.W.hideAll_get _ e fun hm=>by
  have q:(H b).isSome=true:=(xbV.mp hm).2
  rw [n] at q; simp at q
theorem of_hidT {h:Heap} {H:Hp} {b:Addr} {o:Obj} (e:(hidT h H).get? b=some o):h.get? b=some o/\H b=none:=by
 have e':h.get? b=some o:=PySem.W.of_hideAll (trk h H) e
 refine ⟨e',?_⟩
 cases q:H b with
 | none=>rfl
 | some x =>
  have hm:b∈trk h H:=xbV.mpr ⟨xaV.mpr (xan e'),by simp [q]⟩
  have z:(hidT h H).get? b=none:=PySem.W.hideAll_none (trk h H) hm
  rw [z] at e; cases e
def allNews (g h:Heap) (L:Addr):List (Addr × Obj):=(List.range h.objs.size).filterMap fun a=>if a=L\/(g.get? a).isSome=true then none else (h.get? a).map fun o=>(a,o)
def rest (g h:Heap) (L d:Addr):List (Addr × Obj):=(allNews g h L).filter fun p=>decide (p.1≠d)
structure Mod (K:PySem.W.Frag) (mg:Str->Option Value) (base:Heap):Prop where
 kin:K.In base
 glob:base.Ns mainGlobals mg
 blt:∃ mb,base.Ns builtinsNs mb/\∀ x:Str,x ≠ "__name__"->mb x=bootBuiltins x
 nolimit:base.NoLimit
structure Cx where
 prog:Program
 w:World
 K:PySem.W.Frag
 mg:Str->Option Value
 base:Heap
 A:Around
 N:List Str
 s₀:Shared
 H₀:Hp
 env:Env
 outer:List Env
 stack:List Env
 ex:List Addr
 fn:Str->Bool
 calm:Bool
 pn:List (Addr × Obj)
 xe:Value->Shared->Prop
def frs (l:List Env):List Addr:=l.filterMap (·.frame)
abbrev Cx.fs (X:Cx):List Addr:=frs X.outer
def Vis (sc:Scope) (x:Str):Prop:=sc.names.lookup x=some .local\/sc.names.lookup x=some .cell\/sc.names.lookup x=some .free
def Loc (sc:Scope) (x:Str):Prop:=sc.names.lookup x=some .local\/sc.names.lookup x=some .cell
def Look (env:Env) (h:Heap) (m:Str->Option Value) (x:Str) (u:Value):Prop :=
 (env.kindOf x=some .local/\m x=some u)\/((env.kindOf x=some .cell\/env.kindOf x=some .free)/\∃ c,env.cells.lookup x=some c/\h.IsCell c (some u))
structure Cx.Ok (X:Cx):Prop where
 mod:Mod X.K X.mg X.base
 kind:X.env.scope.kind=.function
 glob:X.env.globals=mainGlobals
 blt:X.env.builtins=builtinsNs
 above:X.s₀.heap.objs.size<=X.env.locals
 inj:∀ x y c,X.env.cells.lookup x=some c->X.env.cells.lookup y=some c->x=y
 has:∀ x,(X.env.kindOf x=some .cell\/X.env.kindOf x=some .free)->∃ c,X.env.cells.lookup x=some c
 cab:∀ x c,X.fn x=true->X.env.cells.lookup x=some c->X.s₀.heap.objs.size<=c
 hd:X.calm=true->X.A.handled=none
 frames:X.A.frames=some X.stack
 stk:X.stack=X.outer\/(X.stack=X.env :: X.outer/\X.env.frame=some X.env.locals)
 exf:∀ b∈X.ex,b≠X.env.locals/\∀ x c,X.env.cells.lookup x=some c->c≠b
 bs:∀ b o,X.base.get? b=some o->X.s₀.heap.get? b=some o/\X.H₀ b=none
 bsz:X.base.objs.size<=X.s₀.heap.objs.size
 noex:∀ b o,X.base.get? b=some o->b∉X.ex
 exfs:∀ b∈X.ex,b∉X.fs
 funs:X.s₀.heap.FunFrames X.base X.outer
 frf:∀ b∈X.fs,X.H₀ b=none
structure Inv (X:Cx) (pins:List (Addr × Obj)) (σ:List (Option V)) (H:Hp) (s:Shared):Prop where
 ok:X.Ok
 os:s.os=X.s₀.os
 bare:AllBare s.gens
 base:Un X.fs X.ex X.H₀ H X.s₀.heap s.heap
 loc:∃ m,s.heap.Ns X.env.locals m/\∀ (i:Nat) (x:Str) (v:V),X.N[i]? = some x->σ[i]? = some (some v)->Vis X.env.scope x->∃ u,RelV v u/\Look X.env s.heap m x u
 cell:∀ x c,X.env.cells.lookup x=some c->∃ v,s.heap.IsCell c v
 free:H X.env.locals=none
 freeC:∀ x c,X.env.cells.lookup x=some c->H c=none
 pin:∀ p∈X.pn++pins,s.heap.get? p.1=some p.2/\H p.1=none/\p.1≠X.env.locals/\p.1∉X.fs/\∀ v,p.2.data≠.cell v
 hok:HOk X.prog X.w H s.heap
 len:σ.length=X.N.length
section
variable {X:Cx} {pins:List (Addr × Obj)} {σ:List (Option V)} {H H':Hp} {s:Shared} {h':Heap}
theorem Cx.Ok.nofr (ok:X.Ok) {b:Addr} {o:Obj} (e:X.base.get? b=some o):b∉X.fs:=fun hb=>by
 have:=(ok.funs.mem hb).1
 rw [e] at this; cases this
theorem Inv.bs (I:Inv X pins σ H s):∀ b o,X.base.get? b=some o->s.heap.get? b=some o/\H b=none:=fun b o e =>
 ⟨I.base.keep b o (I.ok.bs b o e).1 (I.ok.bs b o e).2 (I.ok.nofr e) (I.ok.noex b o e),I.base.free b o (I.ok.bs b o e).1 (I.ok.bs b o e).2 (I.ok.noex b o e)⟩
theorem Inv.bk (I:Inv X pins σ H s):∀ b o,X.base.get? b=some o->s.heap.get? b=some o:=fun b o e=>(I.bs b o e).1
theorem Inv.mod (I:Inv X pins σ H s):Mod X.K X.mg X.base:=I.ok.mod
theorem Inv.kIn (I:Inv X pins σ H s):X.K.In s.heap:=I.ok.mod.kin.keeps I.bk
theorem Inv.lt (I:Inv X pins σ H s):X.env.locals<s.heap.objs.size:=let ⟨_,hn,_⟩:=I.loc; hn.lt
theorem Inv.sz (I:Inv X pins σ H s):X.s₀.heap.objs.size<=s.heap.objs.size:=xaA I.ok.above (xaF I.lt)
theorem Inv.nofs (I:Inv X pins σ H s) {a:Addr} (h:s.heap.objs.size<=a):a∉X.fs:=fun hb=>by
 obtain ⟨_,o,ho,_⟩:=I.ok.funs.mem hb
 exact absurd (xau (xan ho) (xaA I.sz h)) (xaW _)
theorem Inv.cne (I:Inv X pins σ H s):∀ x c,X.env.cells.lookup x=some c->c≠X.env.locals:=fun x c e z=>by
 obtain ⟨v,o,ho,hd⟩:=I.cell x c e
 obtain ⟨m,⟨o',es,ep,ho',hd',_⟩,_⟩:=I.loc
 rw [z,ho'] at ho; cases ho; rw [hd'] at hd; cases hd
theorem Inv.funs (I:Inv X pins σ H s):s.heap.FunFrames X.base X.outer:=by
 have all:∀ (l:List Env),(∀ b∈frs l,b∈X.fs)->X.s₀.heap.FunFrames X.base l->s.heap.FunFrames X.base l:=by
  intro l
  induction l with
  | nil=>intro _ _; trivial
  | cons env r ih =>
   intro hs hl
   obtain ⟨hk,⟨L,o,hf,hn,ho,hd⟩,hr⟩:=hl
   have hL:L∈X.fs:=hs L (by unfold frs; rw [xbC,hf]; exact xad)
   obtain ⟨sl,e⟩:=I.base.slot L o ho (I.ok.frf L hL) hL fun z=>I.ok.exfs L z hL
   exact ⟨hk,⟨L,_,hf,hn,e,hd⟩,ih (fun b hb=>hs b (by unfold frs; rw [xbC,hf]; exact xab _ hb)) hr⟩
 exact all X.outer (fun _ hb=>hb) I.ok.funs
theorem Inv.stack (I:Inv X pins σ H s):s.heap.FunFrames X.base X.stack:=by
 rcases I.ok.stk with e | ⟨e,hf⟩
 ·rw [e]; exact I.funs
 ·rw [e]
  obtain ⟨m,hn,_⟩:=I.loc
  refine .cons (by rw [I.ok.kind]; decide) hf hn ?_ I.funs
  exact Heap.get?_none_of_le (xaA I.ok.bsz I.ok.above)
theorem Inv.stkSub (I:Inv X pins σ H s):∀ b∈frs X.stack,b∈X.env.locals :: X.fs:=fun b hb=>by
 rcases I.ok.stk with e | ⟨e,hf⟩
 ·rw [e] at hb; exact xab _ hb
 ·rw [e] at hb
  unfold frs at hb
  rw [xbC,hf] at hb
  exact hb
theorem Inv.stkFree (I:Inv X pins σ H s):∀ b∈frs X.stack,H b=none:=fun b hb=>by
 rcases xak.mp (I.stkSub b hb) with e | hb
 ·rw [e]; exact I.free
 ·obtain ⟨_,o,ho,_⟩:=I.ok.funs.mem hb
  exact I.base.free b o ho (I.ok.frf b hb) fun z=>I.ok.exfs b z hb
theorem Inv.step {g':Array GenState} {t':Nat} {d':Drawn} {ch:List Addr} (I:Inv X pins σ H s)
  (hch:∀ b∈ch,(b∈X.ex\/X.s₀.heap.objs.size<=b)/\b≠X.env.locals/\(∀ x c,X.env.cells.lookup x=some c->c≠b)/\∀ p∈X.pn++pins,p.1≠b)
  (keep:∀ b o,b≠X.env.locals->b∉X.fs->b∉ch->s.heap.get? b=some o->H b=none->h'.get? b=some o)
  (slot:∀ b o,b≠X.env.locals->b∈X.fs->b∉ch->s.heap.get? b=some o->H b=none->∃ sl,h'.get? b=some { o with slots:=sl }) (free:∀ b o,b∉ch->s.heap.get? b=some o->H b=none->H' b=none)
  (there:∀ b o,b∉ch->s.heap.get? b=some o->∃ o',h'.get? b=some o')
  (tups:∀ b xs,H b=some (.tup xs)->H' b=some (.tup xs)) (frzs:∀ b o u,H b=some (.frz o u)->H' b=some (.frz o u)) (tbls:∀ b ps,H b=some (.tbl ps)->∃ more,H' b=some (.tbl (ps++more)))
  (ns:∀ m,s.heap.Ns X.env.locals m->h'.Ns X.env.locals m) (hok:HOk X.prog X.w H' h') (hg:AllBare g') :
  Inv X pins σ H' { s with heap:=h',gens:=g',drawn:=d',toks:=t' }:=by
 have neL:∀ b o,X.s₀.heap.get? b=some o->b≠X.env.locals:=fun b o e=>xaw (xau (xan e) I.ok.above)
 have neC:∀ b o,X.s₀.heap.get? b=some o->b∉X.ex->b∉ch:=fun b o e hx hb=>by
  rcases (hch b hb).1 with z | z
  ·exact hx z
  ·exact absurd (xau (xan e) z) (xaW _)
 have cellK:∀ x c,X.env.cells.lookup x=some c->∀ v,s.heap.IsCell c v->h'.IsCell c v:=fun x c e v hx9=>by
  obtain ⟨o,ho,hd⟩:=hx9
  have nch:c∉ch:=fun z=>(hch c z).2.2.1 x c e rfl
  by_cases hc:c∈X.fs
  ·obtain ⟨sl,q⟩:=slot c o (I.cne x c e) hc nch ho (I.freeC x c e)
   exact ⟨_,q,hd⟩
  ·exact ⟨o,keep c o (I.cne x c e) hc nch ho (I.freeC x c e),hd⟩
 refine ⟨I.ok,I.os,hg,⟨fun b o e n hb hx=>?_,fun b o e n hb hx=>?_,fun b o e n hx=>?_,fun b o e hx=>?_,fun b xs e=>tups b xs (I.base.tups b xs e),fun b o xs e=>frzs b o xs (I.base.frzs b o xs e),fun b ps e=>?_⟩,?_,fun x c e=>?_,?_,fun x c e=>?_,fun p hp=>?_,hok,I.len⟩
 ·exact keep b o (neL b o e) hb (neC b o e hx) (I.base.keep b o e n hb hx) (I.base.free b o e n hx)
 ·obtain ⟨sl,e1⟩:=I.base.slot b o e n hb hx
  obtain ⟨sl',e2⟩:=slot b _ (neL b o e) hb (neC b o e hx) e1 (I.base.free b o e n hx)
  exact ⟨sl',e2⟩
 ·obtain ⟨o',e1⟩:=I.base.there b o e hx
  exact free b o' (neC b o e hx) e1 (I.base.free b o e n hx)
 ·obtain ⟨o',e1⟩:=I.base.there b o e hx
  exact there b o' (neC b o e hx) e1
 ·obtain ⟨m1,e1⟩:=I.base.tbls b ps e
  obtain ⟨m2,e2⟩:=tbls b _ e1
  exact ⟨m1++m2,by rw [e2,xbG]⟩
 ·obtain ⟨m,hn,hl⟩:=I.loc
  refine ⟨m,ns m hn,fun i x v e1 e2 e3=>?_⟩
  obtain ⟨u,r,l⟩:=hl i x v e1 e2 e3
  refine ⟨u,r,?_⟩
  rcases l with l | ⟨k,c,e,z⟩
  ·exact .inl l
  ·exact .inr ⟨k,c,e,cellK x c e _ z⟩
 ·obtain ⟨v,z⟩:=I.cell x c e
  exact ⟨v,cellK x c e v z⟩
 ·obtain ⟨m,⟨o,_,_,ho,_⟩,_⟩:=I.loc
  exact free _ o (fun z=>(hch _ z).2.1 rfl) ho I.free
 ·obtain ⟨v,o,ho,hd⟩:=I.cell x c e
  exact free c o (fun z=>(hch c z).2.2.1 x c e rfl) ho (I.freeC x c e)
 ·obtain ⟨e,n,ne,nf,d⟩:=I.pin p hp
  have nch:p.1∉ch:=fun z=>(hch p.1 z).2.2.2 p hp rfl
  exact ⟨keep p.1 p.2 ne nf nch e n,free p.1 p.2 nch e n,ne,nf,d⟩
theorem Inv.un {t':Nat} (I:Inv X pins σ H s) (u:Un X.fs [] H H' s.heap h') (hok:HOk X.prog X.w H' h'):Inv X pins σ H' { s with heap:=h',toks:=t' }:=by
 obtain ⟨m,⟨o,es,ep,ho,r⟩,_⟩:=id I.loc
 obtain ⟨sl,hL⟩:=u.any ho I.free (by simp)
 exact I.step (g':=s.gens) (d':=s.drawn) (ch:=[]) (fun _ z=>nomatch z) (fun b o _ hb _ e n=>u.keep b o e n hb (by simp)) (fun b o _ hb _ e n=>u.slot b o e n hb (by simp)) (fun b o _ e n=>u.free b o e n (by simp)) (fun b o _ e=>u.there b o e (by simp)) u.tups u.frzs u.tbls (fun m' hm=>by
  obtain ⟨o',es',ep',ho',r'⟩:=hm
  rw [ho] at ho'; cases ho'
  exact ⟨_,es',ep',hL,r'⟩) hok I.bare
theorem Inv.call {g':Array GenState} {t':Nat} {d':Drawn} {ch:List Addr} (I:Inv X pins σ H s) (u:Un (frs X.stack) ch H H' s.heap h') (hok:HOk X.prog X.w H' h') (hg:AllBare g')
  (hch:∀ b∈ch,(b∈X.ex\/X.s₀.heap.objs.size<=b)/\b≠X.env.locals/\(∀ x c,X.env.cells.lookup x=some c->c≠b)/\∀ p∈X.pn++pins,p.1≠b) :
  Inv X pins σ H' { s with heap:=h',gens:=g',drawn:=d',toks:=t' }:=by
 obtain ⟨m,⟨o,es,ep,ho,r⟩,_⟩:=id I.loc
 obtain ⟨sl,hL⟩:=u.any ho I.free fun z=>(hch _ z).2.1 rfl
 exact I.step (ch:=ch) hch (fun b o hL hb hc e n=>u.keep b o e n (fun z=>(xak.mp (I.stkSub b z)).elim hL hb) hc) (fun b o _ _ hc e n=>u.any e n hc) (fun b o hc e n=>u.free b o e n hc) (fun b o hc e=>u.there b o e hc) u.tups u.frzs u.tbls (fun m' hm=>by
  obtain ⟨o',es',ep',ho',r'⟩:=hm
  rw [ho] at ho'; cases ho'
  exact ⟨_,es',ep',hL,r'⟩) hok hg
theorem Inv.turned {t':Nat} {it:Addr} (I:Inv X pins σ H s) (k:∀ b o,b≠it->s.heap.get? b=some o->h'.get? b=some o) (hn:H it=none) (hL:it≠X.env.locals)
  (h1:it∈X.ex\/X.s₀.heap.objs.size<=it) (h2:∀ x c,X.env.cells.lookup x=some c->c≠it) (h3:∀ p∈X.pn++pins,p.1≠it):Inv X pins σ H { s with heap:=h',toks:=t' }:=by
 have nit:∀ b u,H b=some u->b≠it:=fun b u e z=>by rw [z,hn] at e; cases e
 refine I.step (g':=s.gens) (d':=s.drawn) (ch:=[it]) (fun b hb=>?_) (fun b o _ _ hc e _=>k b o (fun z=>hc (by simp [z])) e) (fun b o _ _ hc e _=>⟨o.slots,k b o (fun z=>hc (by simp [z])) e⟩) (fun _ _ _ _ n=>n)
  (fun b o hc e=>⟨o,k b o (fun z=>hc (by simp [z])) e⟩) (fun _ _ e=>e) (fun _ _ _ e=>e) (fun b ps e=>⟨#[],by rw [e]; simp⟩) (fun m hm=>?_) (fun b u e=>?_) I.bare
 ·have e:b=it:=by simpa using hb
  subst e
  exact ⟨h1,hL,h2,h3⟩
 ·obtain ⟨o,es,ep,ho,r⟩:=hm
  exact ⟨o,es,ep,k _ o (Ne.symm hL) ho,r⟩
 ·refine (I.hok b u e).stay (fun c v hc q=>k c v ?_ q) (fun _ q=>q) fun _ _ q=>q
  rcases hc with z | z
  ·rw [z]; exact nit b u e
  ·exact nit c _ z
theorem Inv.tok (I:Inv X pins σ H s) (t:Nat):Inv X pins σ H { s with toks:=t }:=I.un (h':=s.heap) (t':=t) Un.refl I.hok
theorem Inv.kept {t':Nat} (I:Inv X pins σ H s) (k:∀ b u,s.heap.get? b=some u->h'.get? b=some u):Inv X pins σ H { s with heap:=h',toks:=t' }:=I.un (Un.kept k) (I.hok.kept k)
theorem Inv.laid {a:Addr} {o:HO} {t':Nat} (I:Inv X pins σ H s) (k:∀ b u,s.heap.get? b=some u->h'.get? b=some u) (hp:s.heap.objs.size<=a) (new:ObjOk X.prog X.w (upd H a o) h' a o) :
  Inv X pins σ (upd H a o) { s with heap:=h',toks:=t' }:=I.un (Un.laid k hp (I.hok.fresh hp)) (I.hok.laid k hp new)
theorem Inv.write {x e:Addr} {o:HO} {t':Nat} (I:Inv X pins σ H s) (mu:Mut (H x)) (he:e=x\/H e=some (.own x)) (k:∀ b u,b≠e->s.heap.get? b=some u->h'.get? b=some u) (heo:∃ u,h'.get? e=some u)
  (new:ObjOk X.prog X.w (upd H x o) h' x o):Inv X pins σ (upd H x o) { s with heap:=h',toks:=t' }:=I.un (Un.write mu he k heo) (I.hok.write mu he k heo new)
theorem Inv.pins_of {pins':List (Addr × Obj)} (I:Inv X pins σ H s) (h:∀ p∈pins',s.heap.get? p.1=some p.2/\H p.1=none/\p.1≠X.env.locals/\p.1∉X.fs/\∀ v,p.2.data≠.cell v):Inv X pins' σ H s :=
 ⟨I.ok,I.os,I.bare,I.base,I.loc,I.cell,I.free,I.freeC,fun p hp=>(xai.mp hp).elim (fun z=>I.pin p (xay _ z)) (h p),I.hok,I.len⟩
theorem nodup_ix {N:List Str} (hN:N.Nodup) {i j:Nat} {x:Str} (a:N[i]? = some x) (b:N[j]? = some x):i=j:=by
 obtain ⟨h1,e1⟩:=xal.mp a
 obtain ⟨h2,e2⟩:=xal.mp b
 exact (List.getElem_inj hN).mp (e1.trans e2.symm)
theorem store_ok2 {M:Model} {A:Around} {E:Value->Shared->Prop} {i:Nat} {x:Str} {v:V} {u:Value} {Q:Unit->Shared->Prop} (I:Inv X pins σ H s) (hN:X.N.Nodup) (hi:X.N[i]? = some x) (hx:Loc X.env.scope x) (r:RelV v u)
  (h:∀ s',Inv X pins (σ.set i (some v)) H s'->(∃ a,Heap.SameBut a s.heap s'.heap/\(a=X.env.locals\/X.env.cells.lookup x=some a))->Q () s') (hf:X.fn x=true\/X.env.scope.names.lookup x=some .local:=by first | exact .inl rfl | exact .inr rfl | assumption):wpAny M A (storeName X.env x u) Q E s:=by
 obtain ⟨m,hn,hl⟩:=id I.loc
 have hcls:(X.env.scope.kind == .class || (X.env.scope.kind == .module && X.env.locals != X.env.globals))=false:=by rw [I.ok.kind]; rfl
 have hiσ:i<σ.length:=by rw [I.len]; exact (xal.mp hi).1
 have cne:=I.cne
 have tracked:∀ {a:Addr} {h':Heap},(∃ o,s.heap.get? a=some o/\H a=none)->Heap.SameBut a s.heap h'->HOk X.prog X.w H h':=fun {a h'} ha hs b ob e=>by
  obtain ⟨_,_,hfree⟩:=ha
  refine (I.hok b ob e).stay (fun c w' hc q=>(hs.2 c ?_).trans q) (fun _ q=>q) fun _ _ q=>q
  rintro rfl
  rcases hc with rfl | hc
  ·rw [hfree] at e; cases e
  ·rw [hfree] at hc; cases hc
 rcases hx with hk | hk
 ·refine wpAny_storeName_local hk hn (fun h' hn' hs=>?_) hcls
  obtain ⟨oL,_,_,hoL,_⟩:=id hn
  refine h _ ⟨I.ok,I.os,I.bare,⟨fun b o e n hb hx=>?_,fun b o e n hb hx=>?_,I.base.free,fun b o e hx=>?_,I.base.tups,I.base.frzs,I.base.tbls⟩,⟨_,hn',fun j y v' e1 e2 e3=>?_⟩,fun y c e=>?_,I.free,I.freeC,fun p hp=>?_,tracked ⟨oL,hoL,I.free⟩ hs,by simpa using I.len⟩ ⟨_,hs,.inl rfl⟩
  ·exact (hs.2 b (xaw (xau (xan e) I.ok.above))).trans (I.base.keep b o e n hb hx)
  ·obtain ⟨sl,e1⟩:=I.base.slot b o e n hb hx
   exact ⟨sl,(hs.2 b (xaw (xau (xan e) I.ok.above))).trans e1⟩
  ·obtain ⟨o',e1⟩:=I.base.there b o e hx
   exact ⟨o',(hs.2 b (xaw (xau (xan e) I.ok.above))).trans e1⟩
  ·by_cases hj:j=i
   ·subst hj
    rw [hi] at e1; cases e1
    rw [xb3 hiσ] at e2
    cases e2
    exact ⟨u,r,.inl ⟨hk,by simp⟩⟩
   ·rw [xbA (Ne.symm hj)] at e2
    obtain ⟨u',r',q⟩:=hl j y v' e1 e2 e3
    refine ⟨u',r',?_⟩
    rcases q with ⟨k,e⟩ | ⟨k,c,e,z⟩
    ·refine .inl ⟨k,?_⟩
     have:y≠x:=fun e=>hj (nodup_ix hN e1 (e ▸ hi))
     simp [this,e]
    ·exact .inr ⟨k,c,e,z.sameBut hs (cne y c e)⟩
  ·obtain ⟨w',z⟩:=I.cell y c e
   exact ⟨w',z.sameBut hs (cne y c e)⟩
  ·obtain ⟨e,n,ne,nf,d⟩:=I.pin p hp
   exact ⟨(hs.2 p.1 ne).trans e,n,ne,nf,d⟩
 ·have hfn:X.fn x=true:=by
   rcases hf with z | z
   ·exact z
   ·rw [z] at hk; cases hk
  obtain ⟨c,hc⟩:=I.ok.has x (.inl hk)
  obtain ⟨w',z⟩:=I.cell x c hc
  refine wpAny_storeName_cell I.ok.kind hk hc z (fun h' hc' hs=>?_)
  obtain ⟨oc,hoc,hocd⟩:=id z
  refine h { s with heap:=h' } ⟨I.ok,I.os,I.bare,⟨fun b o e n hb hx=>?_,fun b o e n hb hx=>?_,I.base.free,fun b o e hx=>?_,I.base.tups,I.base.frzs,I.base.tbls⟩,⟨m,hn.sameBut hs (Ne.symm (cne x c hc)),fun j y v' e1 e2 e3=>?_⟩,fun y c' e=>?_,I.free,I.freeC,fun p hp=>?_,tracked ⟨oc,hoc,I.freeC x c hc⟩ hs,by simpa using I.len⟩ ⟨c,hs,.inr hc⟩
  ·exact (hs.2 b (xaw (xau (xan e) (I.ok.cab x c hfn hc)))).trans (I.base.keep b o e n hb hx)
  ·obtain ⟨sl,e1⟩:=I.base.slot b o e n hb hx
   exact ⟨sl,(hs.2 b (xaw (xau (xan e) (I.ok.cab x c hfn hc)))).trans e1⟩
  ·obtain ⟨o',e1⟩:=I.base.there b o e hx
   exact ⟨o',(hs.2 b (xaw (xau (xan e) (I.ok.cab x c hfn hc)))).trans e1⟩
  ·by_cases hj:j=i
   ·subst hj
    rw [hi] at e1; cases e1
    rw [xb3 hiσ] at e2
    cases e2
    exact ⟨u,r,.inr ⟨.inl hk,c,hc,hc'⟩⟩
   ·rw [xbA (Ne.symm hj)] at e2
    obtain ⟨u',r',q⟩:=hl j y v' e1 e2 e3
    refine ⟨u',r',?_⟩
    rcases q with q | ⟨k,c',e,z'⟩
    ·exact .inl q
    ·refine .inr ⟨k,c',e,z'.sameBut hs ?_⟩
     rintro rfl
     exact hj (nodup_ix hN e1 (I.ok.inj _ _ _ e hc ▸ hi))
  ·by_cases hcc:c'=c
   ·subst hcc; exact ⟨_,hc'⟩
   ·obtain ⟨w2,z2⟩:=I.cell y c' e
    exact ⟨w2,z2.sameBut hs hcc⟩
  ·obtain ⟨e,n,ne,nf,d⟩:=I.pin p hp
   refine ⟨(hs.2 p.1 ?_).trans e,n,ne,nf,d⟩
   intro q
   rw [q,hoc] at e
   have q':oc=p.2:=Option.some.inj e
   exact d w' (by rw [<- q']; exact hocd)
theorem store_ok {M:Model} {A:Around} {E:Value->Shared->Prop} {i:Nat} {x:Str} {v:V} {u:Value} {Q:Unit->Shared->Prop} (I:Inv X pins σ H s) (hN:X.N.Nodup) (hi:X.N[i]? = some x) (hx:Loc X.env.scope x) (r:RelV v u)
  (h:∀ s',Inv X pins (σ.set i (some v)) H s'->Q () s') (hf:X.fn x=true\/X.env.scope.names.lookup x=some .local:=by first | exact .inl rfl | exact .inr rfl | assumption):wpAny M A (storeName X.env x u) Q E s :=
 store_ok2 I hN hi hx r (fun s' I' _=>h s' I') hf
theorem Inv.call' {s':Shared} {ch:List Addr} (I:Inv X pins σ H s) (ho:s'.os=s.os) (u:Un (frs X.stack) ch H H' s.heap s'.heap) (hok:HOk X.prog X.w H' s'.heap) (hg:AllBare s'.gens)
  (hch:∀ b∈ch,(b∈X.ex\/X.s₀.heap.objs.size<=b)/\b≠X.env.locals/\(∀ x c,X.env.cells.lookup x=some c->c≠b)/\∀ p∈X.pn++pins,p.1≠b):Inv X pins σ H' s':=by
 obtain ⟨h',g',d',t',o'⟩:=s'
 have e:o'=s.os:=ho
 subst e
 exact I.call (g':=g') (t':=t') (d':=d') u hok hg hch
end
abbrev XK:=Value->Option Addr->Hp->Prop
abbrev St:=List (Option V)
abbrev VK:=V->Hp->Prop
abbrev TE:=St->Hp->VK->Prop
abbrev TT:=St->Hp->(Bool->Hp->Prop)->Prop
abbrev TA:=St->Hp->(List V->Hp->Prop)->Prop
structure Ends where
 nx:St->Hp->Prop
 rt:VK
 bk:St->Hp->Prop:=fun _ _=>False
 ct:St->Hp->Prop:=fun _ _=>False
abbrev TS:=Ends->St->Hp->Prop
def EP (X:Cx) (pins:List (Addr × Obj)) (σ:St) (Q:VK) (u:Value) (s':Shared):Prop:=∃ v H',Inv X pins σ H' s'/\RelV v u/\Q v H'
def TP (X:Cx) (pins:List (Addr × Obj)) (σ:St) (Q:Bool->Hp->Prop) (b:Bool) (s':Shared):Prop:=∃ H',Inv X pins σ H' s'/\Q b H'
def AP (X:Cx) (pins:List (Addr × Obj)) (σ:St) (Q:List V->Hp->Prop) (us:List Value) (s':Shared):Prop:=∃ vs H',Inv X pins σ H' s'/\Vals vs us/\Q vs H'
def SP (X:Cx) (pins:List (Addr × Obj)) (D:Ends) (f:Flow) (s':Shared):Prop :=
 match f with
 | .next=>∃ σ' H',Inv X pins σ' H' s'/\D.nx σ' H'
 | .brk=>∃ σ' H',Inv X pins σ' H' s'/\D.bk σ' H'
 | .cont=>∃ σ' H',Inv X pins σ' H' s'/\D.ct σ' H'
 | .ret u=>∃ v σ' H',Inv X pins σ' H' s'/\RelV v u/\D.rt v H'
def PE (X:Cx) (e:Expr) (t:TE):Prop :=
 ∀ (pins:List (Addr × Obj)) (s:Shared) (σ:St) (H:Hp) (Q:VK),Inv X pins σ H s->t σ H Q->wpAny (model X.prog X.w) X.A (eval e X.env) (EP X pins σ Q) X.xe s
def PT (X:Cx) (e:Expr) (t:TT):Prop :=
 ∀ (pins:List (Addr × Obj)) (s:Shared) (σ:St) (H:Hp) (Q:Bool->Hp->Prop),Inv X pins σ H s->t σ H Q->wpAny (model X.prog X.w) X.A (isTrue e X.env (eval e X.env)) (TP X pins σ Q) X.xe s
def PW (X:Cx) (e:Expr) (t:TT):Prop :=
 ∀ (whole:Sem Value) (pins:List (Addr × Obj)) (s:Shared) (σ:St) (H:Hp) (Q:Bool->Hp->Prop),Inv X pins σ H s->t σ H Q->wpAny (model X.prog X.w) X.A (isTrue e X.env whole) (TP X pins σ Q) X.xe s
def PA (X:Cx) (es:List Expr) (t:TA):Prop :=
 ∀ (pos:Pos) (pins:List (Addr × Obj)) (s:Shared) (σ:St) (H:Hp) (Q:List V->Hp->Prop),Inv X pins σ H s->t σ H Q->wpAny (model X.prog X.w) X.A (spliced (backTo pos (starEach es X.env))) (AP X pins σ Q) X.xe s
def PS (X:Cx) (st:Stmt) (t:TS):Prop :=
 ∀ (pins:List (Addr × Obj)) (s:Shared) (σ:St) (H:Hp) (D:Ends),Inv X pins σ H s->t D σ H->wpAny (model X.prog X.w) X.A (exec st X.env) (SP X pins D) X.xe s
def PSs (X:Cx) (st:List Stmt) (t:TS):Prop :=
 ∀ (pins:List (Addr × Obj)) (s:Shared) (σ:St) (H:Hp) (D:Ends),Inv X pins σ H s->t D σ H->wpAny (model X.prog X.w) X.A (execs st X.env) (SP X pins D) X.xe s
theorem thn {α:Type} {t:Sem α} {Q Q':α->Shared->Prop} {M:Model} {A:Around} {E:Value->Shared->Prop} {s:Shared} (h:wpAny M A t Q E s) (hQ:∀ a s,Q a s->Q' a s):wpAny M A t Q' E s:=xba h hQ fun _ _ x=>x
section
variable {X:Cx}
def tVar (i:Nat):TE:=fun σ H Q=>∃ v,σ[i]? = some (some v)/\Q v H
def tC (v:V):TE:=fun _ H Q=>Q v H
theorem pe_var {i:Nat} {x:Str} {pos:Pos} (hN:X.N[i]? = some x) (hv:Vis X.env.scope x) (hd:(x == ("__debug__" : Str))=false:=by decide) (hcd:(x == ("__classdict__" : Str))=false:=by decide):PE X (.Name x pos) (tVar i):=by
 intro pins s σ H Q I h
 obtain ⟨v,e,h⟩:=h
 obtain ⟨m,hn,hl⟩:=I.loc
 obtain ⟨u,r,l⟩:=hl i x v hN e hv
 have fin:EP X pins σ Q u s:=⟨v,H,I,r,h⟩
 rcases l with ⟨hk,hm⟩ | ⟨hk,c,hc,hcell⟩
 ·exact wpAny_Name (wpAny_loadName_local I.ok.kind hk hn hm fin) hd
 ·rcases hk with hk | hk
  ·exact wpAny_Name (wpAny_loadName_cell I.ok.kind hk hc hcell fin) hd
  ·exact wpAny_Name (wpAny_loadName_free I.ok.kind hk hc hcell fin hcd) hd
theorem pe_int {i j pos}:PE X (.Constant (.int i) j pos) (tC (.int i)):=fun _ _ _ H _ I h=>wpAny_Constant_int ⟨.int i,H,I.tok _,⟨_,rfl⟩,h⟩
theorem pe_bl {b j pos}:PE X (.Constant (.bool b) j pos) (tC (.bl b)):=fun _ _ _ H _ I h=>Constant_bool ⟨.bl b,H,I,rfl,h⟩
theorem pe_str {x j pos}:PE X (.Constant (.str x) j pos) (tC (.str x)):=fun _ _ _ H _ I h=>Calls.Constant_str ⟨.str x,H,I.tok _,⟨_,rfl⟩,h⟩
def Gl (X:Cx) (x:Str):Prop:=X.env.kindOf x=some .globalImplicit
theorem ld_glob {E:Value->Shared->Prop} {pins:List (Addr × Obj)} {s:Shared} {σ:St} {H:Hp} {x:Str} {u:Value} {pos:Pos} {Q:Value->Shared->Prop} (I:Inv X pins σ H s) (hg:Gl X x) (hm:X.mg x=some u) (h:Q u s)
  (hd:(x == ("__debug__" : Str))=false:=by decide):wpAny (model X.prog X.w) X.A (eval (.Name x pos) X.env) Q E s :=
 Calls.Name_function_global I.ok.kind hg (Calls.loadGlobal_global (by rw [I.ok.glob]; exact I.mod.glob.keeps I.bk) hm h) hd
theorem ld_blt {E:Value->Shared->Prop} {pins:List (Addr × Obj)} {s:Shared} {σ:St} {H:Hp} {x:Str} {u:Value} {pos:Pos} {Q:Value->Shared->Prop} (I:Inv X pins σ H s) (hg:Gl X x) (hm:X.mg x=none) (hv:bootBuiltins x=some u) (h:Q u s)
  (hn:x ≠ "__name__" := by decide) (hd:(x == ("__debug__" : Str))=false:=by decide):wpAny (model X.prog X.w) X.A (eval (.Name x pos) X.env) Q E s:=by
 obtain ⟨mb,h1,h2⟩:=I.mod.blt
 exact Calls.Name_function_global I.ok.kind hg (Calls.loadGlobal_builtin (by rw [I.ok.glob]; exact I.mod.glob.keeps I.bk) hm (by rw [I.ok.blt]; exact h1.keeps I.bk) ((h2 x hn).trans hv) h) hd
variable {a b:Expr} {pos:Pos}
def tB (t:TE):TT:=fun σ H Q=>t σ H fun x H1=>∃ c,x=.bl c/\Q c H1
variable {tA tB':TT} {rest:List Expr}
def tAnd (t u:TT):TT:=fun σ H Q=>t σ H fun c H1=>if c=true then u σ H1 Q else Q false H1
def tOr (t u:TT):TT:=fun σ H Q=>t σ H fun c H1=>if c=true then Q true H1 else u σ H1 Q
theorem pw_and1 (ha:PT X a tA):PW X (.BoolOp .And [a] pos) tA:=by
 intro wh pins s σ H Q I h
 refine isTrue_and (thn (ha pins s σ H Q I h) fun c s1 e=>?_)
 cases c with
 | true=>exact isTrue_and_nil e
 | false=>exact e
theorem pw_or1 (ha:PT X a tA):PW X (.BoolOp .Or [a] pos) tA:=by
 intro wh pins s σ H Q I h
 refine isTrue_or (thn (ha pins s σ H Q I h) fun c s1 e=>?_)
 cases c with
 | false=>exact isTrue_or_nil e
 | true=>exact e
theorem pw_and (ha:PT X a tA) (hb:PW X (.BoolOp .And (b :: rest) pos) tB'):PW X (.BoolOp .And (a :: b :: rest) pos) (tAnd tA tB'):=by
 intro wh pins s σ H Q I h
 refine isTrue_and (thn (ha pins s σ H _ I h) fun c s1 hx9=>?_)
 obtain ⟨H1,I1,q1⟩:=hx9
 cases c with
 | true=>exact hb wh pins s1 σ H1 Q I1 q1
 | false=>exact ⟨H1,I1,q1⟩
theorem pw_or (ha:PT X a tA) (hb:PW X (.BoolOp .Or (b :: rest) pos) tB'):PW X (.BoolOp .Or (a :: b :: rest) pos) (tOr tA tB'):=by
 intro wh pins s σ H Q I h
 refine isTrue_or (thn (ha pins s σ H _ I h) fun c s1 hx9=>?_)
 obtain ⟨H1,I1,q1⟩:=hx9
 cases c with
 | true=>exact ⟨H1,I1,q1⟩
 | false=>exact hb wh pins s1 σ H1 Q I1 q1
end
def SqL (K:PySem.W.Frag) (H:Hp) (a:Addr) (xs:List V):Prop :=
 Rd H a (.lst xs) \/
  ∃ (o:Obj) (its:Array Value) (n:Nat),K.lookup a=some o/\o.cls=.type "list"/\o.dict=none/\o.data=.seq its n/\its.size<=sizeLine/\Vals xs its.toList
def SqT (K:PySem.W.Frag) (H:Hp) (a:Addr) (xs:List V):Prop :=
 Rd H a (.tup xs) \/
  ∃ (o:Obj) (its:Array Value) (n:Nat),K.lookup a=some o/\o.cls=.type "tuple"/\o.data=.seq its n/\its.size<=sizeLine/\Vals xs its.toList
def absV:Value->Option V
 | .none=>some .non
 | .bool b=>some (.bl b)
 | .int i _=>some (.int i)
 | .str x _=>some (.str x)
 | .bytes b _=>some (.byt b)
 | .float b _=>some (.flt b)
 | .ref a=>some (.ref a)
 | .type n=>some (.ty n)
 | _=>none
theorem RelV.abs {x:V} {u:Value} (r:RelV x u):absV u=some x:=by
 cases x with
 | non=>cases r; rfl
 | bl _=>cases r; rfl
 | int _=>obtain ⟨t,rfl⟩:=r; rfl
 | str _=>obtain ⟨t,rfl⟩:=r; rfl
 | byt _=>obtain ⟨t,rfl⟩:=r; rfl
 | flt _=>obtain ⟨t,rfl⟩:=r; rfl
 | ref _=>cases r; rfl
 | ty _=>cases r; rfl
theorem RelV.inj {x y:V} {u:Value} (r:RelV x u) (q:RelV y u):x=y:=Option.some.inj (r.abs.symm.trans q.abs)
theorem Vals.inj:∀ {xs ys:List V} {us:List Value},Vals xs us->Vals ys us->xs=ys
 | _,_,_,.nil,.nil=>rfl
 | _,_,_,.cons r t,.cons r' t'=>by rw [r.inj r',Vals.inj t t']
section
variable {X:Cx} {pins:List (Addr × Obj)} {σ:St} {H:Hp} {s:Shared} {a:Addr} {xs ys:List V}
theorem Inv.list (I:Inv X pins σ H s) (h:SqL X.K H a xs):∃ its:List Value,Vals xs its/\PlainL s.heap a its.toArray/\xs.length<=sizeLine:=by
 rcases h with h | ⟨o,its,n,hk,hc,hd,hs,hz,r⟩
 ·obtain ⟨z,its,n,r,e⟩:=h.ok I.hok
  exact ⟨its,r,⟨_,n,e,rfl,rfl,rfl⟩,z⟩
 ·refine ⟨its.toList,r,⟨o,n,I.kIn a o hk,hc,hd,by simpa using hs⟩,?_⟩
  have e:=r.length
  simp only [xa2] at e
  lia
theorem Inv.tuple (I:Inv X pins σ H s) (h:SqT X.K H a xs):∃ its:List Value,Vals xs its/\IsTup s.heap a its.toArray/\xs.length<=sizeLine:=by
 rcases h with h | ⟨o,its,n,hk,hc,hs,hz,r⟩
 ·obtain ⟨z,its,r,p⟩:=h.ok I.hok
  exact ⟨its,r,p,z⟩
 ·refine ⟨its.toList,r,⟨o,I.kIn a o hk,hc,n,by simpa using hs⟩,?_⟩
  have e:=r.length
  simp only [xa2] at e
  lia
theorem Inv.list_inj (I:Inv X pins σ H s) (h:SqL X.K H a xs) (h':SqL X.K H a ys):xs=ys:=by
 obtain ⟨its,r,⟨o,n,e,_,_,d⟩,_⟩:=I.list h
 obtain ⟨its',r',⟨o',n',e',_,_,d'⟩,_⟩:=I.list h'
 rw [e] at e'; cases e'
 rw [d] at d'
 injection d' with d1 _
 have:its=its':=by simpa using congrArg Array.toList d1
 subst this
 exact r.inj r'
end
abbrev Cx.wish (X:Cx) (E:Value->Shared->Prop):Cx:={ X with xe:=E }
abbrev Cx.nox (X:Cx):Cx:=X.wish fun _ _=>False
theorem Cx.Ok.wish {X:Cx} (ok:X.Ok) (E:Value->Shared->Prop):(X.wish E).Ok :=
 ⟨ok.mod,ok.kind,ok.glob,ok.blt,ok.above,ok.inj,ok.has,ok.cab,ok.hd,ok.frames,ok.stk,ok.exf,ok.bs,ok.bsz,ok.noex,ok.exfs,ok.funs,ok.frf⟩
theorem Cx.Ok.unwish {X:Cx} {E:Value->Shared->Prop} (ok:(X.wish E).Ok):X.Ok :=
 ⟨ok.mod,ok.kind,ok.glob,ok.blt,ok.above,ok.inj,ok.has,ok.cab,ok.hd,ok.frames,ok.stk,ok.exf,ok.bs,ok.bsz,ok.noex,ok.exfs,ok.funs,ok.frf⟩
section
variable {X:Cx} {pins:List (Addr × Obj)} {σ:St} {H:Hp} {s:Shared} {E:Value->Shared->Prop}
theorem Inv.wish (I:Inv X pins σ H s) (E:Value->Shared->Prop):Inv (X.wish E) pins σ H s:=⟨I.ok.wish E,I.os,I.bare,I.base,I.loc,I.cell,I.free,I.freeC,I.pin,I.hok,I.len⟩
theorem Inv.unwish (I:Inv (X.wish E) pins σ H s):Inv X pins σ H s:=⟨I.ok.unwish,I.os,I.bare,I.base,I.loc,I.cell,I.free,I.freeC,I.pin,I.hok,I.len⟩
theorem SP.unwish {D:Ends} {f:Flow} {s':Shared} (h:SP (X.wish E) pins D f s'):SP X pins D f s':=by
 cases f with
 | next=>obtain ⟨σ',H',I,q⟩:=h; exact ⟨σ',H',I.unwish,q⟩
 | brk=>obtain ⟨σ',H',I,q⟩:=h; exact ⟨σ',H',I.unwish,q⟩
 | cont=>obtain ⟨σ',H',I,q⟩:=h; exact ⟨σ',H',I.unwish,q⟩
 | ret u=>obtain ⟨v,σ',H',I,r,q⟩:=h; exact ⟨v,σ',H',I.unwish,r,q⟩
theorem PSs.nox {st:List Stmt} {t:TS} (h:PSs X.nox st t):PSs X st t:=fun pins s σ H D I hw =>
 xba (h pins s σ H D (I.wish _) hw) (fun _ _ q=>q.unwish) fun _ _ z=>False.elim z
end
section
variable {X:Cx} {st:Stmt} {rest:List Stmt} {t u:TS} {e:Expr} {te:TE} {pos:Pos}
def tNext:TS:=fun D σ H=>D.nx σ H
def tSeq (t u:TS):TS:=fun D σ H=>t { D with nx:=u D } σ H
theorem pss_nil:PSs X [] tNext:=fun _ _ σ H _ I h=>wpAny_execs_nil ⟨σ,H,I,h⟩
theorem pss_cons (h1:PS X st t) (h2:PSs X rest u):PSs X (st :: rest) (tSeq t u):=by
 intro pins s σ H D I h
 refine wpAny_execs_cons (thn (h1 pins s σ H { D with nx:=u D } I h) fun f s1 q=>?_)
 cases f with
 | next =>
  obtain ⟨σ',H',I',q⟩:=q
  exact h2 pins s1 σ' H' D I' q
 | ret v=>exact q
 | brk=>exact q
 | cont=>exact q
theorem pss_one (h1:PS X st t):PSs X [st] t:=by
 intro pins s σ H D I h
 refine wpAny_execs_cons (thn (h1 pins s σ H D I h) fun f s1 q=>?_)
 cases f with
 | next=>exact wpAny_execs_nil q
 | ret v=>exact q
 | brk=>exact q
 | cont=>exact q
theorem Inv.quiet {pins:List (Addr × Obj)} {σ:St} {H:Hp} {s:Shared} (I:Inv X pins σ H s):interactive X.env=false:=by simp [interactive,I.ok.kind]
def tDrop (te:TE):TS:=fun D σ H=>te σ H fun _ H1=>D.nx σ H1
theorem ps_expr (he:PE X e te) (hs:swapsWith e none pos.line X.env=pure false:=by rfl):PS X (.Expr e pos) (tDrop te):=by
 intro pins s σ H D I h
 exact wpAny_Expr_any (thn (he pins s σ H _ I h) fun v s1 hx5=>L2.ex2 hx5 fun x H1 I1 r1 q1=>⟨σ,H1,I1,q1⟩) I.quiet hs
def tRet (te:TE):TS:=fun D σ H=>te σ H D.rt
theorem ps_ret (he:PE X e te):PS X (.Return (some e) pos) (tRet te):=by
 intro pins s σ H D I h
 exact wpAny_Return_some (thn (he pins s σ H _ I h) fun v s1 hx5=>L2.ex2 hx5 fun x H1 I1 r1 q1=>⟨x,σ,H1,I1,r1,q1⟩)
def tIfS (c:TT) (t u:TS):TS:=fun D σ H=>c σ H fun b H1=>if b=true then t D σ H1 else u D σ H1
theorem ps_if {c:Expr} {a b:List Stmt} {tc:TT} (hc:PT X c tc) (ha:PSs X a t) (hb:PSs X b u):PS X (.If c a b pos) (tIfS tc t u):=by
 intro pins s σ H D I h
 refine wpAny_If (thn (hc pins s σ H _ I h) fun d s1 hx9=>?_)
 obtain ⟨H1,I1,q1⟩:=hx9
 cases d with
 | true=>exact ha pins s1 σ H1 D I1 q1
 | false=>exact hb pins s1 σ H1 D I1 q1
end
abbrev TG:=V->St->Hp->(St->Hp->Prop)->Prop
abbrev TGs:=List V->St->Hp->(St->Hp->Prop)->Prop
def PG (X:Cx) (target:Expr) (t:TG):Prop :=
 ∀ (pins:List (Addr × Obj)) (s:Shared) (σ:St) (H:Hp) (v:V) (u:Value) (Q:St->Hp->Prop),Inv X pins σ H s->RelV v u->t v σ H Q ->
  wpAny (model X.prog X.w) X.A (assign target X.env u) (fun _ s'=>∃ σ' H',Inv X pins σ' H' s'/\Q σ' H') X.xe s
def PGs (X:Cx) (ts:List Expr) (t:TGs):Prop :=
 ∀ (pins:List (Addr × Obj)) (s:Shared) (σ:St) (H:Hp) (vs:List V) (us:List Value) (Q:St->Hp->Prop),Inv X pins σ H s->Vals vs us->t vs σ H Q ->
  wpAny (model X.prog X.w) X.A (assignInOrder ((assignEach ts X.env).map (·.2)) us) (fun _ s'=>∃ σ' H',Inv X pins σ' H' s'/\Q σ' H') X.xe s
section
variable {X:Cx} {pos:Pos}
def gName (i:Nat):TG:=fun v σ H Q=>Q (σ.set i (some v)) H
theorem pg_name {i:Nat} {x:Str} (hN:X.N.Nodup) (hi:X.N[i]? = some x) (hx:Loc X.env.scope x) (hf:X.fn x=true\/X.env.scope.names.lookup x=some .local:=by first | exact .inl rfl | exact .inr rfl | assumption):PG X (.Name x pos) (gName i):=by
 intro pins s σ H v u Q I r h
 exact wpAny_assign_Name (store_ok I hN hi hx r (fun s' I'=>⟨_,H,I',h⟩) hf)
def gNil:TGs:=fun vs σ H Q=>vs=[]/\Q σ H
def gCons (t:TG) (u:TGs):TGs:=fun vs σ H Q=>∃ v r,vs=v :: r/\t v σ H fun σ' H'=>u r σ' H' Q
theorem pgs_nil:PGs X [] gNil:=by
 intro pins s σ H vs us Q I r h
 obtain ⟨e,h⟩:=h
 subst e
 cases r
 exact assignInOrder_nil ⟨σ,H,I,h⟩
theorem pgs_cons {e:Expr} {es:List Expr} {t:TG} {u:TGs} (h1:PG X e t) (h2:PGs X es u)
  (hs:(assignEach (e :: es) X.env).map (·.2)=assign e X.env :: (assignEach es X.env).map (·.2):=by rfl):PGs X (e :: es) (gCons t u):=by
 intro pins s σ H vs us Q I r h
 obtain ⟨v,vr,e1,h⟩:=h
 subst e1
 cases r with
 | cons r rr =>
  rw [hs]
  refine assignInOrder_cons (thn (h1 pins s σ H _ _ _ I r h) fun _ s1 hx9=>?_)
  obtain ⟨σ1,H1,I1,q1⟩:=hx9
  exact h2 pins s1 σ1 H1 _ _ Q I1 rr q1
def gTup (K:PySem.W.Frag) (n:Nat) (t:TGs):TG:=fun v σ H Q=>∃ a xs,v=.ref a/\SqT K H a xs/\xs.length=n/\t xs σ H Q
theorem pg_tup {es:List Expr} {k:Nat} {t:TGs} {n:Nat} (hc:X.calm=true) (h:PGs X es t)
  (hn:(assignEach es X.env).length=n:=by rfl) (hst:(assignEach es X.env).findIdx? (·.1)=none:=by rfl):PG X (.Tuple es k pos) (gTup X.K n t):=by
 intro pins s σ H v u Q I r hw
 obtain ⟨a,xs,e1,hq,hl,hw⟩:=hw
 subst e1
 cases r
 obtain ⟨its,rv,ht,hz⟩:=I.tuple hq
 refine assign_Tuple_tuple (I.ok.hd hc) ht (by simp [hn,<- hl,rv.length]) hst fun h' hx=>?_
 have I1:Inv X pins σ H { s with heap:=h' }:=I.kept (t':=s.toks) fun b o e=>hx b o (xaw (xan e)) e
 exact h pins _ σ H xs _ Q I1 (by simpa using rv) hw
def tAsg (te:TE) (g:TG):TS:=fun D σ H=>te σ H fun x H1=>g x σ H1 D.nx
theorem ps_asg {tg e:Expr} {te:TE} {g:TG} (he:PE X e te) (hg:PG X tg g) (hs:swapsWithSole [tg] e pos.line X.env=pure false:=by rfl) (hw:swappedStores [tg] e X.env=pure none:=by rfl)
  (h1:(assignEach [tg] X.env).map (·.2)=[assign tg X.env]:=by rfl):PS X (.Assign [tg] e pos) (tAsg te g):=by
 intro pins s σ H D I h
 refine wpAny_Assign_stores (thn (he pins s σ H _ I h) fun v s1 hx5=>L2.ex2 hx5 fun x H1 I1 r1 q1=>?_) hs hw
 rw [h1]
 exact thn (hg pins s1 σ H1 x v _ I1 r1 q1) fun _ s2 q=>q
theorem ps_set {i:Nat} {x:Str} {e:Expr} {te:TE} {pos':Pos} (hN:X.N.Nodup) (hi:X.N[i]? = some x) (hx:Loc X.env.scope x) (he:PE X e te) (hs:swapsWith e (some (.Name x pos')) pos.line X.env=pure false:=by rfl) (hf:X.fn x=true\/X.env.scope.names.lookup x=some .local:=by first | exact .inl rfl | exact .inr rfl | assumption) :
  PS X (.Assign [.Name x pos'] e pos) (tAsg te (gName i)):=by
 intro pins s σ H D I h
 refine wpAny_Assign_Name (thn (he pins s σ H _ I h) fun v s1 hx5=>L2.ex2 hx5 fun y H1 I1 r1 q1=>?_) hs
 exact store_ok I1 hN hi hx r1 (fun s2 I2=>⟨_,H1,I2,q1⟩) hf
end
section
variable {X:Cx} {pos:Pos}
def tWhile (c:TT) (tb:TS):TS:=fun D σ H=>∃ W:Nat->St->Hp->Prop,(∃ m,W m σ H)/\∀ m σ H,W m σ H ->
 c σ H fun b H1=>if b=true then ∃ N:St->Hp->Prop,(∀ σ' H',N σ' H'->∃ m',m'<m/\W m' σ' H')/\tb { D with nx:=N,ct:=N,bk:=D.nx } σ H1 else D.nx σ H1
theorem ps_while {c:Expr} {body:List Stmt} {tc:TT} {tb:TS} (hp:PassesOwn (model X.prog X.w) X.A X.env X.xe) (hc:PT X c tc) (hb:PSs X body tb):PS X (.While c body [] pos) (tWhile tc tb):=by
 intro pins s σ H D I h
 obtain ⟨W,⟨m0,w0⟩,turn⟩:=h
 refine wpAny_While (codeAny_whileLoop (fun n s'=>∃ σ' H',Inv X pins σ' H' s'/\W n σ' H') ?_ m0 ⟨σ,H,I,w0⟩)
 rintro n s1 ⟨σ1,H1,I1,w1⟩
 refine wpAny_passesOwn hp (thn (hc pins s1 σ1 H1 _ I1 (turn n σ1 H1 w1)) fun b s2 hx9=>?_)
 obtain ⟨H2,I2,q2⟩:=hx9
 cases b with
 | true =>
  obtain ⟨N,hN,q2⟩:=q2
  rw [if_pos rfl]
  refine wpAny_passesOwn hp (thn (hb pins s2 σ1 H2 _ I2 q2) fun f s3 q3=>?_)
  cases f with
  | next =>
   obtain ⟨σ3,H3,I3,n3⟩:=q3
   obtain ⟨m',hm,w3⟩:=hN σ3 H3 n3
   exact ⟨m',hm,σ3,H3,I3,w3⟩
  | cont =>
   obtain ⟨σ3,H3,I3,n3⟩:=q3
   obtain ⟨m',hm,w3⟩:=hN σ3 H3 n3
   exact ⟨m',hm,σ3,H3,I3,w3⟩
  | brk=>exact q3
  | ret v=>exact q3
 | false =>
  rw [if_neg xap]
  exact wpAny_execs_nil ⟨σ1,H2,I2,q2⟩
end
structure It where
 go:Nat->Hp->Prop
 yld:Nat->Hp->V->Hp->Prop
 stop:Nat->Hp->Prop
def FpOk (X:Cx) (pins:List (Addr × Obj)) (H:Hp) (b:Addr):Prop :=
 H b=none/\b≠X.env.locals/\b∉X.fs/\(b∈X.ex\/X.s₀.heap.objs.size<=b)/\(∀ x c,X.env.cells.lookup x=some c->c≠b)/\∀ p∈X.pn++pins,p.1≠b
theorem Inv.fpOk {X:Cx} {pins:List (Addr × Obj)} {σ:St} {H H':Hp} {s:Shared} {b:Addr} (I:Inv X pins σ H s) (hb:s.heap.objs.size<=b) (hn:H' b=none):FpOk X pins H' b:=by
 refine ⟨hn,xbX (xau I.lt hb),I.nofs hb,.inr (xaA I.sz hb),fun x c e z=>?_,fun p hp z=>?_⟩
 ·obtain ⟨v,q⟩:=I.cell x c e
  exact absurd (xau q.lt (by rw [z]; exact hb)) (xaW _)
 ·exact absurd (xau (xan (I.pin p hp).1) (by rw [z]; exact hb)) (xaW _)
structure Turn (P:Program) (w:World) (K:PySem.W.Frag) (tg:Expr) (J:It) (fp:List Addr) (it:Addr) (tn:Nat->Heap->Prop):Prop where
 mem:it∈fp
 obj:∀ i h,tn i h->∀ b∈fp,∃ o,h.get? b=some o/\∀ v,o.data≠.cell v
 keep:∀ i h h',tn i h->(∀ b∈fp,∀ o,h.get? b=some o->h'.get? b=some o)->tn i h'
 item:∀ (X:Cx),X.prog=P->X.w=w->X.K=K->X.calm=true->∀ (i:Nat) (pins:List (Addr × Obj)) (s:Shared) (σ:St) (H:Hp) (E:Value->Shared->Prop),Inv X pins σ H s->(∀ b∈fp,FpOk X pins H b)->tn i s.heap->J.go i H ->
  wpAny (model P w) X.A (pyNext (.ref it)) (fun r s1=>∃ u,r=some u /\
   wpAny (model P w) X.A (letOwnedTupleGo tg (.ref it) u) (fun _ s2=>∃ x H',Inv X pins σ H' s2/\RelV x u/\J.yld i H x H'/\tn (i+1) s2.heap/\∀ b∈fp,H' b=none) E s1) E s
 done:∀ (X:Cx),X.prog=P->X.w=w->X.K=K->X.calm=true->∀ (i:Nat) (pins:List (Addr × Obj)) (s:Shared) (σ:St) (H:Hp) (E:Value->Shared->Prop),Inv X pins σ H s->(∀ b∈fp,FpOk X pins H b)->tn i s.heap->J.stop i H ->
  wpAny (model P w) X.A (pyNext (.ref it)) (fun r s1=>r=none/\Inv X pins σ H s1) E s
 self:∀ (A:Around) (i:Nat) (s:Shared) (Q:Value->Shared->Prop) (E:Value->Shared->Prop),tn i s.heap->Q (.ref it) s->wpAny (model P w) A (pyIter (.ref it)) Q E s
abbrev TI:=St->Hp->(It->Hp->Prop)->Prop
def PIE (X:Cx) (pins:List (Addr × Obj)) (σ:St) (tg:Expr) (R:It->Hp->Prop) (itv:Value) (s2:Shared):Prop :=
 ∃ (it:Addr) (fp:List Addr) (tn:Nat->Heap->Prop) (J:It) (H':Hp),itv=.ref it/\Inv X pins σ H' s2/\Turn X.prog X.w X.K tg J fp it tn/\tn 0 s2.heap/\(∀ b∈fp,FpOk X pins H' b)/\R J H'
def PI (X:Cx) (tg iter:Expr) (wi:TI):Prop :=
 ∀ (pins:List (Addr × Obj)) (s:Shared) (σ:St) (H:Hp) (R:It->Hp->Prop),Inv X pins σ H s->wi σ H R ->
  wpAny (model X.prog X.w) X.A (eval iter X.env) (fun v s1=>wpAny (model X.prog X.w) X.A (pyIter v) (PIE X pins σ tg R) X.xe s1) X.xe s
theorem go_of {M:Model} {A:Around} {E:Value->Shared->Prop} {s:Shared} {tg:Expr} {it:Addr} {u:Value} {o:Obj} {n:String} {vs:Array Value} {Q:Unit->Shared->Prop} (ho:s.heap.get? it=some o) (hc:o.cls=.type n) (hd:o.data=.fields vs)
  (hn:["enumerate", "zip", "dict_itemiterator", "dict_reverseitemiterator", "odict_iterator", "itertools.zip_longest", "itertools.pairwise"].contains n=false) (hQ:Q () s):wpAny M A (letOwnedTupleGo tg (.ref it) u) Q E s:=by
 unfold letOwnedTupleGo
 cases tg <;> first
  | exact xac hQ
  | (cases u <;> first
     | exact xac hQ
     | (refine xaa (wpAny_load ho ?_)
        rw [hc,hd]
        show wpAny M A (if (["enumerate", "zip", "dict_itemiterator", "dict_reverseitemiterator", "odict_iterator", "itertools.zip_longest", "itertools.pairwise"].contains n && vs[0]? == some (rawInt _))=true then _ else _) Q E s
        rw [if_neg (by intro h; rw [hn,Bool.false_and] at h; cases h)]
        exact xac hQ))
def Itl (K:PySem.W.Frag) (a:Addr):It :=
 ⟨fun i H=>∃ xs x,SqL K H a xs/\xs[i]? = some x,fun i H x H'=>H'=H/\∀ xs,SqL K H a xs->xs[i]? = some x,fun i H=>∃ xs,SqL K H a xs/\xs.length<=i⟩
def Itr (lo:Int) (n:Nat):It:=⟨fun i _=>i<n,fun i H x H'=>H'=H/\x=.int (lo+i),fun i _=>n<=i⟩
theorem turn_list {P:Program} {w:World} {K:PySem.W.Frag} {tg:Expr} (a it:Addr):Turn P w K tg (Itl K a) [it] it (fun i h=>h.IsListIter it a i) where
 mem:=by simp
 obj:=fun i h st b hb=>by
  have e:b=it:=by simpa using hb
  subst e
  obtain ⟨o,e,c,d⟩:=st
  exact ⟨o,e,fun v z=>by rw [d] at z; cases z⟩
 keep:=fun i h h' st k=>st.at fun o e=>k it (by simp) o e
 item:=by
  intro X hP hw hK hc i pins s σ H E I hf st hg
  subst hP hw hK
  obtain ⟨xs,x,hq,hx⟩:=hg
  obtain ⟨its,rv,p,hz⟩:=I.list hq
  obtain ⟨u,hu,ru⟩:=rv.get hx
  obtain ⟨f0,f1,f2,f3,f4,f5⟩:=hf it (by simp)
  refine wpAny_pyNext_list_item st p.isList (x:=u) (by simpa using hu) fun h' st' sb=>?_
  have I1:Inv X pins σ H { s with heap:=h' }:=I.turned (t':=s.toks) (fun b o hb e=>(sb.2 b hb).trans e) f0 f1 f3 f4 f5
  obtain ⟨o,e,c,d⟩:=id st'
  exact ⟨u,rfl,go_of (s:={ s with heap:=h' }) e c d (by decide) ⟨x,H,I1,ru,⟨rfl,fun ys hy=>by rw [I.list_inj hy hq]; exact hx⟩,st',fun b hb=>(hf b hb).1⟩⟩
 done:=by
  intro X hP hw hK hc i pins s σ H E I hf st hg
  subst hP hw hK
  obtain ⟨xs,hq,hx⟩:=hg
  obtain ⟨its,rv,p,hz⟩:=I.list hq
  obtain ⟨f0,f1,f2,f3,f4,f5⟩:=hf it (by simp)
  have hl:=rv.length
  exact wpAny_pyNext_list_end (I.ok.hd hc) st p.isList (by simp; lia) fun h' eb=>⟨rfl,I.turned (t':=s.toks) (fun b o hb e=>eb b o hb e) f0 f1 f3 f4 f5⟩
 self:=fun _ _ _ _ _ st h=>wpAny_pyIter_listiter st h
theorem turn_range {P:Program} {w:World} {K:PySem.W.Frag} {tg:Expr} (it:Addr) (lo:Int) (n:Nat):Turn P w K tg (Itr lo n) [it] it (fun i h=>IsRangeIter h it (lo+(i:Nat) * 1) ((n:Int) - (i:Nat)) 1) where
 mem:=by simp
 obj:=fun i h st b hb=>by
  have e:b=it:=by simpa using hb
  subst e
  exact ⟨_,st,fun v z=>by
   have z':Data.fields _=Data.cell v:=z
   cases z'⟩
 keep:=fun i h h' st k=>k it (by simp) _ st
 item:=by
  intro X hP hw hK hc i pins s σ H E I hf st hg
  subst hP hw hK
  obtain ⟨f0,f1,f2,f3,f4,f5⟩:=hf it (by simp)
  have W:=Walks.range (prog:=X.prog) (w:=X.w) (I.ok.hd hc) it lo 1 n
  refine W.item i s _ _ hg st fun v h' tk hv st' kk=>?_
  obtain ⟨t,rfl⟩:=hv
  have I1:Inv X pins σ H { s with heap:=h',toks:=tk }:=I.turned (fun b o hb e=>kk b o (by simpa using hb) e) f0 f1 f3 f4 f5
  refine ⟨_,rfl,go_of (s:={ s with heap:=h',toks:=tk }) (n := "range_iterator") st' rfl rfl (by decide) ⟨.int (lo+i),H,I1,⟨t,?_⟩,⟨rfl,rfl⟩,st',fun b hb=>(hf b hb).1⟩⟩
  rw [Int.mul_one]
 done:=by
  intro X hP hw hK hc i pins s σ H E I hf st hg
  subst hP hw hK
  obtain ⟨f0,f1,f2,f3,f4,f5⟩:=hf it (by simp)
  exact wpAny_pyNext_range_end (I.ok.hd hc) st (by have:n<=i:=hg; lia) fun h' eb=>⟨rfl,I.turned (t':=s.toks) (fun b o hb e=>eb b o hb e) f0 f1 f3 f4 f5⟩
 self:=fun _ _ _ _ _ st h=>wpAny_pyIter_rangeiter st h
section
variable {X:Cx} {tg:Expr}
def iList (K:PySem.W.Frag) (tl:TE):TI:=fun σ H R=>tl σ H fun x H1=>∃ a,x=.ref a/\(∃ xs,SqL K H1 a xs)/\R (Itl K a) H1
theorem pi_list {l:Expr} {tl:TE} (hl:PE X l tl):PI X tg l (iList X.K tl):=by
 intro pins s σ H R I h
 refine thn (hl pins s σ H _ I h) fun v s1 hx5=>L2.ex2 hx5 fun x H1 I1 r1 q1=>?_
 obtain ⟨a,e,⟨xs,hq⟩,q⟩:=q1
 subst e
 cases r1
 obtain ⟨its,rv,p,hz⟩:=I1.list hq
 refine wpAny_pyIter_list p.isList ?_
 refine ⟨s1.heap.objs.size,[s1.heap.objs.size],_,_,H1,rfl,I1.kept (t':=s1.toks) fun b o e=>xae _ e,turn_list a _,⟨_,xaq _ rfl,rfl,rfl⟩,fun b hb=>?_,q⟩
 have e:b=s1.heap.objs.size:=by simpa using hb
 subst e
 exact I1.fpOk (xaf _) (I1.hok.fresh (xaf _))
theorem range_it {pins:List (Addr × Obj)} {σ:St} {H:Hp} {s:Shared} {R:It->Hp->Prop} {E:Value->Shared->Prop} {lo hi:Int} {t u v:Tok} {tk:Nat} (I:Inv X pins σ H s) (h1:-(2 ^ 62)<=lo) (h2:lo<2 ^ 62) (h3:-(2 ^ 62)<=hi) (h4:hi<2 ^ 62)
  (q:R (Itr lo (hi - lo).toNat) H):wpAny (model X.prog X.w) X.A (pyIter (.ref s.heap.objs.size)) (PIE X pins σ tg R) E { s with heap:=s.heap.push { cls:=.type "range",data:=.fields #[.int lo t,.int hi u,.int 1 v] },toks:=tk }:=by
 refine wpAny_pyIter_range (IsRange.new ..) (small_one h1 h2 h3 h4) ?_
 have I1:Inv X pins σ H { s with heap:=s.heap.push { cls:=.type "range",data:=.fields #[.int lo t,.int hi u,.int 1 v] },toks:=tk }:=I.kept fun b o e=>xae _ e
 refine ⟨(s.heap.push { cls:=.type "range",data:=.fields #[.int lo t,.int hi u,.int 1 v] }).objs.size,[(s.heap.push { cls:=.type "range",data:=.fields #[.int lo t,.int hi u,.int 1 v] }).objs.size],_,_,H,rfl,
  I1.kept (t':=tk) fun b o e=>xae _ e,turn_range _ lo (hi - lo).toNat,?_,fun b hb=>?_,q⟩
 ·have e1:lo+((0:Nat):Int) * 1=lo:=by simp
  have e2:(((hi - lo).toNat:Nat):Int) - ((0:Nat):Int)=Builtin.Range.rangeSize lo hi 1:=by rw [rangeSize_one]; split <;> lia
  show IsRangeIter _ _ (lo+((0:Nat):Int) * 1) ((((hi - lo).toNat:Nat):Int) - ((0:Nat):Int)) 1
  rw [e1,e2]
  exact xaq _ rfl
 ·have e:b=(s.heap.push { cls:=.type "range",data:=.fields #[.int lo t,.int hi u,.int 1 v] }).objs.size:=by simpa using hb
  subst e
  exact I1.fpOk (xaf _) (I1.hok.fresh (xaf _))
def iRng1 (ta:TA):TI:=fun σ H R=>ta σ H fun vs H1=>∃ j:Int,vs=[.int j]/\-(2 ^ 62)<=j/\j<2 ^ 62/\R (Itr 0 j.toNat) H1
theorem pi_range1 {a:Expr} {ta:TA} {p pos:Pos} (hg:Gl X "range") (hm:X.mg "range" = none) (ha:PA X [a] ta) (hs:starEach [a] X.env=[(false,eval a X.env)]:=by rfl):PI X tg (.Call (.Name "range" p) [a] [] pos) (iRng1 ta):=by
 intro pins s σ H R I h
 refine Call_ (ld_blt I hg hm boot_range (PyProof.Rows.callWith_type1 (thn (ha pos pins s σ H _ I h) fun us s1 hx5=>L2.ex2 hx5 fun vs H1 I1 r1 q1=>?_) hs rfl))
 obtain ⟨j,e,q1,q2,q⟩:=q1
 subst e
 cases r1 with
 | cons r rr =>
  cases rr
  obtain ⟨t,rfl⟩:=r
  exact call_range_1 (range_it I1 (by decide) (by decide) q1 q2 (by simpa using q))
def tFor (wi:TI) (g:TG) (tb:TS):TS:=fun D σ H=>wi σ H fun J H1=>∃ W:Nat->Nat->St->Hp->Prop,(∃ m,W 0 m σ H1)/\∀ i m σ H,W i m σ H ->
 (J.stop i H/\D.nx σ H)\/(J.go i H/\∃ N:St->Hp->Prop,(∀ σ' H',N σ' H'->∃ m',m'<m/\W (i+1) m' σ' H')/\∀ x H',J.yld i H x H'->g x σ H' fun σ2 H2=>tb { D with nx:=N,ct:=N,bk:=D.nx } σ2 H2)
def pinsAt (fp:List Addr) (h:Heap):List (Addr × Obj):=fp.filterMap fun b=>(h.get? b).map fun o=>(b,o)
theorem mem_pinsAt {fp:List Addr} {h:Heap} {b:Addr} {o:Obj} (hb:b∈fp) (e:h.get? b=some o):(b,o)∈pinsAt fp h:=xcj.mpr ⟨b,hb,by rw [e]; rfl⟩
theorem of_pinsAt {fp:List Addr} {h:Heap} {p:Addr × Obj} (hp:p∈pinsAt fp h):p.1∈fp/\h.get? p.1=some p.2:=by
 obtain ⟨b,hb,e⟩:=xcj.mp hp
 cases q:h.get? b with
 | none=>rw [q] at e; cases e
 | some o =>
  rw [q] at e
  have e':(b,o)=p:=Option.some.inj e
  subst e'
  exact ⟨hb,q⟩
theorem Inv.pinned {pins:List (Addr × Obj)} {σ:St} {H:Hp} {s:Shared} {fp:List Addr} (I:Inv X pins σ H s) (hf:∀ b∈fp,FpOk X pins H b) (ho:∀ b∈fp,∃ o,s.heap.get? b=some o/\∀ v,o.data≠.cell v):Inv X (pins++pinsAt fp s.heap) σ H s :=
 I.pins_of fun p hp=>(xai.mp hp).elim (fun z=>I.pin p (xah _ z)) fun z=>by
  obtain ⟨hb,e⟩:=of_pinsAt z
  obtain ⟨f0,f1,f2,_⟩:=hf p.1 hb
  obtain ⟨o,e',d⟩:=ho p.1 hb
  rw [e] at e'; cases e'
  exact ⟨e,f0,f1,f2,d⟩
theorem Inv.unpinned {pins pl:List (Addr × Obj)} {σ:St} {H:Hp} {s:Shared} (I:Inv X (pins++pl) σ H s):Inv X pins σ H s:=I.pins_of fun p hp=>I.pin p (xah _ (xay _ hp))
theorem ps_for {iter:Expr} {body:List Stmt} {wi:TI} {g:TG} {tb:TS} {pos:Pos} (hp:PassesOwn (model X.prog X.w) X.A X.env X.xe) (hc:X.calm=true) (hi:PI X tg iter wi) (hg:PG X tg g) (hb:PSs X body tb)
  (hs:∀ x,foldedSetIterable iter X.env x=pure x:=by intro _; rfl):PS X (.For tg iter body [] pos) (tFor wi g tb):=by
 intro pins s σ H D I h
 refine wpAny_For (thn (hi pins s σ H _ I h) fun v s1 h1=>thn h1 fun itv s2 h2=>?_) hs
 obtain ⟨it,fp,tn,J,H2,e,I2,T,st2,f2,W,⟨m0,w0⟩,turn⟩:=h2
 subst e
 -- what stays true of the iterator's objects through the loop
 have stat:∀ {H':Hp},(∀ b∈fp,H' b=none)->∀ b∈fp,FpOk X pins H' b:=fun hn b hb=>⟨hn b hb,(f2 b hb).2⟩
 refine codeAny_forLoop_any (fun n s'=>∃ i σ' H',Inv X pins σ' H' s'/\tn i s'.heap/\(∀ b∈fp,H' b=none)/\W i n σ' H') ?_ m0 ⟨0,σ,H2,I2,st2,fun b hb=>(f2 b hb).1,w0⟩
 rintro n s3 ⟨i,σ3,H3,I3,st3,fr3,w3⟩
 rcases turn i n σ3 H3 w3 with ⟨stop,qn⟩ | ⟨go,N,hN,step⟩
 ·refine wpAny_passesOwn hp (thn (T.done X rfl rfl rfl hc i pins s3 σ3 H3 X.xe I3 (stat fr3) st3 stop) fun r s4 hx9=>?_)
  obtain ⟨hr,I4⟩:=hx9
  subst hr
  exact wpAny_execs_nil ⟨σ3,H3,I4,qn⟩
 ·refine wpAny_passesOwn hp (thn (T.item X rfl rfl rfl hc i pins s3 σ3 H3 X.xe I3 (stat fr3) st3 go) fun r s4 hx9=>?_)
  obtain ⟨u,hr,h4⟩:=hx9
  subst hr
  refine wpAny_passesOwn hp (thn h4 fun _ s5 hx9=>?_)
  obtain ⟨x,H5,I5,r5,y5,st5,fr5⟩:=hx9
  have I5':=I5.pinned (stat fr5) (T.obj _ _ st5)
  refine wpAny_passesOwn hp (thn (hg _ s5 σ3 H5 x u _ I5' r5 (step x H5 y5)) fun _ s6 hx9=>?_)
  obtain ⟨σ6,H6,I6,q6⟩:=hx9
  refine wpAny_passesOwn hp (thn (hb _ s6 σ6 H6 _ I6 q6) fun f s7 q7=>?_)
  have again:∀ {σ7:St} {H7:Hp},Inv X (pins++pinsAt fp s5.heap) σ7 H7 s7->N σ7 H7->∃ m,m<n/\∃ i σ' H',Inv X pins σ' H' s7/\tn i s7.heap/\(∀ b∈fp,H' b=none)/\W i m σ' H':=fun {σ7 H7} I7 n7=>by
   obtain ⟨m',hm,w7⟩:=hN σ7 H7 n7
   refine ⟨m',hm,i+1,σ7,H7,I7.unpinned,T.keep _ _ _ st5 fun b hb o e=>(I7.pin (b,o) (xah _ (xah _ (mem_pinsAt hb e)))).1,fun b hb=>?_,w7⟩
   obtain ⟨o,e,d⟩:=T.obj _ _ st5 b hb
   exact (I7.pin (b,o) (xah _ (xah _ (mem_pinsAt hb e)))).2.1
  cases f with
  | next=>obtain ⟨σ7,H7,I7,n7⟩:=q7; exact again I7 n7
  | cont=>obtain ⟨σ7,H7,I7,n7⟩:=q7; exact again I7 n7
  | brk=>obtain ⟨σ7,H7,I7,q7⟩:=q7; exact ⟨σ7,H7,I7.unpinned,q7⟩
  | ret v=>obtain ⟨x7,σ7,H7,I7,r7,q7⟩:=q7; exact ⟨x7,σ7,H7,I7.unpinned,r7,q7⟩
end
abbrev R2:=V->V->Hp->VK->Prop
def OpR (X:Cx) (f:Value->Value->Sem Value) (r:R2):Prop :=
 ∀ (pins:List (Addr × Obj)) (s:Shared) (σ:St) (H:Hp) (x y:V) (v u:Value) (Q:VK),Inv X pins σ H s->RelV x v->RelV y u->r x y H Q ->
  wpAny (model X.prog X.w) X.A (f v u) (EP X pins σ Q) X.xe s
def UnR (X:Cx) (f:Value->Sem Value) (r:V->Hp->VK->Prop):Prop :=
 ∀ (pins:List (Addr × Obj)) (s:Shared) (σ:St) (H:Hp) (x:V) (v:Value) (Q:VK),Inv X pins σ H s->RelV x v->r x H Q ->
  wpAny (model X.prog X.w) X.A (f v) (EP X pins σ Q) X.xe s
def CallR (X:Cx) (f:Value) (r:List V->Hp->VK->Prop):Prop :=
 ∀ (pins:List (Addr × Obj)) (s:Shared) (σ:St) (H:Hp) (xs:List V) (us:List Value) (Q:VK),Inv X pins σ H s->Vals xs us->r xs H Q ->
  wpAny (model X.prog X.w) X.A (call f us) (EP X pins σ Q) X.xe s
def tOp (r:R2) (ta tb:TE):TE:=fun σ H Q=>ta σ H fun x H1=>tb σ H1 fun y H2=>r x y H2 Q
def tUn (r:V->Hp->VK->Prop) (ta:TE):TE:=fun σ H Q=>ta σ H fun x H1=>r x H1 Q
def rI (C:Int->Int->Prop) (g:Int->Int->V):R2:=fun x y H Q=>∃ i j,x=.int i/\y=.int j/\C i j/\Q (g i j) H
def rI0 (g:Int->Int->V):R2:=fun x y H Q=>∃ i j,x=.int i/\y=.int j/\Q (g i j) H
def rU (g:Int->V):V->Hp->VK->Prop:=fun x H Q=>∃ i,x=.int i/\Q (g i) H
section
variable {X:Cx} {a b:Expr} {ta tb:TE} {pos:Pos}
theorem binT (ha:PE X a ta) (hb:PE X b tb) {pins:List (Addr × Obj)} {s:Shared} {σ:St} {H:Hp} {R:V->V->Hp->Prop} (I:Inv X pins σ H s)
  (h:ta σ H fun x H1=>tb σ H1 fun y H2=>R x y H2) {Q:Value->Shared->Prop} {f:Value->Value->Sem Value}
  (hf:∀ v u s2 x y H2,Inv X pins σ H2 s2->RelV x v->RelV y u->R x y H2->wpAny (model X.prog X.w) X.A (f v u) Q X.xe s2) :
  wpAny (model X.prog X.w) X.A (eval a X.env) (fun v s₁=>wpAny (model X.prog X.w) X.A (eval b X.env) (fun u s₂=>wpAny (model X.prog X.w) X.A (f v u) Q X.xe s₂) X.xe s₁) X.xe s:=by
 refine thn (ha pins s σ H _ I h) fun v s1 hx5=>L2.ex2 hx5 fun x H1 I1 r1 q1=>?_
 refine thn (hb pins s1 σ H1 _ I1 q1) fun u s2 hx5=>L2.ex2 hx5 fun y H2 I2 r2 q2=>?_
 exact hf v u s2 x y H2 I2 r1 r2 q2
theorem pe_op {op:Operator} {r:R2} (ho:OpR X (binaryOp op) r) (ha:PE X a ta) (hb:PE X b tb):PE X (.BinOp a op b pos) (tOp r ta tb):=by
 intro pins s σ H Q I h
 exact wpAny_BinOp (binT ha hb I h fun v u s2 x y H2 I2 rx ry q=>ho pins s2 σ H2 x y v u Q I2 rx ry q)
theorem pe_un {op:UnaryOp} {r:V->Hp->VK->Prop} (ho:UnR X (unaryOp op) r) (ha:PE X a ta):PE X (.UnaryOp op a pos) (tUn r ta):=by
 intro pins s σ H Q I h
 exact UnaryOp_ (thn (ha pins s σ H _ I h) fun v s1 hx5=>L2.ex2 hx5 fun x H1 I1 r1 q1=>ho pins s1 σ H1 x v Q I1 r1 q1)
theorem opI {f:Value->Value->Sem Value} {C:Int->Int->Prop} {g:Int->Int->Int}
  (rule:∀ (i j:Int) (t u:Tok) (s:Shared) (Q:Value->Shared->Prop) (E:Value->Shared->Prop),C i j->Q (.int (g i j) s.toks) { s with toks:=s.toks+1 }->wpAny (model X.prog X.w) X.A (f (.int i t) (.int j u)) Q E s) :
  OpR X f (rI C fun i j=>.int (g i j)):=by
 intro pins s σ H x y v u Q I rx ry h
 obtain ⟨i,j,rfl,rfl,hc,q⟩:=h
 obtain ⟨t,rfl⟩:=rx
 obtain ⟨t',rfl⟩:=ry
 exact rule i j t t' s _ _ hc ⟨.int (g i j),H,I.tok _,⟨_,rfl⟩,q⟩
theorem opI0 {f:Value->Value->Sem Value} {g:Int->Int->Int}
  (rule:∀ (i j:Int) (t u:Tok) (s:Shared) (Q:Value->Shared->Prop) (E:Value->Shared->Prop),Q (.int (g i j) s.toks) { s with toks:=s.toks+1 }->wpAny (model X.prog X.w) X.A (f (.int i t) (.int j u)) Q E s) :
  OpR X f (rI0 fun i j=>.int (g i j)):=by
 intro pins s σ H x y v u Q I rx ry h
 obtain ⟨i,j,rfl,rfl,q⟩:=h
 obtain ⟨t,rfl⟩:=rx
 obtain ⟨t',rfl⟩:=ry
 exact rule i j t t' s _ _ ⟨.int (g i j),H,I.tok _,⟨_,rfl⟩,q⟩
theorem opB0 {f:Value->Value->Sem Value} {g:Int->Int->Bool}
  (rule:∀ (i j:Int) (t u:Tok) (s:Shared) (Q:Value->Shared->Prop) (E:Value->Shared->Prop),Q (.bool (g i j)) s->wpAny (model X.prog X.w) X.A (f (.int i t) (.int j u)) Q E s) :
  OpR X f (rI0 fun i j=>.bl (g i j)):=by
 intro pins s σ H x y v u Q I rx ry h
 obtain ⟨i,j,rfl,rfl,q⟩:=h
 obtain ⟨t,rfl⟩:=rx
 obtain ⟨t',rfl⟩:=ry
 exact rule i j t t' s _ _ ⟨.bl (g i j),H,I,rfl,q⟩
def CDiv (i j:Int):Prop:=0<j/\j<1073741824
def CMul (i j:Int):Prop:=(-(2 ^ 64)<i/\i<2 ^ 64)\/(-(2 ^ 64)<j/\j<2 ^ 64)
theorem CMul.ok {i j:Int} (h:CMul i j):IntMulOk i j:=by
 rcases h with ⟨h1,h2⟩ | ⟨h1,h2⟩
 ·exact .of_left (intBits_le_64 h1 h2)
 ·exact .of_right (intBits_le_64 h1 h2)
theorem op_add:OpR X (binaryOp .Add) (rI0 fun i j=>.int (i+j)):=opI0 fun _ _ _ _ _ _ _ q=>add_int q
theorem op_sub:OpR X (binaryOp .Sub) (rI0 fun i j=>.int (i - j)):=opI0 fun _ _ _ _ _ _ _ q=>sub_int q
theorem op_mul:OpR X (binaryOp .Mult) (rI CMul fun i j=>.int (i * j)):=opI fun _ _ _ _ _ _ _ hc q=>mul_int q hc.ok
theorem op_fdiv:OpR X (binaryOp .FloorDiv) (rI CDiv fun i j=>.int (i / j)):=opI fun i j _ _ _ _ _ hc q=>by
 have h1:(0:Int)<j:=hc.1
 have h2:j<1073741824:=hc.2
 exact floordiv_int (by lia) (by rw [Int.fdiv_eq_ediv_of_nonneg i (by exact xbm ‹_›)]; exact q) (.inl (PyProof.noPylong_small (by lia)))
theorem op_mod:OpR X (binaryOp .Mod) (rI (fun _ j=>0<j) fun i j=>.int (i % j)):=opI fun i j _ _ _ _ _ hc q=>by
 have h1:(0:Int)<j:=hc
 exact mod_int' (by lia) (by rw [Int.fmod_eq_emod_of_nonneg i (by exact xbm ‹_›)]; exact q)
theorem unI {f:Value->Sem Value} {g:Int->Int}
  (rule:∀ (i:Int) (t:Tok) (s:Shared) (Q:Value->Shared->Prop) (E:Value->Shared->Prop),Q (.int (g i) s.toks) { s with toks:=s.toks+1 }->wpAny (model X.prog X.w) X.A (f (.int i t)) Q E s) :
  UnR X f (rU fun i=>.int (g i)):=by
 intro pins s σ H x v Q I rx h
 obtain ⟨i,rfl,q⟩:=h
 obtain ⟨t,rfl⟩:=rx
 exact rule i t s _ _ ⟨.int (g i),H,I.tok _,⟨_,rfl⟩,q⟩
theorem un_neg:UnR X (unaryOp .USub) (rU fun i=>.int (-i)):=unI fun _ _ _ _ _ q=>neg_int q
end
def scal:V->V->Bool
 | .non,.non=>true | .non,.int _=>true | .int _,.non=>true | .non,.bl _=>true | .bl _,.non=>true | .non,.str _=>true | .str _,.non=>true
 | .int _,.int _=>true | .bl _,.bl _=>true | .str _,.str _=>true | .byt _,.byt _=>true
 | .int _,.str _=>true | .str _,.int _=>true | .bl _,.str _=>true | .str _,.bl _=>true
 | _,_=>false
def rEq:R2:=fun x y H Q=>scal x y=true/\Q (.bl (decide (x=y))) H
def rNe:R2:=fun x y H Q=>scal x y=true/\Q (.bl (!decide (x=y))) H
theorem dec_int {i j:Int}:decide (V.int i=V.int j)=(i == j):=by
 rw [xbf]
 simp
theorem dec_bl {i j:Bool}:decide (V.bl i=V.bl j)=(i == j):=by
 rw [xbf]
 simp
theorem dec_str {i j:Str}:decide (V.str i=V.str j)=(i == j):=by
 rw [xbf]
 simp
theorem dec_byt {i j:Array UInt8}:decide (V.byt i=V.byt j)=(i.toList == j.toList):=by
 rw [xbf]
 cases i
 cases j
 simp
section
variable {X:Cx} {a b c:Expr} {ta tb:TE} {pos:Pos}
theorem fin_bl {pins:List (Addr × Obj)} {σ:St} {H:Hp} {s:Shared} {Q:VK} {k k':Bool} (I:Inv X pins σ H s) (q:Q (.bl k) H) (e:k=k'):EP X pins σ Q (.bool k') s:=by
 subst e
 exact ⟨.bl k,H,I,rfl,q⟩
theorem op_eq:OpR X (compareOp .Eq) rEq:=by
 intro pins s σ H x y v u Q I rx ry h
 obtain ⟨hs,q⟩:=h
 cases x with
 | non =>
  cases rx
  cases y with
  | non=>cases ry; exact PySem.EqNone.eq_none_none (fin_bl I q (by simp))
  | bl j=>cases ry; exact PySem.EqNone.eq_none_bool (fin_bl I q (by simp))
  | int j=>obtain ⟨t',rfl⟩:=ry; exact PySem.EqNone.eq_none_int (fin_bl I q (by simp))
  | str j=>obtain ⟨t',rfl⟩:=ry; exact PySem.EqNone.eq_none_str (fin_bl I q (by simp))
  | _=>exact absurd (show false=true from hs) xap
 | bl i =>
  cases rx
  cases y with
  | non=>cases ry; exact PySem.EqNone.eq_bool_none (fin_bl I q (by simp))
  | bl j=>cases ry; exact eq_bool (fin_bl I q dec_bl)
  | str j=>obtain ⟨t',rfl⟩:=ry; exact PySem.EqMixed.eq_bool_str (fin_bl I q (by simp))
  | _=>exact absurd (show false=true from hs) xap
 | int i =>
  obtain ⟨t,rfl⟩:=rx
  cases y with
  | non=>cases ry; exact PySem.EqNone.eq_int_none (fin_bl I q (by simp))
  | int j=>obtain ⟨t',rfl⟩:=ry; exact eq_int (fin_bl I q dec_int)
  | str j=>obtain ⟨t',rfl⟩:=ry; exact PySem.EqMixed.eq_int_str (fin_bl I q (by simp))
  | _=>exact absurd (show false=true from hs) xap
 | str i =>
  obtain ⟨t,rfl⟩:=rx
  cases y with
  | non=>cases ry; exact PySem.EqNone.eq_str_none (fin_bl I q (by simp))
  | bl j=>cases ry; exact PySem.EqMixed.eq_str_bool (fin_bl I q (by simp))
  | int j=>obtain ⟨t',rfl⟩:=ry; exact PySem.EqMixed.eq_str_int (fin_bl I q (by simp))
  | str j=>obtain ⟨t',rfl⟩:=ry; exact eq_str (fin_bl I q dec_str)
  | _=>exact absurd (show false=true from hs) xap
 | byt i =>
  obtain ⟨t,rfl⟩:=rx
  cases y with
  | byt j=>obtain ⟨t',rfl⟩:=ry; exact PySem.W.eq_bytes (fin_bl I q dec_byt)
  | _=>exact absurd (show false=true from hs) xap
 | _=>cases y <;> exact absurd (show false=true from hs) xap
theorem op_ne:OpR X (compareOp .NotEq) rNe:=by
 intro pins s σ H x y v u Q I rx ry h
 obtain ⟨hs,q⟩:=h
 cases x with
 | non =>
  cases rx
  cases y with
  | non=>cases ry; exact PySem.EqNone.ne_none_none (fin_bl I q (by simp))
  | bl j=>cases ry; exact PySem.EqNone.ne_none_bool (fin_bl I q (by simp))
  | int j=>obtain ⟨t',rfl⟩:=ry; exact PySem.EqNone.ne_none_int (fin_bl I q (by simp))
  | str j=>obtain ⟨t',rfl⟩:=ry; exact PySem.EqNone.ne_none_str (fin_bl I q (by simp))
  | _=>exact absurd (show false=true from hs) xap
 | bl i =>
  cases rx
  cases y with
  | non=>cases ry; exact PySem.EqNone.ne_bool_none (fin_bl I q (by simp))
  | bl j=>cases ry; exact ne_bool (fin_bl I q (congrArg not dec_bl))
  | str j=>obtain ⟨t',rfl⟩:=ry; exact PySem.EqMixed.ne_bool_str (fin_bl I q (by simp))
  | _=>exact absurd (show false=true from hs) xap
 | int i =>
  obtain ⟨t,rfl⟩:=rx
  cases y with
  | non=>cases ry; exact PySem.EqNone.ne_int_none (fin_bl I q (by simp))
  | int j=>obtain ⟨t',rfl⟩:=ry; exact ne_int (fin_bl I q (congrArg not dec_int))
  | str j=>obtain ⟨t',rfl⟩:=ry; exact PySem.EqMixed.ne_int_str (fin_bl I q (by simp))
  | _=>exact absurd (show false=true from hs) xap
 | str i =>
  obtain ⟨t,rfl⟩:=rx
  cases y with
  | non=>cases ry; exact PySem.EqNone.ne_str_none (fin_bl I q (by simp))
  | bl j=>cases ry; exact PySem.EqMixed.ne_str_bool (fin_bl I q (by simp))
  | int j=>obtain ⟨t',rfl⟩:=ry; exact PySem.EqMixed.ne_str_int (fin_bl I q (by simp))
  | str j=>obtain ⟨t',rfl⟩:=ry; exact ne_str (fin_bl I q (congrArg not dec_str))
  | _=>exact absurd (show false=true from hs) xap
 | byt i =>
  obtain ⟨t,rfl⟩:=rx
  cases y with
  | byt j=>obtain ⟨t',rfl⟩:=ry; exact PySem.W.ne_bytes (fin_bl I q (congrArg not dec_byt))
  | _=>exact absurd (show false=true from hs) xap
 | _=>cases y <;> exact absurd (show false=true from hs) xap
theorem op_lt:OpR X (compareOp .Lt) (rI0 fun i j=>.bl (decide (i<j))):=opB0 fun _ _ _ _ _ _ _ q=>lt_int q
theorem op_gt:OpR X (compareOp .Gt) (rI0 fun i j=>.bl (decide (j<i))):=opB0 fun _ _ _ _ _ _ _ q=>gt_int q
theorem op_lt_str:OpR X (compareOp .Lt) (fun x y H Q=>∃ i j,x=.str i/\y=.str j/\Q (.bl (decide (i.cps.toList<j.cps.toList))) H):=by
 intro pins s σ H x y v u Q I rx ry h
 obtain ⟨i,j,rfl,rfl,q⟩:=h
 obtain ⟨t,rfl⟩:=rx
 obtain ⟨t',rfl⟩:=ry
 exact lt_str (fin_bl I q rfl)
theorem op_in_str:OpR X (compareOp .In) (fun x y H Q=>∃ i j,x=.str i/\y=.str j/\Q (.bl (!(Builtin.Str.occurrences j i 0 j.length 1).isEmpty)) H):=by
 intro pins s σ H x y v u Q I rx ry h
 obtain ⟨i,j,rfl,rfl,q⟩:=h
 obtain ⟨t,rfl⟩:=rx
 obtain ⟨t',rfl⟩:=ry
 exact in_str (fin_bl I q rfl)
theorem OpR.or {f:Value->Value->Sem Value} {r r':R2} (h:OpR X f r) (h':OpR X f r'):OpR X f (fun x y H Q=>r x y H Q\/r' x y H Q):=by
 intro pins s σ H x y v u Q I rx ry q
 rcases q with q | q
 ·exact h pins s σ H x y v u Q I rx ry q
 ·exact h' pins s σ H x y v u Q I rx ry q
theorem nomark (b:Expr) {op:CmpOp} (h:op≠.In:=by decide) (h2:op≠.NotIn:=by decide):behindInMarks op b=false:=by
 have e1:(op == CmpOp.In)=false:=by cases op <;> first | rfl | exact absurd rfl h
 have e2:(op == CmpOp.NotIn)=false:=by cases op <;> first | rfl | exact absurd rfl h2
 cases b <;> simp [behindInMarks,e1,e2]
theorem pe_cmpR {op:CmpOp} {r:R2} (ho:OpR X (compareOp op) r) (ha:PE X a ta) (hb:PE X b tb) (hm:behindInMarks op b=false):PE X (.Compare a [op] [b] pos) (tOp r ta tb):=by
 intro pins s σ H Q I h
 exact wpAny_Compare1 (binT ha hb I h fun v u s2 x y H2 I2 rx ry q=>ho pins s2 σ H2 x y v u Q I2 rx ry q) hm
def tTest (t:TE):TT:=fun σ H Q=>t σ H fun x H'=>∃ k,x=.bl k/\Q k H'
theorem pt_cmpR {op:CmpOp} {r:R2} (ho:OpR X (compareOp op) r) (ha:PE X a ta) (hb:PE X b tb) (hm:behindInMarks op b=false):PT X (.Compare a [op] [b] pos) (tTest (tOp r ta tb)):=by
 intro pins s σ H Q I h
 refine wpAny_isTrue_Compare1 (thn (ha pins s σ H _ I h) fun v s1 hx5=>L2.ex2 hx5 fun x H1 I1 r1 q1=>thn (hb pins s1 σ H1 _ I1 q1) fun u s2 hx5=>L2.ex2 hx5 fun y H2 I2 r2 q2 =>
  thn (ho pins s2 σ H2 x y v u _ I2 r1 r2 q2) fun c s3 ⟨z,H3,I3,r3,k,e,q3⟩=>?_) hm
 subst e
 cases r3
 exact wpAny_truthy_bool ⟨H3,I3,q3⟩
theorem line63:(sizeLine:Nat)<2 ^ 63:=by rw [sizeLine_eq]; decide
theorem op_add_str:OpR X (binaryOp .Add) (fun x y H Q=>∃ i j,x=.str i/\y=.str j/\i.length+j.length<=sizeLine/\Q (.str (i++j)) H):=by
 intro pins s σ H x y v u Q I rx ry h
 obtain ⟨i,j,rfl,rfl,hz,q⟩:=h
 obtain ⟨t,rfl⟩:=rx
 obtain ⟨t',rfl⟩:=ry
 exact add_str (fun t' tk=>⟨.str (i++j),H,I.tok _,⟨_,rfl⟩,q⟩) hz
theorem vals1 {x:V} {us:List Value} (r:Vals [x] us):∃ u,us=[u]/\RelV x u:=by
 cases r with
 | cons r1 r2=>cases r2; exact ⟨_,rfl,r1⟩
theorem vals2 {x y:V} {us:List Value} (r:Vals [x,y] us):∃ u w',us=[u,w']/\RelV x u/\RelV y w':=by
 cases r with
 | cons r1 r2 =>
  cases r2 with
  | cons r3 r4=>cases r4; exact ⟨_,_,rfl,r1,r3⟩
theorem call_min2 (hc:X.calm=true):CallR X (.builtin "min") (fun xs H Q=>∃ i j,xs=[.int i,.int j]/\Q (.int (if j<i then j else i)) H):=by
 intro pins s σ H xs us Q I r h
 obtain ⟨i,j,rfl,q⟩:=h
 obtain ⟨u,w',rfl,⟨t,rfl⟩,⟨t',rfl⟩⟩:=vals2 r
 refine min_two_ints (I.ok.hd hc) fun h' tk k=>⟨_,H,I.kept k,?_,q⟩
 by_cases hj:j<i
 ·rw [if_pos hj,if_pos hj]; exact ⟨_,rfl⟩
 ·rw [if_neg hj,if_neg hj]; exact ⟨_,rfl⟩
theorem call_int1:CallR X (.type "int") (fun xs H Q=>(∃ i,xs=[.int i]/\Q (.int i) H)\/∃ k,xs=[.bl k]/\Q (.int (if k then 1 else 0)) H):=by
 intro pins s σ H xs us Q I r h
 rcases h with ⟨i,rfl,q⟩ | ⟨k,rfl,q⟩
 ·obtain ⟨u,rfl,t,rfl⟩:=vals1 r
  exact call_int_int ⟨.int i,H,I,⟨_,rfl⟩,q⟩
 ·obtain ⟨u,rfl,r1⟩:=vals1 r
  cases r1
  exact call_int_bool ⟨.int (if k then 1 else 0),H,I.tok _,⟨_,rfl⟩,q⟩
def LenV (K:PySem.W.Frag) (x:V) (H:Hp) (n:Nat):Prop :=
 match x with
 | .str y=>y.length<=sizeLine/\n=y.length
 | .byt y=>y.size<=sizeLine/\n=y.size
 | .ref p=>(∃ xs,SqL K H p xs/\n=xs.length)\/∃ xs,SqT K H p xs/\n=xs.length
 | _=>False
theorem call_len:CallR X (.builtin "len") (fun xs H Q=>∃ x n,xs=[x]/\LenV X.K x H n/\Q (.int n) H):=by
 intro pins s σ H xs us Q I r h
 obtain ⟨x,n,rfl,e,q⟩:=h
 obtain ⟨u,rfl,rx⟩:=vals1 r
 have hl:=line63
 have hs:sizeLine=16777216:=sizeLine_eq
 cases x with
 | str y =>
  obtain ⟨t,rfl⟩:=rx
  obtain ⟨hy,e'⟩:y.length<=sizeLine/\n=y.length:=e
  subst e'
  exact len_str (by lia) ⟨.int _,H,I.tok _,⟨_,rfl⟩,q⟩
 | byt y =>
  obtain ⟨t,rfl⟩:=rx
  obtain ⟨hy,e'⟩:y.size<=sizeLine/\n=y.size:=e
  subst e'
  exact PySem.W.len_bytes (by walk_at "s4") ⟨.int _,H,I.tok _,⟨_,rfl⟩,q⟩
 | ref p =>
  cases rx
  have e':(∃ xs,SqL X.K H p xs/\n=xs.length)\/∃ xs,SqT X.K H p xs/\n=xs.length:=e
  rcases e' with ⟨xs,hx,e'⟩ | ⟨xs,hx,e'⟩
  ·subst e'
   obtain ⟨its,r',pl,hz⟩:=I.list hx
   have hlen:=r'.length
   exact Calls.call_len_list pl.isList (by simp only [xaz]; lia) ⟨.int xs.length,H,I.tok _,⟨_,by simp only [xaz]; rw [hlen]⟩,q⟩
  ·subst e'
   obtain ⟨its,r',pl,hz⟩:=I.tuple hx
   have hlen:=r'.length
   exact len_tuple pl (by simp only [xaz]; lia) ⟨.int xs.length,H,I.tok _,⟨_,by simp only [xaz]; rw [hlen]⟩,q⟩
 | _=>exact (show False from e).elim
end
structure ObjM (h:Heap) (x dx C:Addr) (mA:Str->Option Value):Prop where
 obj:h.get? x=some (PySem.W.instObj C dx)
 ns:h.Ns1 dx mA
 ne:dx≠x
theorem RelO.some_of {v:V} {o:Option Value} (r:RelO (some v) o):∃ u,o=some u/\RelV v u:=by
 cases o with
 | none=>exact (show False from r).elim
 | some u=>exact ⟨u,rfl,r⟩
section
variable {P:Program} {w:World} {H:Hp} {h:Heap} {a C dx:Addr} {fs:List (Str × V)}
theorem ins_get (hok:HOk P w H h) (e:H a=some (.ins C dx fs)):∃ mA,ObjM h a dx C mA/\(∀ f,RelO (fs.lookup f) (mA f))/\PySem.Within mA (fs.map (·.1))/\fs.length<=1000/\H dx=some (.own a):=by
 obtain ⟨d,z,ne,ob,mA,n,r,q⟩:=(show ObjOk P w H h a (.ins C dx fs) from hok a _ e)
 exact ⟨mA,⟨ob,n,ne⟩,r,q,z,d⟩
end
structure Room (k:Nat) (A:Around):Prop where
 hd:A.handled=none
 dp:A.depth+3 * k+5<recursionLimit
 un:A.units+16 * k+200<cLine
theorem Room.mono {j k:Nat} {A:Around} (r:Room k A) (h:j<=k):Room j A:=⟨r.hd,by have:=r.dp; lia,by have:=r.un; lia⟩
theorem Room.deeper {k:Nat} {A:Around} (r:Room (k+1) A) (env:Env):Room k (A.deeper env) :=
 ⟨r.hd,by have:=r.dp; show A.depth+1+3 * k+5<_; lia,by have:=r.un; show A.units+3+16 * k+200<_; lia⟩
theorem Room.in1 {k:Nat} {A:Around} (r:Room (k+1) A):Room k A.in1 :=
 ⟨r.hd,by have:=r.dp; show A.depth+3 * k+5<_; lia,by have:=r.un; show A.units+1+16 * k+200<_; lia⟩
theorem Room.depth {k:Nat} {A:Around} (r:Room k A):A.depth<recursionLimit:=by have:=r.dp; lia
theorem Room.units {k:Nat} {A:Around} (r:Room k A):A.units+64<cLine:=by have:=r.un; lia
def tNil:TA:=fun _ H Q=>Q [] H
def tCons (ta:TE) (tr:TA):TA:=fun σ H Q=>ta σ H fun x H1=>tr σ H1 fun xs H2=>Q (x :: xs) H2
section
variable {X:Cx} {e:Expr} {es:List Expr} {te:TE} {t:TA} {pos:Pos}
theorem pa_nil:PA X [] tNil:=fun _ _ _ _ H Q I h=>Calls.spliced_nil ⟨[],H,I,.nil,h⟩
theorem pa_cons (ha:PE X e te) (hr:PA X es t) (hs:starEach (e :: es) X.env=(false,eval e X.env) :: starEach es X.env:=by rfl):PA X (e :: es) (tCons te t):=by
 intro pos pins s σ H Q I h
 rw [hs]
 show wpAny _ _ (spliced ((false,eval e X.env) :: backTo pos (starEach es X.env))) _ _ s
 refine Calls.spliced_cons (thn (ha pins s σ H _ I h) fun u s1 hx5=>L2.ex2 hx5 fun x H1 I1 r1 q1=>?_)
 exact thn (hr pos pins s1 σ H1 _ I1 q1) fun us s2 hx5=>L2.ex2 hx5 fun xs H2 I2 r2 q2=>⟨x :: xs,H2,I2,.cons r1 r2,q2⟩
def tTup (t:TA):TE:=fun σ H Q=>t σ H fun xs H1=>xs.length<=sizeLine/\∀ p,H1 p=none->Q (.ref p) (upd H1 p (.tup xs))
def tLst (t:TA):TE:=fun σ H Q=>t σ H fun xs H1=>xs.length<=sizeLine/\∀ p,H1 p=none->Q (.ref p) (upd H1 p (.lst xs))
theorem pe_tup {x1} (h:PA X es t):PE X (.Tuple es x1 pos) (tTup t):=by
 intro pins s σ H Q I hq
 refine wpAny_Tuple_spliced (thn (h pos pins s σ H _ I hq) fun us s1 ⟨xs,H1,I1,r,z,q⟩=>⟨by rw [<- r.length]; exact z,?_⟩)
 have hf:H1 s1.heap.objs.size=none:=I1.hok.fresh (xaf _)
 refine ⟨.ref s1.heap.objs.size,upd H1 s1.heap.objs.size (.tup xs),I1.laid (t':=s1.toks) (fun b u e=>xae _ e) (xaf _) ?_,rfl,q _ hf⟩
 exact ⟨z,us,r,⟨_,xaq _ rfl,rfl,_,rfl⟩⟩
theorem pe_lst (h:PA X es t):PE X (.List es pos) (tLst t):=by
 intro pins s σ H Q I hq
 refine wpAny_List_spliced (thn (h pos pins s σ H _ I hq) fun us s1 ⟨xs,H1,I1,r,z,q⟩=>⟨by rw [<- r.length]; exact z,?_⟩)
 have hf:H1 s1.heap.objs.size=none:=I1.hok.fresh (xaf _)
 refine ⟨.ref s1.heap.objs.size,upd H1 s1.heap.objs.size (.lst xs),I1.laid (t':=s1.toks) (fun b u e=>xae _ e) (xaf _) ?_,rfl,q _ hf⟩
 exact ⟨z,us,0,r,xaq _ rfl⟩
end
abbrev Sp:=List V->Hp->VK->XK->Prop
abbrev CXT:=List Env->Hp->Shared->XK->Value->Shared->Prop
structure Env0 (P:Program) (w:World) (K:PySem.W.Frag) (mg:Str->Option Value) (base:Heap) (A:Around) (outer:List Env) (s:Shared) (H:Hp):Prop where
 frames:A.frames=some outer
 mod:Mod K mg base
 bs:∀ b o,base.get? b=some o->s.heap.get? b=some o/\H b=none
 bsz:base.objs.size<=s.heap.objs.size
 funs:s.heap.FunFrames base outer
 frf:∀ b∈frs outer,H b=none
 hok:HOk P w H s.heap
 bare:AllBare s.gens
def CE (outer:List Env) (P:Program) (w:World) (H:Hp) (s:Shared) (Q:VK) (u:Value) (s':Shared):Prop :=
 ∃ v H',s'.os=s.os/\AllBare s'.gens/\Un (frs outer) [] H H' s.heap s'.heap/\HOk P w H' s'.heap/\RelV v u/\Q v H'
def CR (CX:CXT) (outer:List Env) (P:Program) (w:World) (H:Hp) (s:Shared) (Q:VK) (E:XK) (r:Result) (s':Shared):Prop :=
 match r with
 | .ok (.ret u)=>CE outer P w H s Q u s'
 | .ok _=>False
 | .error e=>CX outer H s E e s'
structure FnOk (P:Program) (w:World) (K:PySem.W.Frag) (mg:Str->Option Value) (base:Heap) (CX:CXT) (k:Nat) (f:Addr) (fd:FuncData) (ps:List Str) (sp:Sp):Prop where
 len:∀ vs H Q E,sp vs H Q E->vs.length=ps.length
 run:∀ (A:Around) (outer:List Env) (s:Shared) (H:Hp) (args:Args) (us:List Value) (vs:List V) (Q:VK) (E:XK),Room k A->Env0 P w K mg base A outer s H->BindsTo s fd args (ps.zip us)->Vals vs us->sp vs H Q E ->
  codeAny (model P w) A (.call (.ref f) args) (CR CX outer P w H s Q E) s
theorem Env0.in1 {P:Program} {w:World} {K:PySem.W.Frag} {mg:Str->Option Value} {base:Heap} {A:Around} {outer:List Env} {s:Shared} {H:Hp} (e:Env0 P w K mg base A outer s H) :
  Env0 P w K mg base A.in1 outer s H:=⟨e.frames,e.mod,e.bs,e.bsz,e.funs,e.frf,e.hok,e.bare⟩
section
variable {X:Cx} {pins:List (Addr × Obj)} {σ:St} {H:Hp} {s s':Shared}
theorem Inv.env0 (I:Inv X pins σ H s):Env0 X.prog X.w X.K X.mg X.base X.A X.stack s H :=
 ⟨I.ok.frames,I.ok.mod,I.bs,xaA I.ok.bsz I.sz,I.stack,I.stkFree,I.hok,I.bare⟩
theorem Inv.after {Q:VK} {u:Value} (I:Inv X pins σ H s) (h:CE X.stack X.prog X.w H s Q u s'):EP X pins σ Q u s':=by
 obtain ⟨v,H',os,bare,un,hok,r,q⟩:=h
 obtain ⟨hh,g,d,t,os'⟩:=s'
 obtain rfl:os'=s.os:=os
 exact ⟨v,H',I.call (h':=hh) (g':=g) (d':=d) (t':=t) (ch:=[]) un hok bare (fun b z=>absurd z (by simp)),r,q⟩
end
def tCall (sp:Sp) (dvs:List V) (E:XK) (t:TA):TE:=fun σ H Q=>t σ H fun vs H1=>sp (vs++dvs) H1 Q E
def Binds (K:PySem.W.Frag) (fd:FuncData) (ps:List Str) (ds:List Value):Prop :=
 ∀ (s:Shared) (us:List Value),K.In s.heap->(us++ds).length=ps.length->BindsTo s fd ⟨us,[]⟩ (ps.zip (us++ds))
theorem Binds.all {K:PySem.W.Frag} {fd:FuncData} {ps:List Str} (h:∀ us:List Value,us.length=ps.length->bindArgs fd ⟨us,[]⟩=pure (ps.zip us)):Binds K fd ps []:=fun s us _ hl=>by
 rw [xaX] at hl ⊢
 exact .of_eq (h us hl)
def Passes (CX:CXT) (X:Cx) (E:XK):Prop:=∀ (pins:List (Addr × Obj)) (σ:St) (H:Hp) (s:Shared) (e:Value) (s':Shared),Inv X pins σ H s->CX X.stack H s E e s'->X.xe e s'
section
variable {X:Cx} {CX:CXT} {k:Nat} {f:Addr} {fd:FuncData} {ps:List Str} {sp:Sp} {dvs:List V} {ds:List Value} {E:XK} {x:Str} {p pos:Pos} {e:Expr} {es:List Expr} {t:TA}
theorem run_fn {pins:List (Addr × Obj)} {σ:St} {H:Hp} {s:Shared} {Q:VK} {us:List Value} {vs:List V} (F:FnOk X.prog X.w X.K X.mg X.base CX k f fd ps sp) (hr:Room k X.A) (hb:Binds X.K fd ps ds) (hd:Vals dvs ds) (hx:Passes CX X E)
  (I:Inv X pins σ H s) (r:Vals vs us) (h:sp (vs++dvs) H Q E):wpAny (model X.prog X.w) X.A (call (.ref f) us) (EP X pins σ Q) X.xe s:=by
 have r2:Vals (vs++dvs) (us++ds):=r.append hd
 have hl:(us++ds).length=ps.length:=by rw [<- r2.length]; exact F.len _ _ _ _ h
 refine wpAny_call (codeAny_mono (F.run X.A X.stack s H ⟨us,[]⟩ (us++ds) (vs++dvs) Q E hr I.env0 (hb s us I.kIn hl) r2 h) fun r s' hq=>?_)
 cases r with
 | error e=>exact hx pins σ H s e s' I hq
 | ok fl =>
  cases fl with
  | ret u=>exact I.after hq
  | next=>exact False.elim hq
  | brk=>exact False.elim hq
  | cont=>exact False.elim hq
theorem pe_call (F:FnOk X.prog X.w X.K X.mg X.base CX k f fd ps sp) (hr:Room k X.A) (hg:Gl X x) (hm:X.mg x=some (.ref f)) (hk:PySem.W.keepIn X.K (.ref f)=true) (hb:Binds X.K fd ps ds) (hd:Vals dvs ds) (hx:Passes CX X E)
  (ha:PA X (e :: es) t) (hdb:(x == ("__debug__" : Str))=false:=by decide) (he:starEach (e :: es) X.env=(false,eval e X.env) :: starEach es X.env:=by rfl) (hpl:(backTo pos (starEach es X.env)).any (·.1)=false:=by rfl) :
  PE X (.Call (.Name x p) (e :: es) [] pos) (tCall sp dvs E t):=by
 intro pins s σ H Q I h
 refine wpAny_Call_Name_kw (ld_glob I hg hm ?_ hdb)
 refine PySem.W.callWith_K (h₀:=X.base) I.ok.mod.kin hk (thn (ha pos pins s σ H _ I h) fun us s1 hx5=>L2.ex2 hx5 fun vs H1 I1 r q=>⟨I1.kIn,?_⟩) he hpl
 exact run_fn F hr hb hd hx I1 r q
end
structure FnScope (N P:List Str) (sc:Scope):Prop where
 kind:sc.kind=.function
 co:sc.isCoroutine=false
 gen:sc.isGenerator=false
 nd:N.Nodup
 pre:N.take P.length=P
 par:∀ x∈P,sc.names.lookup x=some .local\/sc.names.lookup x=some .cell
 nofree:∀ y∈sc.names,y.2≠.free
theorem bindL_out {kindOf:Str->Option NameKind} {x:Str}:∀ {binds:List (Str × Value)} {m:Str->Option Value},(∀ v,(x,v)∉binds)->bindL kindOf binds m x=m x
 | [],_,_=>rfl
 | (n,v) :: r,m,h=>by
  unfold bindL
  rw [bindL_out fun w hw=>h w (xab _ hw)]
  split
  ·have:x≠n:=by rintro rfl; exact h v xad
   simp [this]
  ·rfl
theorem bindC_out {kindOf:Str->Option NameKind} {x:Str}:∀ {binds:List (Str × Value)} {m:Str->Option Value},(∀ v,(x,v)∉binds)->bindC kindOf binds m x=m x
 | [],_,_=>rfl
 | (n,v) :: r,m,h=>by
  unfold bindC
  rw [bindC_out fun w hw=>h w (xab _ hw)]
  split
  ·rfl
  ·have:x≠n:=by rintro rfl; exact h v xad
   simp [this]
theorem bindL_get {kindOf:Str->Option NameKind} {x:Str} {v:Value}:∀ {P:List Str} {vs:List Value} {i:Nat} {m:Str->Option Value},P.Nodup->P[i]? = some x->vs[i]? = some v->kindOf x=some .local ->
  bindL kindOf (P.zip vs) m x=some v
 | [],_,_,_,_,h,_,_=>by simp at h
 | _ :: _,[],_,_,_,_,h,_=>by simp at h
 | p :: P,w :: vs,0,m,nd,h1,h2,hk=>by
  simp at h1 h2; subst h1; subst h2
  show bindL kindOf ((p,w) :: P.zip vs) m p=_
  unfold bindL
  rw [bindL_out fun v hv=>(xaH.mp nd).1 (List.of_mem_zip hv).1,if_pos hk]
  simp
 | p :: P,w :: vs,i+1,m,nd,h1,h2,hk=>by
  show bindL kindOf ((p,w) :: P.zip vs) m x=_
  unfold bindL
  exact bindL_get (i:=i) (xaH.mp nd).2 (by simpa using h1) (by simpa using h2) hk
theorem bindC_get {kindOf:Str->Option NameKind} {x:Str} {v:Value}:∀ {P:List Str} {vs:List Value} {i:Nat} {m:Str->Option Value},P.Nodup->P[i]? = some x->vs[i]? = some v->kindOf x≠some .local ->
  bindC kindOf (P.zip vs) m x=some v
 | [],_,_,_,_,h,_,_=>by simp at h
 | _ :: _,[],_,_,_,_,h,_=>by simp at h
 | p :: P,w :: vs,0,m,nd,h1,h2,hk=>by
  simp at h1 h2; subst h1; subst h2
  show bindC kindOf ((p,w) :: P.zip vs) m p=_
  unfold bindC
  rw [bindC_out fun v hv=>(xaH.mp nd).1 (List.of_mem_zip hv).1,if_neg hk]
  simp
 | p :: P,w :: vs,i+1,m,nd,h1,h2,hk=>by
  show bindC kindOf ((p,w) :: P.zip vs) m x=_
  unfold bindC
  exact bindC_get (i:=i) (xaH.mp nd).2 (by simpa using h1) (by simpa using h2) hk
def start (N:List Str) (vs:List V):St:=vs.map some++List.replicate (N.length - vs.length) none
def cxOf (CX:CXT) (P:Program) (w:World) (K:PySem.W.Frag) (mg:Str->Option Value) (base:Heap) (N:List Str) (qual:Str) (scope:Scope) (f:Addr) (cd:Value) (A:Around) (outer:List Env) (s:Shared) (H:Hp) (E:XK):Cx where
 prog:=P
 w:=w
 K:=K
 mg:=mg
 base:=base
 A:=A.deeper (envOfC qual scope s.heap.objs.size f cd)
 N:=N
 s₀:=s
 H₀:=H
 env:=envOfC qual scope s.heap.objs.size f cd
 outer:=outer
 stack:=envOfC qual scope s.heap.objs.size f cd :: outer
 ex:=[]
 calm:=true
 fn:=fun _=>true
 pn:=[]
 xe:=fun e s'=>wpAny (model P w) (A.deeper (envOfC qual scope s.heap.objs.size f cd)) (leaving (envOfC qual scope s.heap.objs.size f cd) e) (fun _ s''=>CX outer H s E e s'') (fun e' s''=>CX outer H s E e' s'') s'
theorem cell_has {sc:Scope} {n:Nat} {x:Str} (h:sc.names.lookup x=some .cell):∃ c,(cellsFrom n sc.names []).lookup x=some c:=by
 have q:=PySem.W.cellsFrom_some sc.names n [] (.inl h)
 exact Option.isSome_iff_exists.mp q
theorem inv_start {CX:CXT} {P:Program} {w:World} {K:PySem.W.Frag} {mg:Str->Option Value} {base:Heap} {N ps:List Str} {qual:Str} {scope:Scope} {f:Addr} {cd:Value} {A:Around} {outer:List Env} {s s1:Shared} {H:Hp} {E:XK} {us:List Value} {vs:List V}
  (S:FnScope N ps scope) (hd:A.handled=none) (e0:Env0 P w K mg base A outer s H) (hl:vs.length=ps.length) (r:Vals vs us)
  (x:InCallC s s.heap.objs.size (bindL (envOfC qual scope s.heap.objs.size f cd).kindOf (ps.zip us) fun _=>none) (cellsFrom (s.heap.objs.size+1) scope.names []) (bindC (envOfC qual scope s.heap.objs.size f cd).kindOf (ps.zip us) fun _=>none) s1) :
  Inv (cxOf CX P w K mg base N qual scope f cd A outer s H E) [] (start N vs) H s1:=by
 have hpl:ps.length<=N.length:=by have:=congrArg List.length S.pre; rw [xaE] at this; lia
 obtain ⟨h1,tk,rfl,hk⟩:=x.done
 have noA:∀ b:Addr,b∉(cxOf CX P w K mg base N qual scope f cd A outer s H E).ex:=fun b z=>absurd (show b∈([]:List Addr) from z) (by simp)
 refine ⟨⟨e0.mod,S.kind,rfl,rfl,xaf _,fun y z c h1 h2=>?_,fun y hy=>?_,fun y c _ h=>?_,fun _=>hd,Around.frames_deeper e0.frames,.inr ⟨rfl,rfl⟩,fun b z=>absurd z (noA b),e0.bs,e0.bsz,fun b _ _=>noA b,fun b z=>absurd z (noA b),e0.funs,e0.frf⟩,
  rfl,e0.bare,Un.kept hk,⟨_,x.toInCall.ns,fun i y v h1 h2 h3=>?_⟩,fun y c h=>⟨_,x.cell y c h⟩,e0.hok.fresh (xaf _),fun y c h=>?_,fun p hp=>absurd (show p∈([]:List (Addr × Obj)) from hp) (by simp),e0.hok.kept hk,?_⟩
 ·exact name_of_addr x.apart (PySem.mem_of_lookup h1) (PySem.mem_of_lookup h2)
 ·have hy:scope.names.lookup y=some .cell\/scope.names.lookup y=some .free:=hy
  rcases hy with hy | hy
  ·exact cell_has hy
  ·exact absurd rfl (S.nofree _ (PySem.mem_of_lookup hy))
 ·exact xaF (x.above y c (PySem.mem_of_lookup h))
 ·have hi:i<vs.length:=by
   unfold start at h2
   by_cases hi:i<vs.length
   ·exact hi
   ·rw [xaM (by simpa using hi)] at h2
    rw [List.getElem?_replicate] at h2
    split at h2 <;> cases h2
  have ha:vs[i]? = some v:=by
   unfold start at h2
   rw [xa0 (by simpa using hi),xaG] at h2
   cases e:vs[i]? with
   | none=>rw [e] at h2; cases h2
   | some a=>rw [e] at h2; cases h2; rfl
  obtain ⟨u,hu,rv⟩:=r.get ha
  have hp:ps[i]? = some y:=by
   rw [<- S.pre,List.getElem?_take_of_lt (by lia)]; exact h1
  have ndP:ps.Nodup:=by rw [<- S.pre]; exact S.nd.sublist (List.take_sublist _ _)
  refine ⟨u,rv,?_⟩
  rcases S.par y (xaC hp) with k | k
  ·exact .inl ⟨k,bindL_get ndP hp hu k⟩
  ·obtain ⟨c,e⟩:=cell_has (n:=s.heap.objs.size+1) k
   refine .inr ⟨.inl k,c,e,?_⟩
   have q:=x.cell y c e
   rw [bindC_get ndP hp hu (by show scope.names.lookup y≠_; rw [k]; decide)] at q
   exact q
 ·exact e0.hok.fresh (xaF (x.above y c (PySem.mem_of_lookup h)))
 ·unfold start
  show _=N.length
  rw [xaU,xag,List.length_replicate]
  lia
theorem fn_of {CX:CXT} {P:Program} {w:World} {K:PySem.W.Frag} {mg:Str->Option Value} {base:Heap} {k:Nat} {f:Addr} {name qual:Str} {params:Arguments} {body:List Stmt} {scope:Scope} {dV kV doc pm cdv ct oc:Value} {an od:Option Addr}
  {osl:Array (Option Value)} {N ps:List Str} {sp:Sp} (lk:K.lookup f=some ⟨oc,od,.func (PySem.W.fnOf name qual params body scope dV kV doc pm an cdv ct),osl⟩) (hcd:PySem.W.codeIn K cdv qual=true) (S:FnScope N ps scope)
  (len:∀ vs H Q E,sp vs H Q E->vs.length=ps.length)
  (hbody:∀ (A:Around) (outer:List Env) (s:Shared) (H:Hp) (vs:List V) (Q:VK) (E:XK),Room k (A.deeper (envOfC qual scope s.heap.objs.size f cdv))->sp vs H Q E ->
   ∃ t,PSs (cxOf CX P w K mg base N qual scope f cdv A outer s H E) body t/\t { nx:=fun _ H'=>Q .non H',rt:=Q } (start N vs) H) :
  FnOk P w K mg base CX (k+1) f (PySem.W.fnOf name qual params body scope dV kV doc pm an cdv ct) ps sp:=by
 refine ⟨len,fun A outer s H args us vs Q E hr e0 hb r hsp=>?_⟩
 have hl:=len _ _ _ _ hsp
 have KX:K.In s.heap:=e0.mod.kin.keeps fun b o e=>(e0.bs b o e).1
 have lim:s.heap.NoLimit:=e0.mod.nolimit.keeps fun b o e=>(e0.bs b o e).1
 have hkind:∀ y∈ps.zip us,scope.names.lookup y.1=some .local\/(scope.names.lookup y.1=some .cell/\((cellsFrom (s.heap.objs.size+1) scope.names []).lookup y.1).isSome=true):=fun ⟨n,v⟩ hy=>by
  rcases S.par n (List.of_mem_zip hy).1 with q | q
  ·exact .inl q
  ·exact .inr ⟨q,PySem.W.cellsFrom_some _ _ _ (.inl q)⟩
 refine codeAny_call_function hr.depth (KX _ _ lk) rfl S.co S.gen rfl (PySem.W.codeRec_of KX hcd) (hb _ _ _ _ ?_)
 refine wpAny_newFunctionEnv_cells S.kind hkind fun env he s1 x=>?_
 subst he
 refine ⟨lim.keeps x.toInCall.keep,codeAny_func ?_⟩
 obtain ⟨t,ht,hq⟩:=hbody A outer s H vs Q E (hr.deeper _) hsp
 have I:Inv (cxOf CX P w K mg base N qual scope f cdv A outer s H E) [] (start N vs) H s1:=inv_start S hr.hd e0 hl r x
 refine xba (ht [] s1 (start N vs) H _ I hq) (fun fl s' hs=>?_) fun e s' hs=>hs
 have fin:∀ {σ':St} {H':Hp} {v:V} {u:Value},Inv (cxOf CX P w K mg base N qual scope f cdv A outer s H E) [] σ' H' s'->RelV v u->Q v H'->CE outer P w H s Q u s' :=
  fun {σ' H' v u} J rv q=>⟨v,H',J.os,J.bare,J.base,J.hok,rv,q⟩
 cases fl with
 | ret u =>
  obtain ⟨v,σ',H',J,rv,q⟩:=hs
  exact fin J rv q
 | next =>
  obtain ⟨σ',H',J,q⟩:=hs
  exact fin (v:=V.non) (u:=Value.none) J rfl q
 | brk =>
  obtain ⟨_,_,_,q⟩:=hs
  exact False.elim q
 | cont =>
  obtain ⟨_,_,_,q⟩:=hs
  exact False.elim q
section
variable {X:Cx} {x:Str} {p pos:Pos} {e:Expr} {es:List Expr} {t:TA} {id T:String} {r:List V->Hp->VK->Prop}
def tCB (r:List V->Hp->VK->Prop) (t:TA):TE:=fun σ H Q=>t σ H fun vs H1=>r vs H1 Q
theorem pe_callB (hc:CallR X (.builtin id) r) (hg:Gl X x) (hm:X.mg x=none) (hv:bootBuiltins x=some (.builtin id)) (ha:PA X (e :: es) t) (hn:x ≠ "__name__" := by decide) (hdb:(x == ("__debug__" : Str))=false:=by decide)
  (he:starEach (e :: es) X.env=(false,eval e X.env) :: starEach es X.env:=by rfl) (hpl:(backTo pos (starEach es X.env)).any (·.1)=false:=by rfl):PE X (.Call (.Name x p) (e :: es) [] pos) (tCB r t):=by
 intro pins s σ H Q I h
 refine wpAny_Call_Name_kw (ld_blt I hg hm hv ?_ hn hdb)
 exact PyProof.Rows.callWith_builtin1 (thn (ha pos pins s σ H _ I h) fun us s1 hx5=>L2.ex2 hx5 fun vs H1 I1 r1 q1=>hc pins s1 σ H1 vs us Q I1 r1 q1) he hpl
theorem pe_callTy (hc:CallR X (.type T) r) (hg:Gl X x) (hm:X.mg x=none) (hv:bootBuiltins x=some (.type T)) (ha:PA X (e :: es) t) (hn:x ≠ "__name__" := by decide) (hdb:(x == ("__debug__" : Str))=false:=by decide)
  (he:starEach (e :: es) X.env=(false,eval e X.env) :: starEach es X.env:=by rfl) (hpl:(backTo pos (starEach es X.env)).any (·.1)=false:=by rfl):PE X (.Call (.Name x p) (e :: es) [] pos) (tCB r t):=by
 intro pins s σ H Q I h
 refine wpAny_Call_Name_kw (ld_blt I hg hm hv ?_ hn hdb)
 exact PyProof.Rows.callWith_type1 (thn (ha pos pins s σ H _ I h) fun us s1 hx5=>L2.ex2 hx5 fun vs H1 I1 r1 q1=>hc pins s1 σ H1 vs us Q I1 r1 q1) he hpl
end
end L2
namespace HT
open PySem PyProof.Rows
section
open PySem.SeqAt
open PySem.AutoSeq1 (wpAny_loadPart')
open PySem.MeetsSeq PySem.MeetsSeq2 PySem.MeetsSeq3
end
section
variable {prog:Program} {w:World} {A:Around} {E:Value->Shared->Prop} {s:Shared}
theorem cat_tup {t b:Addr} {vs ws:List Value} {Q:Value->Shared->Prop} (ht:IsTup s.heap t vs.toArray) (hb:IsTup s.heap b ws.toArray) (hv:vs≠[])
  (h1:ws=[]->Q (.ref t) s) (h2:ws≠[]->Q (.ref s.heap.objs.size) { s with heap:=s.heap.push { cls:=.type "tuple",data:=.seq (vs++ws).toArray } })
  (hsz:vs.length+ws.length<=sizeLine):wpAny (model prog w) A (binaryOp .Add (.ref t) (.ref b)) Q E s:=by
 obtain ⟨⟨cls,dd,data,sl⟩,ho,hc,n,hd⟩:=id ht
 obtain ⟨⟨cls2,dd2,data2,sl2⟩,ho2,hc2,n2,hd2⟩:=id hb
 simp only at hc hd hc2 hd2
 subst hc hd hc2 hd2
 have e:vs.toArray++ws.toArray=(vs++ws).toArray:=by simp
 by_cases hw:ws=[]
 ·exact concat_meets ⟨_,ho,rfl⟩ ⟨_,ho2,rfl⟩ noFill_tuple_add seq_tuple_add PySem.F.slot_tuple_add PySem.F.entry_tuple_add (PySem.F.args_tuple_add_2 _ _)
   (tuple_addW1 t b vs.toArray ws.toArray n n2 dd dd2 sl sl2 (by simpa using hv) (by simp [hw])) ⟨ho,ho2,h1 hw⟩
 ·refine concat_meets ⟨_,ho,rfl⟩ ⟨_,ho2,rfl⟩ noFill_tuple_add seq_tuple_add PySem.F.slot_tuple_add PySem.F.entry_tuple_add (PySem.F.args_tuple_add_2 _ _)
   (tuple_addW2 t b vs.toArray ws.toArray n n2 dd dd2 sl sl2 (by simpa using hv) (by simpa using hw) (by rw [xaz,xaz]; exact hsz)) ⟨ho,ho2,?_⟩
  rw [e]
  exact h2 hw
def sIx (n d:Nat):Option Int->Nat
 | none=>d
 | some v=>if v<0 then (v+(n:Int)).toNat else min v.toNat n
theorem sIx_le (n d:Nat) (hd:d<=n) (o:Option Int):sIx n d o<=n:=by
 cases o with
 | none=>exact hd
 | some v =>
  show (if v<0 then (v+(n:Int)).toNat else min v.toNat n)<=n
  by_cases hv:v<0
  ·rw [if_pos hv]; lia
  ·rw [if_neg hv]; exact Nat.min_le_right _ _
theorem clip_eq (v:Int) (n d:Nat):(if v<0 then max (v+(n:Int)) 0 else min v (n:Int))=((sIx n d (some v):Nat):Int):=by
 show (if v<0 then max (v+(n:Int)) 0 else min v (n:Int))=(((if v<0 then (v+(n:Int)).toNat else min v.toNat n):Nat):Int)
 by_cases hv:v<0
 ·simp only [if_pos hv]; lia
 ·simp only [if_neg hv]; lia
theorem adjust_gen (lo hi:Option Int) (n:Nat):Builtin.Slice.sliceAdjust lo hi 1 (n:Int)=(((sIx n 0 lo:Nat):Int),((sIx n n hi:Nat):Int)):=by
 have h1:¬ ((1:Int)<0):=by decide
 unfold Builtin.Slice.sliceAdjust
 simp only [h1,if_false]
 refine Prod.ext ?_ ?_
 ·cases lo with
  | none=>rfl
  | some v=>exact clip_eq v n 0
 ·cases hi with
  | none=>rfl
  | some v=>exact clip_eq v n n
theorem places_gen (i j:Nat):Builtin.Slice.slicePlaces (i:Int) (j:Int) 1=j - i:=by
 unfold Builtin.Slice.slicePlaces
 have h1:(1:Int)>0:=by exact xbd _
 simp only [h1,if_true,Int.ediv_one]
 split <;> lia
theorem slicePart_ {v:Value} {o:Option Int} {Q:Option Int->Shared->Prop} (p:IsPart v o) (h:Q o s):wpAny (model prog w) A (Builtin.Slice.slicePartIndex v) Q E s:=by
 cases p with
 | none=>exact slicePart_none h
 | int i t=>exact slicePart_int h
theorem sliceApplied_gen {sl:Addr} {vl vu:Value} {lo hi:Option Int} {n:Nat} {Q:Int × Int × Nat->Shared->Prop} (hs:s.heap.IsSliceOf sl vl vu .none) (pl:IsPart vl lo) (pu:IsPart vu hi)
  (h:Q (((sIx n 0 lo:Nat):Int),1,sIx n n hi - sIx n 0 lo) s):wpAny (model prog w) A (Builtin.Slice.sliceApplied (.ref sl) (pure (n:Int))) Q E s:=by
 obtain ⟨os,hos,hcs,hds⟩:=id hs
 unfold Builtin.Slice.sliceApplied Builtin.Slice.sliceFields
 refine xaa (xaa (wpAny_field hos hds (x:=vl) rfl (xaa (wpAny_field hos hds (x:=vu) rfl (xaa (wpAny_field hos hds (x:=.none) rfl (xac ?_)))))))
 refine xaa (slicePart_none ?_)
 show wpAny _ _ (if ((1:Int) == 0)=true then _ else _) _ _ s
 rw [if_neg (by decide)]
 refine xaa (slicePart_ pl (xaa (slicePart_ pu (xaa (xac ?_)))))
 show wpAny _ _ (match Builtin.Slice.sliceAdjust lo hi 1 (n:Int) with | (lo,hi)=>pure (lo,(1:Int),Builtin.Slice.slicePlaces lo hi 1)) _ _ s
 rw [adjust_gen lo hi n]
 show wpAny _ _ (pure (((sIx n 0 lo:Nat):Int),(1:Int),Builtin.Slice.slicePlaces ((sIx n 0 lo:Nat):Int) ((sIx n n hi:Nat):Int) 1)) _ _ s
 rw [places_gen]
 exact xac h
theorem pick_gen (xs:Array Value) (i k:Nat):((List.range k).filterMap fun (m:Nat)=>xs[((i:Int)+(m:Int) * 1).toNat]?).toArray=((xs.toList.drop i).take k).toArray:=by
 have e:(fun (m:Nat)=>xs[((i:Int)+(m:Int) * 1).toNat]?)=fun m=>xs[i+m]? := by
  funext m
  have:((i:Int)+(m:Int) * 1).toNat=i+m:=by exact (Nat.add_assoc ..).symm
  rw [this]
 rw [e]
 have:=pick_run xs i k
 rw [xck] at this
 have e2:((fun x=>xs[x]?) ∘ fun x=>i+x)=fun m=>xs[i+m]? := rfl
 rw [e2] at this
 rw [this]
theorem getItem_tuple_cut {t sl:Addr} {items:Array Value} {vl vu:Value} {lo hi:Option Int} {Q:Value->Shared->Prop} (ht:IsTup s.heap t items) (hs:s.heap.IsSliceOf sl vl vu .none) (pl:IsPart vl lo) (pu:IsPart vu hi)
  (hw:¬ (sIx items.size 0 lo=0/\sIx items.size items.size hi=items.size))
  (h:Q (.ref s.heap.objs.size) { s with heap:=s.heap.push { cls:=.type "tuple",data:=.seq ((items.toList.drop (sIx items.size 0 lo)).take (sIx items.size items.size hi - sIx items.size 0 lo)).toArray } })
  (hsz:items.size<=sizeLine):wpAny (model prog w) A (getItem (.ref t) (.ref sl)) Q E s:=by
 have htake:sizeOk (.seq ((items.toList.drop (sIx items.size 0 lo)).take (sIx items.size items.size hi - sIx items.size 0 lo)).toArray):=by
  show ((items.toList.drop (sIx items.size 0 lo)).take (sIx items.size items.size hi - sIx items.size 0 lo)).toArray.size<=sizeLine
  rw [xaz,xaE,xa5,xa2]
  lia
 have hj:sIx items.size items.size hi<=items.size:=sIx_le _ _ (xaf _) hi
 obtain ⟨os,hos,hcs,hds⟩:=id hs
 have hTs:s.TypeIs (.ref sl) "slice" := ⟨os,hos,hcs⟩
 unfold getItem
 try with_reducible refine wpAny_holding ?_
 first | refine xaa (xac ?_) | skip
 refine xaa (wpAny_sequenceKey ht.typeIs (by decide) ?_)
 refine xaa (wpAny_callSpecial?_slot (name:=Str.ofString "__getitem__") ht.typeIs PyProof.Rows.slot_tuple_getitem
  (wpAny_call_entry PyProof.Rows.slot_tuple_getitem ht.typeIs entry_tuple_getitem ?_ (args_tuple_getitem _ _)))
 show wpAny _ _ (Builtin.Tuple.tupleItemsOf (.ref t) >>= _) _ _ s
 refine xaa (tupleItemsOf_ ht ?_)
 refine xaa (wpAny_typeOf hTs ?_)
 rw [if_pos (by decide)]
 refine xaa (sliceApplied_gen hs pl pu ?_)
 have hno:¬ ((((sIx items.size 0 lo:Nat):Int) == 0 && (1:Int) == 1 && (sIx items.size items.size hi - sIx items.size 0 lo) == items.size)=true):=by
  intro q
  rw [xaB,xaB] at q
  have q1:((sIx items.size 0 lo:Nat):Int)=0:=eq_of_beq q.1.1
  have q2:sIx items.size items.size hi - sIx items.size 0 lo=items.size:=eq_of_beq q.2
  exact hw ⟨by lia,by lia⟩
 show wpAny _ _ (if (((sIx items.size 0 lo:Nat):Int) == 0 && (1:Int) == 1 && (sIx items.size items.size hi - sIx items.size 0 lo) == items.size)=true then _ else _) _ _ s
 rw [if_neg hno,pick_gen]
 first
  | exact xaa (m:=Builtin.Tuple.tupleExact _) (wpAny_newObj_type (xac ⟨_,rfl,xac h⟩) htake)
  | exact xaa (m:=Builtin.Tuple.tupleExact _) (wpAny_newObj_type (xaa (xac (xac ⟨_,rfl,xac h⟩))) htake)
  | exact xaa (xaa (m:=Builtin.Tuple.tupleExact _) (wpAny_newObj_type (xac (xac ⟨_,rfl,xac h⟩)) htake))
  | exact xaa (xaa (m:=Builtin.Tuple.tupleExact _) (wpAny_newObj_type (xac ⟨_,rfl,xac h⟩) htake))
end
end HT
namespace L2
open PySem PySem.Spec PyProof.Rows
abbrev TO:=St->Hp->(Option Int->Hp->Prop)->Prop
def PO (X:Cx) (e:Option Expr) (t:TO):Prop :=
 ∀ (pins:List (Addr × Obj)) (s:Shared) (σ:St) (H:Hp) (Q:Option Int->Hp->Prop),Inv X pins σ H s->t σ H Q ->
  wpAny (model X.prog X.w) X.A (evalPart e X.env) (fun u s'=>∃ o H',Inv X pins σ H' s'/\IsPart u o/\Q o H') X.xe s
def tNoPart:TO:=fun _ H Q=>Q none H
def tPart (t:TE):TO:=fun σ H Q=>t σ H fun x H1=>∃ i,x=.int i/\Q (some i) H1
section
variable {X:Cx} {e:Expr} {te:TE} {lo hi:Option Expr} {tl th:TO} {pos p2:Pos}
theorem po_none:PO X none tNoPart:=by
 intro pins s σ H Q I h
 rw [evalPart_none]
 exact xac ⟨none,H,I,.none,h⟩
theorem po_some (h:PE X e te):PO X (some e) (tPart te):=by
 intro pins s σ H Q I hw
 rw [evalPart_some]
 refine thn (h pins s σ H _ I hw) fun u s1 hx5=>L2.ex2 hx5 fun x H1 I1 r1 q1=>?_
 obtain ⟨i,rfl,q⟩:=q1
 obtain ⟨t,rfl⟩:=r1
 exact ⟨some i,H1,I1,.int i t,q⟩
def SlR (X:Cx) (r:V->Option Int->Option Int->Hp->VK->Prop):Prop :=
 ∀ (pins:List (Addr × Obj)) (s:Shared) (σ:St) (H:Hp) (x:V) (v vl vu:Value) (lo hi:Option Int) (sl:Addr) (Q:VK),Inv X pins σ H s->RelV x v->s.heap.IsSliceOf sl vl vu .none->IsPart vl lo->IsPart vu hi->r x lo hi H Q ->
  ∃ T id,typeLookup (.type T) "__getitem__" = pure (some (.builtin id))/\s.TypeIs v T/\wpAny (model X.prog X.w) X.A (getItem v (.ref sl)) (EP X pins σ Q) X.xe s
def tSl (r:V->Option Int->Option Int->Hp->VK->Prop) (te:TE) (tl th:TO):TE:=fun σ H Q=>te σ H fun x H1=>tl σ H1 fun l H2=>th σ H2 fun u H3=>r x l u H3 Q
theorem pe_slice {r:V->Option Int->Option Int->Hp->VK->Prop} (hr:SlR X r) (he:PE X e te) (hl:PO X lo tl) (hu:PO X hi th):PE X (.Subscript e (.Slice lo hi none p2) pos) (tSl r te tl th):=by
 intro pins s σ H Q I h
 refine Subscript_ (thn (he pins s σ H _ I h) fun v s1 hx5=>L2.ex2 hx5 fun x H1 I1 r1 q1=>?_)
 refine wpAny_Slice (thn (hl pins s1 σ H1 _ I1 q1) fun vl s2 hx5=>L2.ex2 hx5 fun l H2 I2 pl q2=>thn (hu pins s2 σ H2 _ I2 q2) fun vu s3 hx5=>L2.ex2 hx5 fun u H3 I3 pu q3=>?_)
 rw [evalPart_none]
 refine xac ?_
 have I4:Inv X pins σ H3 { s3 with heap:=s3.heap.push { cls:=.type "slice",data:=.fields #[vl,vu,.none] } }:=I3.kept (t':=s3.toks) fun b ob q=>xae _ q
 obtain ⟨T,id,hT,ht,hg⟩:=hr pins { s3 with heap:=s3.heap.push { cls:=.type "slice",data:=.fields #[vl,vu,.none] } } σ H3 x v vl vu l u s3.heap.objs.size Q I4 r1 (Heap.IsSliceOf.new ..) pl pu q3
 show wpAny (model X.prog X.w) X.A (subscriptTail e (.Slice lo hi none p2) v (.ref s3.heap.objs.size)) (EP X pins σ Q) X.xe { s3 with heap:=s3.heap.push { cls:=.type "slice",data:=.fields #[vl,vu,.none] } }
 exact tail_any (ops:=[.ref s3.heap.objs.size,v]) ht hT hg (by with_unfolding_all rfl)
def cutV (xs:List V) (lo hi:Option Int):List V:=(xs.drop (HT.sIx xs.length 0 lo)).take (HT.sIx xs.length xs.length hi - HT.sIx xs.length 0 lo)
theorem cutV_length (xs:List V) (lo hi:Option Int):(cutV xs lo hi).length<=xs.length:=by
 unfold cutV
 rw [xaE,xa5]
 lia
def rSlT (K:PySem.W.Frag):V->Option Int->Option Int->Hp->VK->Prop:=fun x lo hi H Q=>∃ a xs,x=.ref a/\SqT K H a xs /\
 ¬ (HT.sIx xs.length 0 lo=0/\HT.sIx xs.length xs.length hi=xs.length)/\∀ p,H p=none->Q (.ref p) (upd H p (.tup (cutV xs lo hi)))
theorem sl_tup:SlR X (rSlT X.K):=by
 intro pins s σ H x v vl vu lo hi sl Q I rx hs pl pu h
 obtain ⟨a,xs,rfl,hx,hw,q⟩:=h
 cases rx
 obtain ⟨its,r,ht,hz⟩:=I.tuple hx
 have hlen:its.toArray.size=xs.length:=by rw [xaz]; exact r.length.symm
 refine ⟨"tuple",_,PyProof.Rows.slot_tuple_getitem.lookup,ht.typeIs,?_⟩
 refine HT.getItem_tuple_cut ht hs pl pu (by rw [hlen]; exact hw) ?_ (by rw [hlen]; exact hz)
 rw [hlen]
 refine ⟨.ref s.heap.objs.size,_,I.laid (t':=s.toks) (o:=.tup (cutV xs lo hi)) (fun b ob q=>xae _ q) (xaf _) ?_,rfl,q _ (I.hok.fresh (xaf _))⟩
 exact ⟨xaA (cutV_length xs lo hi) hz,_,(r.drop (HT.sIx xs.length 0 lo)).take (HT.sIx xs.length xs.length hi - HT.sIx xs.length 0 lo),IsTup.new _ _⟩
def rCatT (K:PySem.W.Frag):R2:=fun x y H Q=>∃ a b xs ys,x=.ref a/\y=.ref b/\SqT K H a xs/\SqT K H b ys/\xs≠[]/\xs.length+ys.length<=sizeLine /\
 (ys=[]->Q (.ref a) H)/\(ys≠[]->∀ p,H p=none->Q (.ref p) (upd H p (.tup (xs++ys))))
theorem Vals.nil_iff {xs:List V} {us:List Value} (r:Vals xs us):us=[]↔xs=[]:=by
 cases r with
 | nil=>simp
 | cons _ _=>simp
theorem op_catT:OpR X (binaryOp .Add) (rCatT X.K):=by
 intro pins s σ H x y v u Q I rx ry h
 obtain ⟨a,b,xs,ys,rfl,rfl,ha,hb,hx,hz,q1,q2⟩:=h
 cases rx
 cases ry
 obtain ⟨its,r1,p1,_⟩:=I.tuple ha
 obtain ⟨its2,r2,p2,_⟩:=I.tuple hb
 refine HT.cat_tup p1 p2 (fun z=>hx (r1.nil_iff.mp z)) (fun z=>⟨.ref a,H,I,rfl,q1 (r2.nil_iff.mp z)⟩) (fun z=>?_) (by rw [<- r1.length,<- r2.length]; exact hz)
 refine ⟨.ref s.heap.objs.size,_,I.laid (t':=s.toks) (o:=.tup (xs++ys)) (fun b ob q=>xae _ q) (xaf _) ?_,rfl,q2 (fun w=>z (r2.nil_iff.mpr w)) _ (I.hok.fresh (xaf _))⟩
 exact ⟨by rw [xaU]; exact hz,_,r1.append r2,IsTup.new _ _⟩
end
def ixN (n:Nat) (i:Int):Option Nat:=if 0<=i then (if i<n then some i.toNat else none) else if -(n:Int)<=i then some (i+n).toNat else none
def atI {α:Type} (xs:List α) (i:Int):Option α:=(ixN xs.length i).bind fun j=>xs[j]?
theorem ixN_seq {n:Nat} {i:Int} {j:Nat} (h:ixN n i=some j):seqIndex? i n=some j/\j<n/\-(n:Int)<=i/\i<n:=by
 unfold ixN at h
 by_cases h0:0<=i
 ·rw [if_pos h0] at h
  by_cases h1:i<n
  ·rw [if_pos h1] at h
   have e:i.toNat=j:=Option.some.inj h
   exact ⟨by rw [seqIndex_of h0 h1,e],by lia,by lia,h1⟩
  ·rw [if_neg h1] at h; cases h
 ·rw [if_neg h0] at h
  by_cases h1:-(n:Int)<=i
  ·rw [if_pos h1] at h
   have e:(i+n).toNat=j:=Option.some.inj h
   exact ⟨by rw [seqIndex_neg (by exact Int.not_le.mp ‹_›) h1,e],by lia,h1,by lia⟩
  ·rw [if_neg h1] at h; cases h
theorem atI_get {α:Type} {xs:List α} {i:Int} {v:α} (h:atI xs i=some v):∃ j,seqIndex? i xs.length=some j/\xs[j]? = some v/\j<xs.length/\-(xs.length:Int)<=i/\i<xs.length:=by
 unfold atI at h
 cases e:ixN xs.length i with
 | none=>rw [e] at h; cases h
 | some j =>
  rw [e] at h
  obtain ⟨h1,h2,h3,h4⟩:=ixN_seq e
  exact ⟨j,h1,h,h2,h3,h4⟩
theorem atI_nat {α:Type} {xs:List α} {j:Nat} {v:α} (h:xs[j]? = some v):atI xs (j:Int)=some v:=by
 have hj:j<xs.length:=(xal.mp h).1
 have e:ixN xs.length (j:Int)=some j:=by
  unfold ixN
  rw [if_pos (by walk_at "s1"),if_pos (by lia)]; simp
 unfold atI; rw [e]; exact h
theorem atI_last {α:Type} (xs:List α) (v:α):atI (xs++[v]) (-1)=some v:=by
 have hl:(xs++[v]).length=xs.length+1:=by simp
 have e:ixN (xs++[v]).length (-1)=some xs.length:=by
  unfold ixN
  rw [hl,if_neg (by decide),if_pos (by lia)]
  congr 1
  lia
 unfold atI
 rw [e]
 show (xs++[v])[xs.length]? = some v
 simp
def PlainIx (b:Expr):Prop:=∀ o i,subscripted b false o i=operate [o,i] (getItem o i)
def IxR (X:Cx) (r:R2):Prop :=
 ∀ (value slice:Expr) (pins:List (Addr × Obj)) (s:Shared) (σ:St) (H:Hp) (x y:V) (v u:Value) (Q:VK),Inv X pins σ H s->RelV x v->RelV y u->r x y H Q ->
  subscripted slice false v u=operate [v,u] (getItem v u)->wpAny (model X.prog X.w) X.A (subscriptTail value slice v u) (EP X pins σ Q) X.xe s
def MtR (X:Cx) (id:String) (r:V->List V->Hp->VK->Prop):Prop :=
 ∀ (pins:List (Addr × Obj)) (s:Shared) (σ:St) (H:Hp) (x:V) (xs:List V) (v:Value) (us:List Value) (Q:VK),Inv X pins σ H s->RelV x v->Vals xs us->r x xs H Q ->
  wpAny (model X.prog X.w) X.A (call (.builtin id) (v :: us)) (EP X pins σ Q) X.xe s
section
variable {X:Cx} {a b:Expr} {ta tb:TE} {pos:Pos}
theorem IxR.or {r r':R2} (h:IxR X r) (h':IxR X r'):IxR X (fun x y H Q=>r x y H Q\/r' x y H Q):=by
 intro value slice pins s σ H x y v u Q I rx ry q hs
 rcases q with q | q
 ·exact h value slice pins s σ H x y v u Q I rx ry q hs
 ·exact h' value slice pins s σ H x y v u Q I rx ry q hs
theorem pe_ix {r:R2} (hr:IxR X r) (ha:PE X a ta) (hb:PE X b tb) (hs:PlainIx b):PE X (.Subscript a b pos) (tOp r ta tb):=by
 intro pins s σ H Q I h
 exact Subscript_ (binT ha hb I h fun v u s2 x y H2 I2 rx ry q=>hr a b pins s2 σ H2 x y v u Q I2 rx ry q (hs _ _))
def rIxL (K:PySem.W.Frag):R2:=fun x y H Q=>∃ p xs i v,x=.ref p/\y=.int i/\SqL K H p xs/\atI xs i=some v/\Q v H
def rIxT (K:PySem.W.Frag):R2:=fun x y H Q=>∃ p xs i v,x=.ref p/\y=.int i/\SqT K H p xs/\atI xs i=some v/\Q v H
def rIxS:R2:=fun x y H Q=>∃ z i c,x=.str z/\y=.int i/\z.length<=sizeLine/\atI z.cps.toList i=some c/\Q (.str ⟨#[c]⟩) H
theorem ix_list:IxR X (rIxL X.K):=by
 intro value slice pins s σ H x y v u Q I rx ry h hs
 obtain ⟨p,xs,i,z,rfl,rfl,hq,he,q⟩:=h
 cases rx
 obtain ⟨t,rfl⟩:=ry
 obtain ⟨its,r,pl,hz⟩:=I.list hq
 obtain ⟨j,h1,h2,h3,h4,h5⟩:=atI_get he
 obtain ⟨w,ew,rw'⟩:=r.get h2
 have hl:=r.length
 have hn:=line63
 have fin:EP X pins σ Q w s:=⟨z,H,I,rw',q⟩
 by_cases h0:0<=i
 ·have hj:i.toNat=j:=by
   rw [seqIndex_of h0 h5] at h1
   exact Option.some.inj h1
  exact item_listR pl.isList h0 (by lia) (by rw [hj]; simpa using ew) fin hs
 ·have hj:(i+(its.toArray.size:Int)).toNat=j:=by
   rw [seqIndex_neg (by exact Int.not_le.mp ‹_›) h4] at h1
   rw [xaz,<- hl]
   exact Option.some.inj h1
  exact subscriptTail_builtinR (x:=w) pl.isList.typeIs slot_list_getitem.lookup
   (wpAny_getItem_list_neg (Q:=fun r s'=>r=w/\EP X pins σ Q r s') pl.isList (by exact Int.not_le.mp ‹_›) (by rw [xaz] <;> lia) (by lia) (by rw [hj]; simpa using ew) ⟨rfl,fin⟩) hs
theorem ix_tup:IxR X (rIxT X.K):=by
 intro value slice pins s σ H x y v u Q I rx ry h hs
 obtain ⟨p,xs,i,z,rfl,rfl,hq,he,q⟩:=h
 cases rx
 obtain ⟨t,rfl⟩:=ry
 obtain ⟨its,r,pl,hz⟩:=I.tuple hq
 obtain ⟨j,h1,h2,h3,h4,h5⟩:=atI_get he
 obtain ⟨w,ew,rw'⟩:=r.get h2
 have hl:=r.length
 have hn:=line63
 have fin:EP X pins σ Q w s:=⟨z,H,I,rw',q⟩
 exact subscriptTail_builtinR (x:=w) pl.typeIs slot_tuple_getitem.lookup
  (getItem_tuple (j:=j) (Q:=fun r s'=>r=w/\EP X pins σ Q r s') pl (by lia) (by lia) (by rw [xaz,<- hl]; exact h1) (by simpa using ew) ⟨rfl,fin⟩) hs
theorem ix_str:IxR X rIxS:=by
 intro value slice pins s σ H x y v u Q I rx ry h hs
 obtain ⟨z,i,c,rfl,rfl,hz,he,q⟩:=h
 obtain ⟨t,rfl⟩:=rx
 obtain ⟨t',rfl⟩:=ry
 obtain ⟨j,h1,h2,h3,h4,h5⟩:=atI_get he
 have hl:z.cps.toList.length=z.length:=by simp [Str.length]
 rw [hl] at h1 h4 h5
 have hn:=line63
 exact tail_any (typeIs_str s z t) slot_str_getitem.lookup (getItem_str (c:=c) (by
  have e1:decide (i < -(2 ^ 63:Int))=false:=decide_eq_false (by lia)
  have e2:decide (i >= 2 ^ 63)=false:=decide_eq_false (by lia)
  rw [e1,e2,Bool.or_false]) (by rw [h1]; simpa using h2) ⟨.str ⟨#[c]⟩,H,I.tok _,⟨_,rfl⟩,q⟩) hs
def rIx (K:PySem.W.Frag):R2:=fun x y H Q=>rIxL K x y H Q\/rIxT K x y H Q\/rIxS x y H Q
theorem ix_seq:IxR X (rIx X.K):=ix_list.or (ix_tup.or ix_str)
theorem slice_bounds (lo hi:Option Int) (n:Nat):(sliceBounds lo hi none n).1=((HT.sIx n 0 lo:Nat):Int)/\(sliceBounds lo hi none n).2.1=((HT.sIx n n hi:Nat):Int)/\(sliceBounds lo hi none n).2.2=1:=by
 refine ⟨?_,?_,rfl⟩
 ·cases lo with
  | none=>simp [sliceBounds,HT.sIx]
  | some i =>
   simp only [sliceBounds,HT.sIx,Option.getD_none,show (1:Int)>0 by decide,if_true]
   by_cases h:i<0
   ·simp only [h,if_true] <;> lia
   ·simp only [h,if_false] <;> lia
 ·cases hi with
  | none=>simp [sliceBounds,HT.sIx]
  | some i =>
   simp only [sliceBounds,HT.sIx,Option.getD_none,show (1:Int)>0 by decide,if_true]
   by_cases h:i<0
   ·simp only [h,if_true] <;> lia
   ·simp only [h,if_false] <;> lia
theorem slicePick_cut (its:List Value) (lo hi:Option Int):slicePick its.toArray lo hi none=((its.drop (HT.sIx its.length 0 lo)).take (HT.sIx its.length its.length hi - HT.sIx its.length 0 lo)).toArray:=by
 obtain ⟨h1,h2,h3⟩:=slice_bounds lo hi its.toArray.size
 unfold slicePick
 rw [h1,h2,h3]
 simp only [sliceRange_one,pick_run,xaz] <;> rfl
def rSlL (K:PySem.W.Frag):V->Option Int->Option Int->Hp->VK->Prop:=fun x lo hi H Q=>∃ a xs,x=.ref a/\SqL K H a xs/\∀ p,H p=none->Q (.ref p) (upd H p (.lst (cutV xs lo hi)))
theorem sl_list:SlR X (rSlL X.K):=by
 intro pins s σ H x v vl vu lo hi sl Q I rx hs pl pu h
 obtain ⟨a,xs,rfl,hx,q⟩:=h
 cases rx
 obtain ⟨its,r,ht,hz⟩:=I.list hx
 have hlen:=r.length
 refine ⟨"list",_,slot_list_getitem.lookup,ht.isList.typeIs,?_⟩
 refine wpAny_getItem_list_slice ht.isList hs pl pu .none (by simp) ?_ (by rw [xaz] <;> lia)
 rw [slicePick_cut,<- hlen]
 refine ⟨.ref s.heap.objs.size,_,I.laid (t':=s.toks) (o:=.lst (cutV xs lo hi)) (fun b ob q=>xae _ q) (xaf _) ?_,rfl,q _ (I.hok.fresh (xaf _))⟩
 exact ⟨xaA (cutV_length xs lo hi) hz,_,0,(r.drop (HT.sIx xs.length 0 lo)).take (HT.sIx xs.length xs.length hi - HT.sIx xs.length 0 lo),xaq _ rfl⟩
def flatV:V->Bool
 | .non=>true
 | .bl _=>true
 | .int _=>true
 | .str _=>true
 | _=>false
def eqV:V->V->Bool
 | .non,.non=>true
 | .bl a,.bl b=>a == b
 | .bl a,.int b=>(if a then 1 else 0) == b
 | .int a,.bl b=>a == (if b then 1 else 0)
 | .int a,.int b=>a == b
 | .str a,.str b=>a == b
 | _,_=>false
theorem eqAt_V {A:Around} {s:Shared} {y x:V} {u v:Value} (ry:RelV y u) (rx:RelV x v) (fy:flatV y=true) (fx:flatV x=true):SeqAt.EqAt A s u v (eqV y x):=by
 cases y with
 | non =>
  cases ry
  cases x with
  | non=>cases rx; exact SeqAt.EqAt.same _
  | bl b=>cases rx; exact SeqAt.EqAt.none_bool b
  | int b=>obtain ⟨t,rfl⟩:=rx; exact SeqAt.EqAt.none_int b t
  | str b=>obtain ⟨t,rfl⟩:=rx; exact SeqAt.EqAt.none_str b t
  | _=>exact absurd (show false=true from fx) xap
 | bl a =>
  cases ry
  cases x with
  | non=>cases rx; exact SeqAt.EqAt.bool_none a
  | bl b=>cases rx; exact SeqAt.EqAt.bool_bool a b
  | int b=>obtain ⟨t,rfl⟩:=rx; exact SeqAt.EqAt.bool_int a b t
  | str b=>obtain ⟨t,rfl⟩:=rx; exact SeqAt.EqAt.bool_str a b t
  | _=>exact absurd (show false=true from fx) xap
 | int a =>
  obtain ⟨t',rfl⟩:=ry
  cases x with
  | non=>cases rx; exact SeqAt.EqAt.int_none a t'
  | bl b=>cases rx; exact SeqAt.EqAt.int_bool a t' b
  | int b=>obtain ⟨t,rfl⟩:=rx; exact SeqAt.EqAt.int_int a t' b t
  | str b=>obtain ⟨t,rfl⟩:=rx; exact SeqAt.EqAt.int_str a t' b t
  | _=>exact absurd (show false=true from fx) xap
 | str a =>
  obtain ⟨t',rfl⟩:=ry
  cases x with
  | non=>cases rx; exact SeqAt.EqAt.str_none a t'
  | bl b=>cases rx; exact SeqAt.EqAt.str_bool a t' b
  | int b=>obtain ⟨t,rfl⟩:=rx; exact SeqAt.EqAt.str_int a t' b t
  | str b=>obtain ⟨t,rfl⟩:=rx; exact SeqAt.EqAt.str_str a t' b t
  | _=>exact absurd (show false=true from fx) xap
 | _=>exact absurd (show false=true from fy) xap
def eqU (x:V) (u:Value):Bool:=match u with
 | .none=>eqV .non x
 | .bool b=>eqV (.bl b) x
 | .int i _=>eqV (.int i) x
 | .str z _=>eqV (.str z) x
 | _=>false
theorem eqU_of {x y:V} {u:Value} (r:RelV y u) (f:flatV y=true):eqU x u=eqV y x:=by
 cases y with
 | non=>cases r; rfl
 | bl b=>cases r; rfl
 | int i=>obtain ⟨t,rfl⟩:=r; rfl
 | str z=>obtain ⟨t,rfl⟩:=r; rfl
 | _=>exact absurd (show false=true from f) xap
theorem any_eqU {x:V}:∀ {xs:List V} {us:List Value},Vals xs us->xs.all flatV=true->us.any (eqU x)=xs.any fun y=>eqV y x
 | _,_,.nil,_=>rfl
 | y :: xs,u :: us,.cons r t,f=>by
  rw [xbH,xaB] at f
  rw [xbI,xbI,eqU_of r f.1,any_eqU t f.2]
theorem mem_eqAt {A:Around} {s:Shared} {x:V} {v:Value} (rx:RelV x v) (fx:flatV x=true):∀ {xs:List V} {us:List Value},Vals xs us->xs.all flatV=true->∀ u∈us,SeqAt.EqAt A s u v (eqU x u)
 | _,_,.nil,_=>fun u hu=>by cases hu
 | y :: xs,u :: us,.cons r t,f=>fun u' hu=>by
  rw [xbH,xaB] at f
  rcases xak.mp hu with rfl | hu
  ·rw [eqU_of r f.1]; exact eqAt_V r rx f.1 fx
  ·exact mem_eqAt rx fx t f.2 u' hu
def inV (x:V) (xs:List V):Bool:=xs.any fun y=>eqV y x
def rIn (K:PySem.W.Frag) (neg:Bool):R2:=fun x y H Q=>∃ p xs,y=.ref p/\(SqL K H p xs\/SqT K H p xs)/\flatV x=true/\xs.all flatV=true/\Q (.bl (if neg then !inV x xs else inV x xs)) H
theorem op_in_seq:OpR X (compareOp .In) (rIn X.K false):=by
 intro pins s σ H x y v u Q I rx ry h
 obtain ⟨p,xs,rfl,hq,fx,fs,q⟩:=h
 cases ry
 rcases hq with hq | hq
 ·obtain ⟨its,r,pl,hz⟩:=I.list hq
  refine SeqAt.in_listAt (eqU x) pl.isList (fun w hw=>mem_eqAt rx fx r fs w (by simpa using hw)) ⟨.bl _,H,I,rfl,?_⟩
  rw [show its.toArray.any (eqU x)=its.any (eqU x) by simp,any_eqU r fs]
  exact q
 ·obtain ⟨its,r,pl,hz⟩:=I.tuple hq
  refine SeqAt.in_tupleAt (eqU x) pl (fun w hw=>mem_eqAt rx fx r fs w (by simpa using hw)) ⟨.bl _,H,I,rfl,?_⟩
  rw [show its.toArray.any (eqU x)=its.any (eqU x) by simp,any_eqU r fs]
  exact q
theorem CallR.or {f:Value} {r r':List V->Hp->VK->Prop} (h:CallR X f r) (h':CallR X f r'):CallR X f (fun xs H Q=>r xs H Q\/r' xs H Q):=by
 intro pins s σ H xs us Q I rs q
 rcases q with q | q
 ·exact h pins s σ H xs us Q I rs q
 ·exact h' pins s σ H xs us Q I rs q
theorem call_list_of:CallR X (.type "list") (fun xs H Q=>∃ p ys,xs=[.ref p]/\(SqL X.K H p ys\/SqT X.K H p ys)/\∀ l,H l=none->Q (.ref l) (upd H l (.lst ys))):=by
 intro pins s σ H xs us Q I r h
 obtain ⟨p,ys,rfl,hq,q⟩:=h
 obtain ⟨u,rfl,rx⟩:=vals1 r
 cases rx
 have fin:∀ (its:List Value),Vals ys its->ys.length<=sizeLine->∀ (h':Heap) (c':Nat),(∀ b o',s.heap.get? b=some o'->h'.get? b=some o') ->
   h'.get? s.heap.objs.size=some { cls:=.type "list",dict:=none,data:=.seq its.toArray c',slots:=#[] }->EP X pins σ Q (.ref s.heap.objs.size) { s with heap:=h' }:=fun its r' hz h' c' kp e =>
  ⟨.ref s.heap.objs.size,_,I.laid (t':=s.toks) kp (xaf _) (show ObjOk X.prog X.w _ h' _ (.lst ys) from ⟨hz,its,c',r',e⟩),rfl,q _ (I.hok.fresh (xaf _))⟩
 rcases hq with hq | hq
 ·obtain ⟨its,r',pl,hz⟩:=I.list hq
  have hlen:=r'.length
  obtain ⟨o,ho,hc,n,hd⟩:=pl.isList
  exact call_list_seq p (.inl rfl) ho hc hd (fun h' c' kp e=>fin its r' hz h' c' kp e) (by simp only [xaz] <;> lia)
 ·obtain ⟨its,r',pl,hz⟩:=I.tuple hq
  have hlen:=r'.length
  obtain ⟨o,ho,hc,n,hd⟩:=pl
  exact call_list_seq p (.inr rfl) ho hc hd (fun h' c' kp e=>fin its r' hz h' c' kp e) (by simp only [xaz] <;> lia)
def tyV (K:PySem.W.Frag) (T:String) (x:V) (H:Hp):Prop:=match x with
 | .str _=>T = "str"
 | .int _=>T = "int"
 | .ref p=>(T = "list"/\∃ xs,SqL K H p xs)\/(T = "tuple"/\∃ o,K.lookup p=some o/\o.cls=.type "tuple"/\o.dict=none) \/
   (T = "dict"/\((∃ kvs,H p=some (.dK kvs))\/∃ kvs,H p=some (.dT kvs)))\/(T = "set"/\∃ S n,H p=some (.set S n))
 | _=>False
theorem tyV_is {pins:List (Addr × Obj)} {σ:St} {H:Hp} {s:Shared} {T:String} {x:V} {v:Value} (I:Inv X pins σ H s) (r:RelV x v) (ty:tyV X.K T x H) :
  s.TypeIs v T/\∀ a,v=.ref a->∃ ob,s.heap.get? a=some ob/\ob.dict=none:=by
 cases x with
 | str z =>
  obtain ⟨t,rfl⟩:=r
  cases (show T = "str" from ty)
  exact ⟨typeIs_str s z t,fun _ e=>nomatch e⟩
 | int i =>
  obtain ⟨t,rfl⟩:=r
  cases (show T = "int" from ty)
  exact ⟨typeIs_int s i t,fun _ e=>nomatch e⟩
 | ref p =>
  cases r
  rcases ty with ⟨rfl,xs,hq⟩ | ⟨rfl,o,hk,hc,hd⟩ | ⟨rfl,hk⟩ | ⟨rfl,S,n,hk⟩
  ·obtain ⟨its,_,pl,_⟩:=I.list hq
   refine ⟨pl.isList.typeIs,fun a e=>?_⟩
   cases e
   obtain ⟨o,n,e,c,hd,_⟩:=pl
   exact ⟨o,e,hd⟩
  ·refine ⟨⟨o,I.kIn p o hk,hc⟩,fun a e=>?_⟩
   cases e
   exact ⟨o,I.kIn _ o hk,hd⟩
  ·have z:∃ o,s.heap.get? p=some o/\o.ExactDict:=by
    rcases hk with ⟨kvs,hk⟩ | ⟨kvs,hk⟩
    ·obtain ⟨_,_,_,_,o,_,_,e,ex,_⟩:=I.hok p _ hk
     exact ⟨o,e,ex⟩
    ·obtain ⟨_,_,_,_,o,_,_,e,ex,_⟩:=I.hok p _ hk
     exact ⟨o,e,ex⟩
   obtain ⟨o,e,ex⟩:=z
   refine ⟨⟨o,e,ex.1⟩,fun a e2=>?_⟩
   cases e2
   exact ⟨o,e,ex.2.1⟩
  ·obtain ⟨o,_,_,_,e,ex,_⟩:=I.hok p _ hk
   refine ⟨⟨o,e,ex.1⟩,fun a e2=>?_⟩
   cases e2
   exact ⟨o,e,ex.2.1⟩
 | _=>exact False.elim ty
def tBM (K:PySem.W.Frag) (T:String) (r:V->List V->Hp->VK->Prop) (to:TE) (t:TA):TE:=fun σ H Q=>to σ H fun x H1=>tyV K T x H1/\t σ H1 fun xs H2=>r x xs H2 Q
variable {o e:Expr} {es:List Expr} {to:TE} {t:TA} {name:Str} {apos cpos:Pos} {T id:String} {r:V->List V->Hp->VK->Prop}
theorem pe_bm (pa:PlainAttrs T) (slot:Slot T name id) (hty:typeOf (.builtin id)=pure (.type "method_descriptor")) (hm:MtR X id r) (ho:PE X o to) (ha:PA X (e :: es) t)
  (hbase:attributeBase o name X.env (eval o X.env)=eval o X.env:=by rfl)
  (hfew:((backTo cpos (starEach (e :: es) X.env)).all (fun x=>!x.1) && (backToKw cpos (keywordEach [] X.env)).all (fun x=>x.1.isSome)
   && decide ((e :: es).length+([]:List Keyword).length+(if ([]:List Keyword).isEmpty then 0 else 1)<30))=true:=by rfl)
  (hline:(apos.endLine == cpos.line)=true:=by rfl) (hs:starEach (e :: es) X.env=(false,eval e X.env) :: starEach es X.env:=by rfl) (hplain:(backTo cpos (starEach es X.env)).any (·.1)=false:=by rfl) :
  PE X (.Call (.Attribute o name apos) (e :: es) [] cpos) (tBM X.K T r to t):=by
 intro pins s σ H Q I h
 refine wpAny_Call_method_late hbase hfew hline rfl (thn (ho pins s σ H _ I h) fun v s1 hx9=>?_)
 obtain ⟨x,H1,I1,r1,ty,q1⟩:=hx9
 obtain ⟨h1,h2⟩:=tyV_is I1 r1 ty
 refine ⟨T,id,pa,slot,hty,h1,h2,?_⟩
 have hA:=ha cpos pins s1 σ H1 _ I1 q1
 rw [hs] at hA ⊢
 refine Calls.callWith_builtin (by show (false || (backTo cpos (starEach es X.env)).any (·.1))=false; rw [hplain] <;> rfl) (Calls.evalArgs_plain ?_)
 exact thn hA fun us s2 hx5=>L2.ex2 hx5 fun vs H2 I2 r2 q2=>hm pins s2 σ H2 x vs v us Q I2 r1 r2 q2
end
def MtM (X:Cx) (id:String) (r:V->List V->Hp->VK->Prop):Prop :=
 ∀ (pins:List (Addr × Obj)) (s:Shared) (σ:St) (H:Hp) (x:V) (xs:List V) (v:Value) (us:List Value) (Q:VK),Inv X pins σ H s->RelV x v->Vals xs us->r x xs H Q ->
  wpAny (model X.prog X.w) X.A (call (.builtin id) (v :: us)) (EP X pins σ Q) X.xe s
theorem Vals.one {x:V} {us:List Value} (h:Vals [x] us):∃ u,us=[u]/\RelV x u:=by
 cases h
 rename_i r h
 cases h
 exact ⟨_,rfl,‹_›⟩
theorem Vals.zero:∀ {us:List Value},Vals [] us->us=[]
 | _,.nil=>rfl
theorem Vals.rep {xs:List V} {us:List Value} (h:Vals xs us):∀ k:Nat,Vals (List.replicate k xs).flatten (List.replicate k us).flatten
 | 0=>.nil
 | k+1=>by
  rw [xaY,xaY,xa8,xa8]
  exact Vals.append h (Vals.rep h k)
section
variable {X:Cx} {pins:List (Addr × Obj)} {σ:St} {H:Hp} {s:Shared} {l:Addr} {xs ys:List V}
theorem Inv.lset {its its':List Value} {n:Nat} {f:Array Value->Array Value} {t':Nat} (I:Inv X pins σ H s) (hH:H l=some (.lst xs))
  (e:s.heap.get? l=some { cls:=.type "list",data:=.seq its.toArray n }) (hf:f its.toArray=its'.toArray) (hv:Vals ys its') (hz:ys.length<=sizeLine) :
  Inv X pins σ (upd H l (.lst ys)) { s with heap:=s.heap.update l (Obj.mapSeq f),toks:=t' }:=by
 have q:=PySem.IsL.update e f
 rw [hf] at q
 refine I.write (x:=l) (e:=l) (by rw [hH]; exact trivial) (.inl rfl) (fun b' u hb hu=>(xbo s.heap (Obj.mapSeq f) (Ne.symm hb)).trans hu) ⟨_,q⟩ ?_
 exact ⟨hz,its',_,hv,q⟩
theorem Inv.lnew {its:List Value} {t':Nat} (I:Inv X pins σ H s) (hv:Vals ys its) (hz:ys.length<=sizeLine) :
  Inv X pins σ (upd H s.heap.objs.size (.lst ys)) { s with heap:=s.heap.push { cls:=.type "list",data:=.seq its.toArray },toks:=t' } :=
 I.laid (fun _ _ q=>xae _ q) (xaf _) ⟨hz,its,0,hv,xaq _ rfl⟩
theorem Inv.fresh (I:Inv X pins σ H s):H s.heap.objs.size=none:=I.hok.fresh (xaf _)
theorem Inv.lstM (I:Inv X pins σ H s) (hH:H l=some (.lst xs)):xs.length<=sizeLine/\∃ (its:List Value) (n:Nat),Vals xs its/\xs.length=its.length/\s.heap.get? l=some { cls:=.type "list",data:=.seq its.toArray n }:=by
 obtain ⟨z,its,n,r,e⟩:=I.hok l _ hH
 exact ⟨z,its,n,r,r.length,e⟩
end
section
variable {X:Cx}
def rAppend:V->List V->Hp->VK->Prop:=fun x vs H Q=>∃ l xs y,x=.ref l/\vs=[y]/\H l=some (.lst xs)/\xs.length<sizeLine/\Q .non (upd H l (.lst (xs++[y])))
theorem mt_append:MtM X "list.append" rAppend:=by
 intro pins s σ H x vs v us Q I rx rv h
 obtain ⟨l,xs,y,rfl,rfl,hH,hz,q⟩:=h
 cases rx
 obtain ⟨u,rfl,ru⟩:=rv.one
 obtain ⟨z,its,n,r,hl,e⟩:=I.lstM hH
 refine call_meets F.slot_list_append ⟨_,e,rfl⟩ F.entry_list_append (F.args_list_append_2 _ _) (PySem.list_append l its.toArray n u (by rw [xaz]; lia)) ⟨e,?_⟩
 refine ⟨.non,_,I.lset (its':=its++[u]) hH e (by simp) (r.append (.cons ru .nil)) ?_,rfl,q⟩
 rw [xaU,List.length_singleton]
 assumption
end
section
set_option maxRecDepth 100000 in
end
section
variable {κ:Type} [DecidableEq κ]
def valV (kvs:List (κ × V)) (k:κ):Option V:=(kvs.find? fun kv=>decide (kv.1=k)).map (·.2)
def putK (kvs:List (κ × V)) (k:κ) (v:V):List (κ × V) :=
 if (kvs.any fun kv=>decide (kv.1=k))=true then kvs.map (fun kv=>if kv.1=k then (kv.1,v) else kv) else kvs++[(k,v)]
def dropK (kvs:List (κ × V)) (k:κ):List (κ × V):=kvs.filter fun kv=>decide (kv.1≠k)
theorem valV_pos {p:κ × V} {r:List (κ × V)} {k:κ} (e:p.1=k):valV (p :: r) k=some p.2:=by simp [valV,xbJ,e]
theorem valV_neg {p:κ × V} {r:List (κ × V)} {k:κ} (e:¬ p.1=k):valV (p :: r) k=valV r k:=by simp [valV,xbJ,e]
theorem valV_any (k:κ):∀ kvs:List (κ × V),(kvs.any fun kv=>decide (kv.1=k))=(valV kvs k).isSome
 | []=>rfl
 | p :: r=>by
  rw [xbI]
  by_cases e:p.1=k
  ·simp only [valV_pos e,decide_eq_true e,Bool.true_or,Option.isSome_some]
  ·rw [valV_neg e,decide_eq_false e,Bool.false_or]; exact valV_any k r
theorem length_putK (kvs:List (κ × V)) (k:κ) (v:V):(putK kvs k v).length<=kvs.length+1:=by
 unfold putK
 split
 ·rw [xag]; exact xb6 _ _
 ·rw [xaU,xaN,List.length_nil]; exact xaf _
theorem RelO.isSome_eq {o:Option V} {u:Option Value} (r:RelO o u):o.isSome=u.isSome:=by
 cases o with
 | none=>cases u with
  | none=>rfl
  | some _=>exact (show False from r).elim
 | some _=>cases u with
  | none=>exact (show False from r).elim
  | some _=>rfl
theorem KV.val {kvs:List (κ × V)} {vs:List (κ × Value)} (r:KV kvs vs) (k:κ):RelO (valV kvs k) (valueAt vs k):=by
 unfold KV at r
 induction r with
 | nil=>exact True.intro
 | @cons p q ps qs h t ih =>
  obtain ⟨h1,h2⟩:=h
  by_cases e:p.1=k
  ·have e':q.1=k:=h1.symm.trans e
   have b:valueAt (q :: qs) k=some q.2:=by simp [valueAt,xbJ,e']
   rw [valV_pos e,b]; exact h2
  ·have e':¬ q.1=k:=fun z=>e (h1.trans z)
   have b:valueAt (q :: qs) k=valueAt qs k:=by simp [valueAt,xbJ,e']
   rw [valV_neg e,b]; exact ih
theorem KV.any {kvs:List (κ × V)} {vs:List (κ × Value)} (r:KV kvs vs) (k:κ):(kvs.any fun kv=>decide (kv.1=k))=vs.any fun kv=>decide (kv.1=k):=by
 unfold KV at r
 induction r with
 | nil=>rfl
 | cons h t ih=>rw [xbI,xbI,ih,h.1]
theorem KV.repl {kvs:List (κ × V)} {vs:List (κ × Value)} (r:KV kvs vs) (k:κ) {y:V} {u:Value} (ry:RelV y u) :
  KV (kvs.map fun kv=>if kv.1=k then (kv.1,y) else kv) (vs.map fun kv=>if kv.1=k then (kv.1,u) else kv):=by
 unfold KV at r ⊢
 induction r with
 | nil=>exact .nil
 | @cons p q ps qs h t ih =>
  rw [xat,xat]
  refine .cons ?_ ih
  obtain ⟨h1,h2⟩:=h
  by_cases e:p.1=k
  ·rw [if_pos e,if_pos (h1.symm.trans e)]; exact ⟨h1,ry⟩
  ·rw [if_neg e,if_neg (fun z=>e (h1.trans z))]; exact ⟨h1,h2⟩
theorem KV.put {kvs:List (κ × V)} {vs:List (κ × Value)} (r:KV kvs vs) (k:κ) {y:V} {u:Value} (ry:RelV y u):KV (putK kvs k y) (stored vs k u):=by
 unfold putK stored
 rw [r.any k]
 by_cases e:(vs.any fun kv=>decide (kv.1=k))=true
 ·rw [if_pos e,if_pos e]; exact r.repl k ry
 ·rw [if_neg e,if_neg e]; exact Paired.snoc r ⟨rfl,ry⟩
theorem KV.drop {kvs:List (κ × V)} {vs:List (κ × Value)} (r:KV kvs vs) (k:κ):KV (dropK kvs k) (without vs k):=by
 unfold KV at r ⊢
 unfold dropK without
 induction r with
 | nil=>exact .nil
 | @cons p q ps qs h t ih =>
  obtain ⟨h1,h2⟩:=h
  rw [List.filter_cons,List.filter_cons]
  by_cases e:p.1=k
  ·have a:¬ decide (p.1≠k)=true:=by simp [e]
   have b:¬ decide (q.1≠k)=true:=by simp [h1.symm.trans e]
   rw [if_neg a,if_neg b]; exact ih
  ·have e':¬ q.1=k:=fun z=>e (h1.trans z)
   have a:decide (p.1≠k)=true:=by simp [e]
   have b:decide (q.1≠k)=true:=by simp [e']
   rw [if_pos a,if_pos b]; exact .cons ⟨h1,h2⟩ ih
theorem KV.length {kvs:List (κ × V)} {vs:List (κ × Value)} (r:KV kvs vs):kvs.length=vs.length:=Paired.length r
end
theorem kV_is {P:Program} {w:World} {k:Key} {u:Value} (r:RelV (kV k) u):(mixKind P w).is k u=true:=by
 cases k with
 | inl i=>obtain ⟨t,e⟩:=(show ∃ t,u=Value.int i t from r); subst e; exact mixKind_int P w i t
 | inr x=>obtain ⟨t,e⟩:=(show ∃ t,u=Value.str x t from r); subst e; exact mixKind_str P w x t
theorem items_are {P:Program} {w:World}:∀ {ks:List Key} {us:List Value},Vals (ks.map kV) us->ItemsAre (mixKind P w) ks us
 | [],_,r=>by rw [List.map_nil] at r; cases r; exact .nil
 | k :: ks,_,r=>by
  rw [xat] at r
  cases r with
  | cons h t=>exact .cons (kV_is h) (items_are t)
abbrev KT (H:Hp):List (List Key × V)->List (List Key × Addr × Value)->Prop:=Paired fun p q=>p.1=q.1/\H q.2.1=some (.tup (p.1.map kV))/\RelV p.2 q.2.2
theorem KT.val {H:Hp} {kvs:List (List Key × V)} {xs:List (List Key × Addr × Value)} (r:KT H kvs xs) (k:List Key):RelO (valV kvs k) ((atKey xs k).map (·.2)):=by
 induction r with
 | nil=>exact True.intro
 | @cons p q ps qs h t ih =>
  obtain ⟨h1,_,h2⟩:=h
  by_cases e:p.1=k
  ·have e':q.1=k:=h1.symm.trans e
   have b:atKey (q :: qs) k=some q.2:=by simp [atKey,xbJ,e']
   rw [valV_pos e,b]; exact h2
  ·have e':¬ q.1=k:=fun z=>e (h1.trans z)
   have b:atKey (q :: qs) k=atKey qs k:=by simp [atKey,xbJ,e']
   rw [valV_neg e,b]; exact ih
theorem KT.repl {H:Hp} {kvs:List (List Key × V)} {xs:List (List Key × Addr × Value)} (r:KT H kvs xs) (k:List Key) {y:V} {u:Value} (ry:RelV y u) :
  KT H (kvs.map fun kv=>if kv.1=k then (kv.1,y) else kv) (xs.map (putAt k u)):=by
 induction r with
 | nil=>exact .nil
 | @cons p q ps qs h t ih =>
  rw [xat,xat]
  refine .cons ?_ ih
  obtain ⟨h1,h2,h3⟩:=h
  unfold putAt
  by_cases e:p.1=k
  ·rw [if_pos e,if_pos (h1.symm.trans e)]; exact ⟨h1,h2,ry⟩
  ·rw [if_neg e,if_neg (fun z=>e (h1.trans z))]; exact ⟨h1,h2,h3⟩
theorem KT.put {H:Hp} {kvs:List (List Key × V)} {xs:List (List Key × Addr × Value)} (r:KT H kvs xs) (k:List Key) {b:Addr} {y:V} {u:Value} (hb:H b=some (.tup (k.map kV))) (ry:RelV y u) :
  KT H (putK kvs k y) (storedH xs k b u):=by
 have e:(kvs.any fun kv=>decide (kv.1=k))=(atKey xs k).isSome:=by
  rw [valV_any,(r.val k).isSome_eq,Option.isSome_map]
 unfold putK storedH
 rw [e]
 by_cases q:(atKey xs k).isSome=true
 ·rw [if_pos q,if_pos q]; exact r.repl k ry
 ·rw [if_neg q,if_neg q]; exact Paired.snoc r ⟨rfl,hb,ry⟩
theorem KT.keeps {H H':Hp} {kvs:List (List Key × V)} {xs:List (List Key × Addr × Value)} (r:KT H kvs xs) (ht:∀ b ys,H b=some (.tup ys)->H' b=some (.tup ys)):KT H' kvs xs :=
 Paired.mapP r fun _ _ z=>⟨z.1,ht _ _ z.2.1,z.2.2⟩
section
variable {P:Program} {w:World} {H:Hp} {h:Heap} {a:Addr}
theorem rd_of {u:HO} (ok:HOk P w H h) (e:Rd H a u):ObjOk P w H h a u:=e.ok ok
theorem dk_rd {kvs:List (Key × V)} (ok:HOk P w H h) (e:Rd H a (.dK kvs)):kvs.length<=sizeLine/\(a == sysModules)=false/\∃ vs,KV kvs vs/\h.DictOf (mixKind P w) a vs :=
 show ObjOk P w H h a (.dK kvs) from rd_of ok e
theorem dk_of {kvs:List (Key × V)} (ok:HOk P w H h) (e:H a=some (.dK kvs)):kvs.length<=sizeLine/\(a == sysModules)=false/\∃ vs,KV kvs vs/\h.DictOf (mixKind P w) a vs:=dk_rd ok (.inl e)
theorem key_of {ks:List Key} (ok:HOk P w H h) (e:H a=some (.tup (ks.map kV))):(tupleKind (mixKind P w)).is h ks a:=by
 obtain ⟨_,its,r,o,h1,h2,n,h3⟩:=(show ObjOk P w H h a (.tup (ks.map kV)) from ok a _ e)
 exact ⟨o,its.toArray,n,h1,h2,h3,by simpa using items_are r⟩
theorem dt_rd {kvs:List (List Key × V)} (ok:HOk P w H h) (e:Rd H a (.dT kvs)):kvs.length<=sizeLine/\(a == sysModules)=false /\
  ∃ xs,KT H kvs xs/\h.DictOfH (tupleKind (mixKind P w)) a xs:=by
 obtain ⟨z,y,xs,r,o,es,ep,h1,h2,h3,h4,h5⟩:=(show ObjOk P w H h a (.dT kvs) from rd_of ok e)
 refine ⟨z,y,xs,r,o,es,ep,h1,h2,h3,h4,fun x hx=>?_,h5⟩
 have all:∀ {l:List (List Key × V)} {m:List (List Key × Addr × Value)},KT H l m->∀ x∈m,(tupleKind (mixKind P w)).is h x.1 x.2.1:=by
  intro l m q
  induction q with
  | nil=>intro x hx; exact nomatch hx
  | @cons p q ps qs hq t ih =>
   intro x hx
   rcases xak.mp hx with e | hx
   ·subst e
    exact key_of ok (by rw [<- hq.1]; exact hq.2.1)
   ·exact ih x hx
 exact all r x hx
theorem dt_of {kvs:List (List Key × V)} (ok:HOk P w H h) (e:H a=some (.dT kvs)):kvs.length<=sizeLine/\(a == sysModules)=false /\
  ∃ xs,KT H kvs xs/\h.DictOfH (tupleKind (mixKind P w)) a xs:=dt_rd ok (.inl e)
end
def DGet (H:Hp) (a:Addr) (y:V) (r:Option V):Prop :=
 (∃ kvs k,Rd H a (.dK kvs)/\y=kV k/\r=valV kvs k)\/∃ kvs k b,Rd H a (.dT kvs)/\y=.ref b/\H b=some (.tup (k.map kV))/\r=valV kvs k
def DPut (H:Hp) (a:Addr) (y v:V) (H':Hp):Prop :=
 (∃ kvs k,H a=some (.dK kvs)/\y=kV k/\kvs.length<sizeLine/\H'=upd H a (.dK (putK kvs k v))) \/
 ∃ kvs k b,H a=some (.dT kvs)/\y=.ref b/\H b=some (.tup (k.map kV))/\kvs.length<sizeLine/\H'=upd H a (.dT (putK kvs k v))
theorem DGet.k {H:Hp} {a:Addr} {kvs:List (Key × V)} {k:Key} (e:H a=some (.dK kvs)):DGet H a (kV k) (valV kvs k):=.inl ⟨kvs,k,.inl e,rfl,rfl⟩
theorem DGet.t {H:Hp} {a b:Addr} {kvs:List (List Key × V)} {k:List Key} (e:H a=some (.dT kvs)) (eb:H b=some (.tup (k.map kV))):DGet H a (.ref b) (valV kvs k):=.inr ⟨kvs,k,b,.inl e,rfl,eb,rfl⟩
theorem DPut.k {H:Hp} {a:Addr} {kvs:List (Key × V)} {k:Key} {v:V} (e:H a=some (.dK kvs)) (hl:kvs.length<sizeLine):DPut H a (kV k) v (upd H a (.dK (putK kvs k v))):=.inl ⟨kvs,k,e,rfl,hl,rfl⟩
theorem DPut.t {H:Hp} {a b:Addr} {kvs:List (List Key × V)} {k:List Key} {v:V} (e:H a=some (.dT kvs)) (eb:H b=some (.tup (k.map kV))) (hl:kvs.length<sizeLine) :
  DPut H a (.ref b) v (upd H a (.dT (putK kvs k v))):=.inr ⟨kvs,k,b,e,rfl,eb,hl,rfl⟩
section
variable {X:Cx} {pins:List (Addr × Obj)} {σ:St} {H:Hp} {s:Shared} {a:Addr} {y v:V} {u r:Value} {o:Option V} {A:Around} {E:Value->Shared->Prop}
theorem Inv.big (I:Inv X pins σ H s):sysModules<s.heap.objs.size:=by
 have h:mainGlobals<s.heap.objs.size:=(I.mod.glob.keeps I.bk).lt
 exact xcv (by decide) h
theorem d_getItem {Q:Value->Shared->Prop} (hu:A.units+1<cLine) (I:Inv X pins σ H s) (g:DGet H a y (some v)) (ry:RelV y u) (h:∀ w' s',Inv X pins σ H s'->RelV v w'->Q w' s') :
  wpAny (model X.prog X.w) A (getItem (.ref a) u) Q E s:=by
 rcases g with ⟨kvs,k,e,ey,l⟩ | ⟨kvs,k,b,e,ey,eb,l⟩
 ·subst ey
  obtain ⟨z,hd,vs,rel,dd⟩:=dk_rd I.hok e
  obtain ⟨w',hw,rw'⟩:=RelO.some_of (v:=v) (o:=valueAt vs k) (by rw [l]; exact rel.val k)
  exact wpAny_getItem_of (kV_is ry) dd.mapOf hw (h w' _ (I.tok _) rw')
 ·subst ey
  cases (show u=Value.ref b from ry)
  obtain ⟨z,hd,xs,rel,dd⟩:=dt_rd I.hok e
  obtain ⟨w',hw,rw'⟩:=RelO.some_of (v:=v) (o:=(atKey xs k).map (·.2)) (by rw [l]; exact rel.val k)
  obtain ⟨p,hp,hp2⟩:=Option.map_eq_some_iff.mp hw
  refine wpAny_getItem_heap (tupleKind_room_in1 hu) (key_of I.hok eb) dd hp ?_
  rw [hp2]
  exact h w' _ (I.tok _) rw'
theorem d_in {Q:Value->Shared->Prop} (hu:A.units+1<cLine) (I:Inv X pins σ H s) (g:DGet H a y o) (ry:RelV y u) (h:∀ s',Inv X pins σ H s'->Q (.bool o.isSome) s') :
  wpAny (model X.prog X.w) A (compareOp .In u (.ref a)) Q E s:=by
 rcases g with ⟨kvs,k,e,ey,l⟩ | ⟨kvs,k,b,e,ey,eb,l⟩
 ·subst ey
  obtain ⟨z,hd,vs,rel,dd⟩:=dk_rd I.hok e
  refine wpAny_in_of (kV_is ry) hd dd.mapOf ?_
  rw [<- (rel.val k).isSome_eq,<- l]
  exact h _ (I.tok _)
 ·subst ey
  cases (show u=Value.ref b from ry)
  obtain ⟨z,hd,xs,rel,dd⟩:=dt_rd I.hok e
  refine wpAny_in_heap (tupleKind_room_in1 hu) (key_of I.hok eb) hd dd ?_
  have q:=(rel.val k).isSome_eq
  rw [Option.isSome_map] at q
  rw [<- q,<- l]
  exact h _ (I.tok _)
theorem d_write {h':Heap} {t':Nat} {ob:HO} (I:Inv X pins σ H s) (mu:Mut (H a)) (hs:Heap.SameBut a s.heap h') (he:∃ q,h'.get? a=some q) (new:ObjOk X.prog X.w (upd H a ob) h' a ob) :
  Inv X pins σ (upd H a ob) { s with heap:=h',toks:=t' } :=
 I.write (x:=a) (e:=a) mu (.inl rfl) (fun b q hb z=>(hs.2 b hb).trans z) he new
theorem dk_new {P:Program} {w:World} {H':Hp} {h':Heap} {kvs:List (Key × V)} {vs:List (Key × Value)} (z:kvs.length<=sizeLine) (hd:(a == sysModules)=false) (rel:KV kvs vs) (dd:h'.DictOf (mixKind P w) a vs) :
  ObjOk P w H' h' a (.dK kvs):=⟨z,hd,vs,rel,dd⟩
theorem d_setItem {H':Hp} {Q:Unit->Shared->Prop} (hu:A.units+1<cLine) (I:Inv X pins σ H s) (g:DPut H a y v H') (ry:RelV y u) (rv:RelV v r) (h:∀ s',Inv X pins σ H' s'->Q () s') :
  wpAny (model X.prog X.w) A (setItem (.ref a) u r) Q E s:=by
 rcases g with ⟨kvs,k,e,ey,l,eH⟩ | ⟨kvs,k,b,e,ey,eb,l,eH⟩
 ·subst ey eH
  obtain ⟨z,hd,vs,rel,dd⟩:=dk_of I.hok e
  have hz:vs.length<=sizeLine:=by rw [<- rel.length]; exact z
  have hl:(putK kvs k v).length<=sizeLine:=by have:=length_putK kvs k v; walk_at "s1"
  refine wpAny_setItem_pairs (hsz:=hz) (kV_is ry) dd fun h' dd' hs=>h _ ?_
  have he:∃ q,h'.get? a=some q:=let ⟨q,_,_,hq,_⟩:=dd'; ⟨q,hq⟩
  exact d_write I (by rw [e]; exact True.intro) hs he (dk_new hl hd (rel.put k rv) dd')
 ·subst ey eH
  cases (show u=Value.ref b from ry)
  obtain ⟨z,hd,xs,rel,dd⟩:=dt_of I.hok e
  have hz:xs.length<=sizeLine:=by rw [<- Paired.length rel]; exact z
  have hl:(putK kvs k v).length<=sizeLine:=by have:=length_putK kvs k v; walk_at "s1"
  refine wpAny_setItem_heap (hsz:=hz) (tupleKind_room_in1 hu) (key_of I.hok eb) dd fun h' dd' hs=>h _ ?_
  obtain ⟨q,es,ep,hq,h2,h3,h4,_,h5⟩:=dd'
  refine d_write I (by rw [e]; exact True.intro) hs ⟨q,hq⟩ ⟨hl,hd,_,(rel.put k eb rv).keeps fun c ys ec=>?_,q,es,ep,hq,h2,h3,h4,h5⟩
  rw [upd_ne (ne_of ec e (fun z=>nomatch z))]
  exact ec
end
section
variable {X:Cx} {pins:List (Addr × Obj)} {σ:St} {H:Hp} {s:Shared} {a:Addr} {kvs:List (Key × V)} {A:Around} {E:Value->Shared->Prop}
theorem d_len {Q:Value->Shared->Prop} (I:Inv X pins σ H s) (e:Rd H a (.dK kvs)) (h:∀ t s',Inv X pins σ H s'->Q (.int kvs.length t) s'):wpAny (model X.prog X.w) A (call (.builtin "len") [.ref a]) Q E s:=by
 obtain ⟨z,hd,vs,rel,dd⟩:=dk_rd I.hok e
 refine call_len_dict hd dd (by rw [<- rel.length]; rw [sizeLine_eq] at z; lia) ?_
 rw [<- rel.length]
 exact h _ _ (I.tok _)
end
theorem dict_typeIs {X:Cx} {pins:List (Addr × Obj)} {σ:St} {H:Hp} {s:Shared} {a:Addr} {y:V} {o:Option V} (I:Inv X pins σ H s) (g:DGet H a y o):s.TypeIs (.ref a) "dict" := by
 rcases g with ⟨kvs,k,e,_,_⟩ | ⟨kvs,k,b,e,_,_,_⟩
 ·obtain ⟨_,_,vs,_,dd⟩:=dk_rd I.hok e
  exact dd.typeIs
 ·obtain ⟨_,_,xs,_,dd⟩:=dt_rd I.hok e
  exact dd.typeIs
def sDPut (td ty tv:TE):TS:=fun D σ H=>tv σ H fun v H1=>td σ H1 fun x H2=>ty σ H2 fun y H3=>∃ a H4,x=.ref a/\DPut H3 a y v H4/\D.nx σ H4
section
variable {X:Cx} {o i value:Expr} {pos pos':Pos} {td ty tv:TE}
theorem ps_dput (hu:X.A.units+1<cLine) (ho:PE X o td) (hi:PE X i ty) (hv:PE X value tv) (hs:swapsWith value (some (.Subscript o i pos')) pos.line X.env=pure false) :
  PS X (.Assign [.Subscript o i pos'] value pos) (sDPut td ty tv):=by
 intro pins s σ H D I h
 refine wpAny_Assign_Subscript (thn (hv pins s σ H _ I h) fun r s1 hx5=>L2.ex2 hx5 fun v H1 I1 rv q1=>thn (ho pins s1 σ H1 _ I1 q1) fun u s2 hx5=>L2.ex2 hx5 fun x H2 I2 rx q2=>thn (hi pins s2 σ H2 _ I2 q2) fun iv s3 hx9=>?_) hs
 obtain ⟨y,H3,I3,ry,a,H4,ex,g,q3⟩:=hx9
 subst ex
 obtain rfl:u=Value.ref a:=rx
 exact d_setItem hu I3 g ry rv fun s4 I4=>⟨σ,H4,I4,q3⟩
end
theorem dt_empty {P:Program} {w:World} {H:Hp} (h:Heap) (hb:sysModules<h.objs.size):ObjOk P w H (h.push { cls:=.type "dict",data:=.dict #[] }) h.objs.size (.dT []) :=
 ⟨xas _,beq_eq_false_iff_ne.mpr (Ne.symm (xaw hb)),[],.nil,_,#[],0,xaq _ rfl,⟨rfl,rfl,rfl⟩,rfl,rfl,xaR⟩
def tDNewT:TE:=fun _ H Q=>∀ p,H p=none->Q (.ref p) (upd H p (.dT []))
section
variable {X:Cx} {pos:Pos}
theorem pe_dnewT:PE X (.Dict [] [] pos) tDNewT:=fun pins s σ H Q I h =>
 wpAny_Dict_empty ⟨.ref s.heap.objs.size,_,I.laid (a:=s.heap.objs.size) (o:=.dT []) (t':=s.toks) (fun _ _ q=>xae _ q) (xaf _) (dt_empty s.heap I.big),rfl,h _ (I.hok.fresh (xaf _))⟩
end
structure M1 (X:Cx) (o:Expr) (m:Str) (apos:Pos) (e:Expr) (cpos:Pos):Prop where
 base:attributeBase o m X.env (eval o X.env)=eval o X.env
 few:((backTo cpos (starEach [e] X.env)).all (fun x=>!x.1) && (backToKw cpos (keywordEach [] X.env)).all (fun x=>x.1.isSome)
  && decide (([e]:List Expr).length+([]:List Keyword).length+(if ([]:List Keyword).isEmpty then 0 else 1)<30))=true
 line:(apos.endLine == cpos.line)=true
 trees:backTo cpos (starEach [e] X.env)=[(false,eval e X.env)]
structure M2 (X:Cx) (o:Expr) (m:Str) (apos:Pos) (e f:Expr) (cpos:Pos):Prop where
 base:attributeBase o m X.env (eval o X.env)=eval o X.env
 few:((backTo cpos (starEach [e,f] X.env)).all (fun x=>!x.1) && (backToKw cpos (keywordEach [] X.env)).all (fun x=>x.1.isSome)
  && decide (([e,f]:List Expr).length+([]:List Keyword).length+(if ([]:List Keyword).isEmpty then 0 else 1)<30))=true
 line:(apos.endLine == cpos.line)=true
 trees:backTo cpos (starEach [e,f] X.env)=[(false,eval e X.env),(false,eval f X.env)]
end L2
namespace Att
open PySem PySem.W PySem.Calls PyProof.Rows
theorem ints_of_wellAll {P:Params} {h:Heap}:∀ (ns:List Int) (vs:List Value),WellAll P h vs (ns.map WData.int)->IntsAre vs ns:=by
 intro ns
 induction ns with
 | nil =>
  intro vs w
  rw [List.map_nil] at w
  cases w
  exact .nil
 | cons n ns ih =>
  intro vs w
  rw [xat] at w
  cases w with
  | cons a b =>
   cases a
   exact .cons _ _ (ih _ b)
theorem script_of {l:OpenLaw} {n:Nat} (hn:l.most=some n) {P:Params} {h:Heap} {args:List WData} {vals:List Value}
  (hpre:l.row.toRowW.claim.pre args=true) (hwl:WellAll P h vals args) :
  ∃ a vs ns,vals=[Value.ref a]/\args=[WData.list (ns.map WData.int)]/\h.get? a=some { cls:=.type "list",data:=.seq vs.toArray }/\IntsAre vs ns/\ns.length<=n:=by
 have hsh:WShape.hasAll [] args [.list .int]=true:=(pre_splitW hpre).1
 have hc:l.pre.holds [] { args:=args }=true:=(pre_splitW hpre).2
 obtain ⟨d,r,rfl,h1,h2⟩:=hasAllW_cons hsh
 obtain rfl:=hasAllW_nil h2
 obtain ⟨xs,rfl,h3⟩:=hasW_list h1
 obtain ⟨ns,rfl⟩:=items_int h3
 have hlen:ns.length<=n:=by
  unfold OpenLaw.pre at hc
  have h4:(WTm.not (.lt (.lit (.int (n:Int))) (.len (.arg 0)))).holds [] { args:=[.list (ns.map .int)] }=true:=by
   have h4:=(holds_andW hc).1
   rw [hn] at h4
   exact h4
  have h5:=condW_of h4 (w_not (w_lt w_lit (w_len_list (w_arg rfl))))
  rw [xag] at h5
  refine xbc fun q=>?_
  have q':(n:Int)<((ns.length:Nat):Int):=by lia
  first
   | (rw [decide_eq_true q'] at h5; exact absurd h5 (by decide))
   | (simp at h5; lia)
 cases hwl with
 | cons w1 w2 =>
  cases w2
  cases w1 with
  | list ho hall=>exact ⟨_,_,ns,rfl,rfl,ho,ints_of_wellAll ns _ hall,hlen⟩
theorem post_true (l:OpenLaw) (args:List WData):l.row.toRowW.claim.post args (.bool true) args=true :=
 postW_of (r:=l.row.toRowW) (X:=(true == true))
  (show WShape.has [] (.bool true) .bool=true by first | rfl | decide | simp [WShape.has,WShape.arms,WShape.armsAll])
  (show (WTm.eq .res (.lit (.bool true))).value [] { args:=args,res:=some (.bool true),after:=args }=some (.bool (true == true)) from w_eq_bool (w_res rfl) w_lit) rfl
theorem attach_call {l:OpenLaw} {n:Nat} {q:Program} {loose:List Str} {XP:(Str->Option Value)->Heap->Prop} {YP:World->Heap->Prop} {d:DefRec}
  (hn:l.most=some n) (hdf:d.params.defaults=[])
  (call:∀ (w:World) (s₀ s₁:Shared) (mg mb:Str->Option Value) (fa:Addr) (o:Obj) (pm cd doc:Value) (a:Addr) (vs:List Value) (ns:List Int),
   Ground q loose [] XP w s₀ mg mb s₁.heap->YP w s₁.heap ->
   s₁.heap.get? fa=some o->o.data=.func (docDef d.name d.params d.body d.scope pm cd doc)->s₁.heap.CodeRec cd d.name->mg d.name=some (.ref fa) ->
   s₁.heap.get? a=some { cls:=.type "list",data:=.seq vs.toArray }->IntsAre vs ns->ns.length<=n->s₁.gens = #[] ->
   codeAny (model l.prog w) callerA (.call (.ref fa) ⟨[.ref a],[]⟩) (fun r s'=>r=.ok (.ret (.bool true))/\OldK s₁.heap s'.heap/\s'.os=s₁.os/\AllBare s'.gens) s₁) :
  WalkO q loose XP YP l.row.toRowW d [] (fun f vs=>PySem.call f vs):=by
 intro w s₀ s₁ mg mb G Y fa o pm cd doc dV kV ho hd hcd hD hmg hg args vals as hpre hlay hrd hwl hlo
 obtain rfl:dV=.none:=Dflts.none hD hdf
 obtain rfl:kV=.none:=Dflts.noKw hD
 obtain ⟨a,vs,ns,rfl,rfl,hobj,hints,hlen⟩:=script_of hn hpre hwl
 refine enter_call (codeAny_mono (call w s₀ s₁ mg mb fa o pm cd doc a vs ns G Y ho (fd_plain hd) hcd hmg hobj hints hlen hg) fun r s' hq=>?_)
 obtain ⟨rfl,h2,h3,h4⟩:=hq
 exact ⟨.inl ⟨.bool true,.bool true,[],rfl,fun _=>rfl,.bool true,post_true l _,fun _=>⟨List.Pairwise.nil,fun _ hm=>(nomatch hm)⟩⟩,h2,h3,h4⟩
end Att
namespace L2
open PySem PySem.Spec PyProof.Rows
theorem vals_ints:∀ {vs:List Value} {ns:List Int},IntsAre vs ns->Vals (ns.map V.int) vs
 | _,_,.nil=>.nil
 | _,_,.cons n t h=>.cons ⟨t,rfl⟩ (vals_ints h)
def Only (H:Hp):Prop:=∀ b,H b=none\/∃ o xs,H b=some (.frz o (.lst xs))
theorem law_call {P:Program} {w:World} {K:PySem.W.Frag} {mg mb:Str->Option Value} {CX:CXT} {k:Nat} {fa a:Addr} {fd:FuncData} {x:Str} {sp:Sp} {s₁:Shared} {vs:List Value} {ns:List Int}
  (KX:K.In s₁.heap) (hns:s₁.heap.Ns mainGlobals mg) (hb:s₁.heap.Ns builtinsNs mb) (hbb:∀ x:Str,x ≠ "__name__"->mb x=bootBuiltins x) (hlim:s₁.heap.NoLimit) (hg:s₁.gens = #[])
  (ha:s₁.heap.get? a=some { cls:=.type "list",data:=.seq vs.toArray }) (hi:IntsAre vs ns) (hl:ns.length<=sizeLine) (hr:Room k callerA)
  (F:∀ base:Heap,K.In base->base.Ns mainGlobals mg->FnOk P w K mg base CX k fa fd [x] sp) (hbind:∀ (s:Shared) (u:Value),BindsTo s fd ⟨[u],[]⟩ [(x,u)])
  (hsp:∀ H:Hp,Only H->SqL K H a (ns.map V.int)->sp [.ref a] H (fun v _=>v=.bl true) fun _ _ _=>False)
  (hCX:∀ H e s',CX [] H s₁ (fun _ _ _=>False) e s'->False) :
  codeAny (model P w) callerA (.call (.ref fa) ⟨[.ref a],[]⟩) (fun r s'=>r=.ok (.ret (.bool true))/\OldK s₁.heap s'.heap/\s'.os=s₁.os/\AllBare s'.gens) s₁:=by
 have rv:=vals_ints hi
 have lenV:=hi.length
 -- from an abstract heap in which nothing but the script may be tracked
 have core:∀ H:Hp,Only H->SqL K H a (ns.map V.int)->HOk P w H s₁.heap->(∀ b,H b≠none->b=a)->(H a≠none->K.lookup a=none) ->
   codeAny (model P w) callerA (.call (.ref fa) ⟨[.ref a],[]⟩) (fun r s'=>r=.ok (.ret (.bool true))/\OldK s₁.heap s'.heap/\s'.os=s₁.os/\AllBare s'.gens) s₁:=by
  intro H hO hS hok hA hK
  have base_of:∀ {b:Addr} {o:Obj},s₁.heap.get? b=some o->H b=none->(hidT s₁.heap H).get? b=some o:=fun e n=>hidT_get e n
  have noA:∀ {b:Addr} {o:Obj} {es:Array DictEntry} {ep:Nat},s₁.heap.get? b=some o->o.data=.dict es ep->H b=none:=fun {b o es ep} e d=>by
   cases q:H b with
   | none=>rfl
   | some u =>
    have e':b=a:=hA b (by rw [q]; simp)
    subst e'
    rw [ha] at e; cases e
    have d':Data.seq vs.toArray _=Data.dict es ep:=d
    cases d'
  have nsK:∀ {b:Addr} {m:Str->Option Value},s₁.heap.Ns b m->(hidT s₁.heap H).Ns b m:=fun {b m} ⟨o,es,ep,e,d,r⟩=>⟨o,es,ep,base_of e (noA e d),d,r⟩
  have hKb:K.In (hidT s₁.heap H):=fun b o e=>base_of (KX b o e) (by
   cases q:H b with
   | none=>rfl
   | some u =>
    have e':b=a:=hA b (by rw [q]; simp)
    subst e'
    rw [hK (by rw [q]; simp)] at e; cases e)
  have hM:Mod K mg (hidT s₁.heap H):=⟨hKb,nsK hns,⟨mb,nsK hb,hbb⟩,let ⟨mc,h1,h2⟩:=hlim; ⟨mc,nsK h1,h2⟩⟩
  have e0:Env0 P w K mg (hidT s₁.heap H) callerA [] s₁ H:=⟨rfl,hM,fun b o e=>of_hidT e,xcg (hidT_size _ _),trivial,fun b hb=>absurd (show b∈([]:List Addr) from hb) (by simp),hok,.of_eq hg⟩
  refine codeAny_mono ((F _ hKb (nsK hns)).run callerA [] s₁ H ⟨[.ref a],[]⟩ [.ref a] [.ref a] _ _ hr e0 (hbind s₁ (.ref a)) (.cons rfl .nil) (hsp H hO hS)) fun r s' h=>?_
  cases r with
  | error e=>exact (hCX H e s' h).elim
  | ok fl =>
   cases fl with
   | next=>exact False.elim h
   | brk=>exact False.elim h
   | cont=>exact False.elim h
   | ret u =>
    obtain ⟨v,H',os,bare,un,hok',r',q⟩:=h
    have q':v=.bl true:=q
    subst q'
    obtain rfl:u=Value.bool true:=r'
    refine ⟨rfl,OldK.of_keep fun b o e=>?_,os,bare⟩
    cases q:H b with
    | none=>exact un.keep b o e q (by intro z; exact absurd (show b∈([]:List Addr) from z) (by simp)) (by simp)
    | some u =>
     rcases hO b with z | ⟨ob,xs,z⟩
     ·rw [q] at z; cases z
     ·have z2:=un.frzs b ob _ z
      obtain ⟨e1,_⟩:=hok b _ z
      obtain ⟨e2,_⟩:=hok' b _ z2
      rw [e] at e1; cases e1
      exact e2
 cases hk:K.lookup a with
 | some o =>
  -- the script is one of the module's own objects
  have e:=KX a o hk
  rw [ha] at e
  cases e
  refine core (fun _=>none) (fun _=>.inl rfl) (.inr ⟨_,vs.toArray,_,hk,rfl,rfl,rfl,by rw [xaz,lenV]; exact hl,by simpa using rv⟩) (fun b u z=>by have z':(none:Option HO)=some u:=z; cases z') (fun b z=>absurd rfl z) fun z=>absurd rfl z
 | none =>
  refine core (fun b=>if b=a then some (.frz { cls:=.type "list",data:=.seq vs.toArray } (.lst (ns.map V.int))) else none) (fun b=>?_) (.inl (.inr ⟨{ cls:=.type "list",data:=.seq vs.toArray },if_pos rfl⟩)) (fun b u z=>?_) (fun b z=>?_) fun _=>hk
  ·by_cases hb:b=a
   ·exact .inr ⟨_,_,if_pos hb⟩
   ·exact .inl (if_neg hb)
  ·by_cases hb:b=a
   ·have z':=(if_pos hb).symm.trans z
    cases z'
    subst hb
    exact ⟨ha,by rw [xag]; exact hl,vs,_,rv,ha⟩
   ·have z':=(if_neg hb).symm.trans z
    cases z'
  ·by_cases hb:b=a
   ·exact hb
   ·exact absurd (if_neg hb) z
theorem walk_of {l:PySem.W.OpenLaw} {n k:Nat} {q:Program} {loose:List Str} {XP:(Str->Option Value)->Heap->Prop} {YP:World->Heap->Prop} {d:DefRec} {K:Params->PySem.W.Frag} {CX:World->CXT} {sp:World->Sp} {x:Str}
  (hn:l.most=some n) (hn2:n<=sizeLine) (hdf:d.params.defaults=[]) (hr:Room k callerA)
  (hY:∀ (w:World) (h:Heap),YP w h->(K w.params).In h)
  (F:∀ (w:World) (mg:Str->Option Value) (fa:Addr) (h:Heap),(K w.params).In h->h.Ns mainGlobals mg->mg d.name=some (.ref fa) ->
   ∃ fd:FuncData,(∀ (s:Shared) (u:Value),BindsTo s fd ⟨[u],[]⟩ [(x,u)]) /\
    ∀ base:Heap,(K w.params).In base->base.Ns mainGlobals mg->FnOk l.prog w (K w.params) mg base (CX w) k fa fd [x] (sp w))
  (hsp:∀ (w:World) (H:Hp) (a:Addr) (ns:List Int),ns.length<=n->Only H->SqL (K w.params) H a (ns.map V.int)->sp w [.ref a] H (fun v _=>v=.bl true) fun _ _ _=>False)
  (hCX:∀ (w:World) (H:Hp) (s:Shared) (e:Value) (s':Shared),CX w [] H s (fun _ _ _=>False) e s'->False) :
  PySem.W.WalkO q loose XP YP l.row.toRowW d [] (fun f vs=>PySem.call f vs):=by
 refine Att.attach_call hn hdf fun w s₀ s₁ mg mb fa o pm cd doc a vs ns G Y ho hd hcd hmg hobj hints hlen hg=>?_
 have KX:=hY w _ Y
 obtain ⟨fd,hb,hF⟩:=F w mg fa _ KX G.T.g hmg
 exact law_call KX G.T.g G.T.b G.T.builtins G.T.nolimit hg hobj hints (xaA hlen hn2) hr hF hb (fun H hO hS=>hsp w H a ns hlen hO hS) fun H e s'=>hCX w H s₁ e s'
def defArgs (s:Stmt):Arguments:=match s with
 | .FunctionDef _ a _ _ _ _ _ _ _ _=>a
 | _=>{ posonlyargs:=[],args:=[],vararg:=none,kwonlyargs:=[],kw_defaults:=[],kwarg:=none,defaults:=[] }
def defBody (s:Stmt):List Stmt:=match s with
 | .FunctionDef _ _ b _ _ _ _ _ _ _=>b
 | _=>[]
def defScope (s:Stmt):Scope:=match s with
 | .FunctionDef _ _ _ _ _ _ sc _ _ _=>sc
 | _=>{ kind:=.function,names:=[],isGenerator:=false,isCoroutine:=false }
abbrev CX0:CXT:=fun _ _ _ _ _ _=>False
abbrev E0:XK:=fun _ _ _=>False
theorem pass0 {X:Cx}:Passes CX0 X E0:=fun _ _ _ _ _ _ _ h=>h.elim
structure Fun (K:PySem.W.Frag) (x qual:Str) (st:Stmt) (f:Addr) (fd:FuncData):Prop where
 ex:∃ (oc:Value) (od:Option Addr) (kV doc pm:Value) (an:Option Addr) (cdv ct:Value) (osl:Array (Option Value)),
  fd=PySem.W.fnOf x qual (defArgs st) (defBody st) (defScope st) .none kV doc pm an cdv ct/\K.lookup f=some ⟨oc,od,.func fd,osl⟩/\PySem.W.codeIn K cdv qual=true
 kp:PySem.W.keepIn K (.ref f)=true
section
variable {P:Program} {w:World} {K:PySem.W.Frag} {mg:Str->Option Value} {base:Heap}
theorem Fun.ok {x qual:Str} {st:Stmt} {f:Addr} {fd:FuncData} {N ps:List Str} {k:Nat} {sp:Sp} (F:Fun K x qual st f fd) (S:FnScope N ps (defScope st)) (len:∀ vs H Q E,sp vs H Q E->vs.length=ps.length)
  (hbody:∀ (cdv:Value) (A:Around) (outer:List Env) (s:Shared) (H:Hp) (vs:List V) (Q:VK) (E:XK),Room k (A.deeper (envOfC qual (defScope st) s.heap.objs.size f cdv))->sp vs H Q E ->
   ∃ t,PSs (cxOf CX0 P w K mg base N qual (defScope st) f cdv A outer s H E).nox (defBody st) t/\t { nx:=fun _ H'=>Q .non H',rt:=Q } (start N vs) H):FnOk P w K mg base CX0 (k+1) f fd ps sp:=by
 obtain ⟨oc,od,kV,doc,pm,an,cdv,ct,osl,rfl,lk,hcd⟩:=F.ex
 refine fn_of lk hcd S len fun A outer s H vs Q E hr hsp=>?_
 obtain ⟨t,h,q⟩:=hbody cdv A outer s H vs Q E hr hsp
 exact ⟨t,h.nox,q⟩
theorem Fun.binds {x qual:Str} {st:Stmt} {f:Addr} {fd:FuncData} {ps:List Str} (F:Fun K x qual st f fd)
  (h:∀ (kV doc pm:Value) (an:Option Addr) (cdv ct:Value) (us:List Value),us.length=ps.length->bindArgs (PySem.W.fnOf x qual (defArgs st) (defBody st) (defScope st) .none kV doc pm an cdv ct) ⟨us,[]⟩=pure (ps.zip us)):Binds K fd ps []:=by
 obtain ⟨oc,od,kV,doc,pm,an,cdv,ct,osl,rfl,lk,hcd⟩:=F.ex
 exact .all (h kV doc pm an cdv ct)
theorem fun_mk {x qual:Str} {st:Stmt} {f:Addr} {oc:Value} {od an:Option Addr} {osl:Array (Option Value)} {kV doc pm cdv ct:Value} (l:K.lookup f=some ⟨oc,od,.func (PySem.W.fnOf x qual (defArgs st) (defBody st) (defScope st) .none kV doc pm an cdv ct),osl⟩)
  (c:PySem.W.codeIn K cdv qual=true) (k:PySem.W.keepIn K (.ref f)=true):Fun K x qual st f (PySem.W.fnOf x qual (defArgs st) (defBody st) (defScope st) .none kV doc pm an cdv ct):=⟨⟨oc,od,kV,doc,pm,an,cdv,ct,osl,rfl,l,c⟩,k⟩
end
section
variable {X:Cx}
theorem pv (i:Nat) {x:Str} {pos:Pos} (hN:X.N[i]? = some x:=by rfl) (hv:Vis X.env.scope x:=by first | exact Or.inl rfl | exact Or.inr (Or.inl rfl) | exact Or.inr (Or.inr rfl)) (hd:(x == ("__debug__" : Str))=false:=by decide)
  (hcd:(x == ("__classdict__" : Str))=false:=by decide):PE X (.Name x pos) (tVar i):=pe_var hN hv hd hcd
theorem call_lenD:CallR X (.builtin "len") (fun xs H Q=>∃ a kvs,xs=[V.ref a]/\H a=some (.dK kvs)/\Q (.int kvs.length) H):=by
 intro pins s σ H xs us Q I r h
 obtain ⟨a,kvs,rfl,ha,q⟩:=h
 obtain ⟨u,rfl,ru⟩:=vals1 r
 cases ru
 exact d_len I (.inl ha) fun t s' I'=>⟨.int kvs.length,H,I',⟨t,rfl⟩,q⟩
end
def Same (H H':Hp):Prop:=∀ b o,H b=some o->H' b=some o
theorem Same.refl (H:Hp):Same H H:=fun _ _ h=>h
theorem Same.trans {H H1 H2:Hp} (a:Same H H1) (b:Same H1 H2):Same H H2:=fun c o h=>b c o (a c o h)
theorem Same.free {H H':Hp} (e:Same H H') {l:Addr} (h:H' l=Option.none):H l=Option.none:=by
 cases q:H l with
 | none=>rfl
 | some o =>
  rw [e l o q] at h
  cases h
theorem Same.seq {K:PySem.W.Frag} {H H':Hp} {a:Addr} {xs:List V} (e:Same H H') (h:SqL K H a xs):SqL K H' a xs:=by
 rcases h with (h | ⟨o,h⟩) | h
 ·exact .inl (.inl (e _ _ h))
 ·exact .inl (.inr ⟨o,e _ _ h⟩)
 ·exact .inr h
end L2
set_option maxHeartbeats 4000000
namespace L2
open PySem PySem.Spec PyProof.Rows
def clOf (env:Env):List (Str × NameKind)->List (Str × Addr)->List (Str × Addr)
 | [],cs=>cs
 | (n,k) :: r,cs=>clOf env r (if k == NameKind.free then (n,(env.cells.lookup n).getD 0) :: cs else cs)
theorem fH (env:Env):∀ (names:List (Str × NameKind)) (cs:List (Str × Addr)),(∀ y∈names,y.2=.free->∃ c,env.cells.lookup y.1=some c) ->
  (forIn names cs fun x r=>match x with
   | (name,kind)=>if (kind == NameKind.free)=true then do let a <- cellOf env name; pure (ForInStep.yield ((name,a) :: r)) else pure (ForInStep.yield r):Sem (List (Str × Addr)))=pure (clOf env names cs)
 | [],cs,_=>rfl
 | (n,k) :: r,cs,h=>by
  rw [List.forIn_cons]
  have ih:=fH env r
  by_cases hk:k=.free
  ·subst hk
   obtain ⟨c,e⟩:=h (n,.free) xad rfl
   have e:env.cells.lookup n=some c:=e
   have e2:cellOf env n=pure c:=by unfold cellOf; rw [e]
   have e3:clOf env ((n,.free) :: r) cs=clOf env r ((n,c) :: cs):=by
    show clOf env r (if (NameKind.free == NameKind.free)=true then (n,(env.cells.lookup n).getD 0) :: cs else cs)=_
    rw [e]; rfl
   rw [e3,<- ih ((n,c) :: cs) fun y hy=>h y (xab _ hy)]
   simp only [beq_self_eq_true,if_true,e2]
   rfl
  ·have hb:(k == NameKind.free)=false:=by simpa using hk
   have e3:clOf env ((n,k) :: r) cs=clOf env r cs:=by
    show clOf env r (if (k == NameKind.free)=true then _ else cs)=_
    rw [hb]; rfl
   rw [e3,<- ih cs fun y hy=>h y (xab _ hy)]
   simp only [hb,xao,if_false]
   rfl
theorem mL (h:∀ y∈scope.names,y.2=.free->∃ c,env.cells.lookup y.1=some c):closureFor scope env=pure (clOf env scope.names []):=by
 have:=fH env scope.names [] h
 unfold closureFor
 rw [<- bind_pure (forIn scope.names [] _)] at this
 exact this
theorem lZ:∀ {names:List (Str × NameKind)} {cs:List (Str × Addr)},(∀ y∈names,y.2=.free->∃ c,env.cells.lookup y.1=some c)->(∀ y d,cs.lookup y=some d->env.cells.lookup y=some d) ->
  (clOf env names cs).lookup x=some c->env.cells.lookup x=some c
 | [],cs,_,h,e=>h x c e
 | (n,k) :: r,cs,hf,h,e=>by
  refine lZ (names:=r) (fun y hy=>hf y (xab _ hy)) ?_ e
  intro y d hd
  by_cases hk:k=.free
  ·subst hk
   obtain ⟨c',e'⟩:=hf (n,.free) xad rfl
   have e':env.cells.lookup n=some c':=e'
   simp only [beq_self_eq_true,if_true,e',Option.getD_some,xa6] at hd
   cases hb:y == n with
   | true=>rw [hb] at hd; have:y=n:=eq_of_beq hb; subst this; rw [e']; exact hd
   | false=>rw [hb] at hd; exact h y d hd
  ·have hb:(k == NameKind.free)=false:=by simpa using hk
   simp only [hb,xao,if_false] at hd
   exact h y d hd
theorem iY:∀ {names:List (Str × NameKind)} {cs:List (Str × Addr)},((x,NameKind.free)∈names\/∃ c,cs.lookup x=some c)->∃ c,(clOf env names cs).lookup x=some c
 | [],cs,h=>by
  rcases h with h | h
  ·exact nomatch h
  ·exact h
 | (n,k) :: r,cs,h=>by
  refine iY (names:=r) ?_
  rcases h with h | ⟨c,h⟩
  ·rcases xak.mp h with e | h
   ·cases e
    refine .inr ⟨(env.cells.lookup x).getD 0,?_⟩
    simp only [beq_self_eq_true,if_true,xa6]
   ·exact .inl h
  ·refine .inr ?_
   by_cases hk:(k == NameKind.free)=true
   ·simp only [hk,if_true,xa6]
    cases hb:x == n with
    | true=>exact ⟨_,rfl⟩
    | false=>exact ⟨c,h⟩
   ·simp only [hk,if_false]
    exact ⟨c,h⟩
def cB (X:Cx) (scope:Scope) (C:Addr) (N:List Str) (fp:List Addr) (s₃:Shared) (H₃:Hp):Cx :=
 { X with N:=N,s₀:=s₃,H₀:=H₃,env:=compEnvC scope (clOf X.env scope.names []) C X.env,outer:=X.stack,stack:=X.stack,ex:=fp,fn:=fun _=>false,pn:=[],xe:=fun _ _=>False }
def PTs (X:Cx) (ifs:List Expr) (t:TT):Prop :=
 ∀ (pins:List (Addr × Obj)) (s:Shared) (σ:St) (H:Hp) (Q:Bool->Hp->Prop),Inv X pins σ H s->t σ H Q ->
  wpAny (model X.prog X.w) X.A (forIn ifs true fun c r=>if r=true then do let ok <- isTrue c X.env (eval c X.env); pure (ForInStep.yield ok) else pure (ForInStep.yield r)) (TP X pins σ Q) X.xe s
def tYes:TT:=fun _ H Q=>Q true H
theorem Av:PTs X [] tYes:=fun _ _ _ H _ I h=>wpAny_tests_nil ⟨H,I,h⟩
theorem eV {R:Result->Shared->Prop} (I:Nat->Shared->Prop) (E:Value->Shared->Prop)
  (turn:∀ n s,I n s->wpAny (model prog w) A (pyNext it) (fun r s₁=>match r with
   | none=>R (.ok .next) s₁
   | some v=>wpAny (model prog w) A (letOwnedTupleGo target it v) (fun _ s₀=>wpAny (model prog w) A (assign target env v) (fun _ s₂ =>
     wpAny (model prog w) A (forIn ifs true fun c r=>if r=true then do let ok <- isTrue c env (eval c env); pure (ForInStep.yield ok) else pure (ForInStep.yield r)) (fun ok s₃ =>
      if ok=true then wpAny (model prog w) A (eval elt env) (fun x s₄ =>
       wpAny (model prog w) A (call (.builtin "list.append") [acc,x]) (fun _ s₅=>∃ m,m<n/\I m s₅) E s₄) E s₃
      else ∃ m,m<n/\I m s₃) E s₂) E s₀) E s₁) E s)
  (hE:∀ e s',E e s'->notedBy (model prog w) A env (fun e s'=>R (.error e) s') e s')
  (n:Nat) (h:I n s) :
  codeAny (model prog w) A (.compLoop (.ListComp elt [⟨target,iter,ifs,0⟩] scope pos) 0 it acc env) R s:=by
 refine codeAny_loop rfl I (fun n s hI=>?_) n h
 show wpAny _ A ((compTurn (.ListComp elt [⟨target,iter,ifs,0⟩] scope pos) 0 it acc env).onRaise (fun x=>do noteFrame x env; theTreesLotGoes x)) _ _ s
 refine wpAny_noted ?_
 rw [compTurn_list]
 refine xba (Q:=_) (E:=E) ?_ (fun _ _ q=>q) hE
 refine xaa (wpAny_standAt (xaa (xba (turn n s hI) (fun r s₁ h₁=>?_) fun _ _ h'=>h')))
 cases r with
 | none=>exact xac h₁
 | some v =>
  refine xaa (xba h₁ (fun _ s₀ h₀=>?_) fun _ _ h'=>h')
  refine xaa (xba h₀ (fun _ s₂ h₂=>xaa (xba h₂ (fun ok s₃ h₃=>?_) fun _ _ h'=>h')) fun _ _ h'=>h')
  cases ok with
  | false=>exact xac ⟨rfl,h₃⟩
  | true =>
   exact xaa (xaa (xba h₃ (fun x s₄ h₄=>xaa (xba h₄ (fun _ s₅ h₅=>xac (xac ⟨rfl,h₅⟩)) fun _ _ h'=>h')) fun _ _ h'=>h'))
def lL (tn:Nat) (ix:List Nat) (σ:St):St:=List.replicate tn none++ix.map fun j=>(σ[j]?).join
def pO (wi:TI) (g:TG) (tc:TT) (te:TE) (tn:Nat) (ix:List Nat):TE:=fun σ H Q=>wi σ H fun J H1=>∀ D,H1 D=none ->
 ∃ W:Nat->Nat->St->Hp->Prop,(∃ m,W 0 m (lL tn ix σ) (upd H1 D (.lst [])))/\∀ i m τ H,W i m τ H ->
  (J.stop i H/\Q (.ref D) H)\/(J.go i H/\∃ (N1:St->V->Hp->Prop) (N2:St->Hp->Prop),
   (∀ τ2 v H4,N1 τ2 v H4->∃ ys m',H4 D=some (.lst ys)/\ys.length<sizeLine/\m'<m/\W (i+1) m' τ2 (upd H4 D (.lst (ys++[v])))) /\
   (∀ τ2 H3,N2 τ2 H3->∃ m',m'<m/\W (i+1) m' τ2 H3) /\
   ∀ x H',J.yld i H x H'->g x τ H' fun τ2 H2=>tc τ2 H2 fun b H3=>if b=true then te τ2 H3 (N1 τ2) else N2 τ2 H3)
section
variable {X:Cx} {scope:Scope} {tn cn:List Str} {ix:List Nat}
structure bx (X:Cx) (scope:Scope) (tn cn:List Str) (ix:List Nat):Prop where
 kind:scope.kind=.function
 nocell:∀ y∈scope.names,y.2≠.cell
 free:∀ y∈scope.names,y.2=.free->X.env.scope.names.lookup y.1=some .cell\/X.env.scope.names.lookup y.1=some .free
 names:∀ y∈scope.names,y.2=.local->scope.names.lookup y.1=some .local
 len:ix.length=cn.length
 cap:∀ (k j:Nat),ix[k]? = some j->∃ y,cn[k]? = some y/\X.N[j]? = some y/\(X.env.scope.names.lookup y=some .cell\/X.env.scope.names.lookup y=some .free)/\(y,NameKind.free)∈scope.names /\
  ((relabel scope X.env).names.lookup y=some .cell\/(relabel scope X.env).names.lookup y=some .free)
 all:∀ x,(relabel scope X.env).names.lookup x=some .cell\/(relabel scope X.env).names.lookup x=some .free->(x,NameKind.free)∈scope.names
end
def ceOf (scope:Scope) (env:Env) (C:Addr):List (Str × Addr):=cellsFrom (C+1) scope.names (clOf env scope.names [])
theorem uc:∀ (names:List (Str × NameKind)) (n:Nat) (acc:List (Str × Addr)),(∀ y c,acc.lookup y=some c->c<n)->(∀ x y c,acc.lookup x=some c->acc.lookup y=some c->x=y) ->
  ∀ x y c,(cellsFrom n names acc).lookup x=some c->(cellsFrom n names acc).lookup y=some c->x=y
 | [],_,_,_,hi,x,y,c,h1,h2=>hi x y c h1 h2
 | (nm,k) :: r,n,acc,hb,hi,x,y,c,h1,h2=>by
  unfold cellsFrom at h1 h2
  split at h1
  ·rename_i hk
   rw [if_pos hk] at h2
   refine uc r (n+1) ((nm,n) :: acc) (fun y c e=>?_) (fun x y c e1 e2=>?_) x y c h1 h2
   ·rw [xa6] at e
    cases hq:y == nm with
    | true=>rw [hq] at e; cases e; exact Nat.lt_succ_self _
    | false=>rw [hq] at e; exact xaO (hb y c e)
   ·rw [xa6] at e1 e2
    cases hq:x == nm with
    | true =>
     rw [hq] at e1; cases e1
     cases hz:y == nm with
     | true=>rw [eq_of_beq hq,eq_of_beq hz]
     | false=>rw [hz] at e2; exact absurd (hb y _ e2) (xaW _)
    | false =>
     rw [hq] at e1
     cases hz:y == nm with
     | true=>rw [hz] at e2; cases e2; exact absurd (hb x _ e1) (xaW _)
     | false=>rw [hz] at e2; exact hi x y c e1 e2
  ·rename_i hk
   rw [if_neg hk] at h2
   exact uc r n acc hb hi x y c h1 h2
theorem rB:∀ (names:List (Str × NameKind)) (n:Nat) (acc:List (Str × Addr)) (x:Str),(x,NameKind.cell)∉names->(cellsFrom n names acc).lookup x=acc.lookup x
 | [],_,_,_,_=>rfl
 | (nm,k) :: r,n,acc,x,h=>by
  unfold cellsFrom
  have hr:(x,NameKind.cell)∉r:=fun z=>h (xab _ z)
  split
  ·rename_i hk
   rw [rB r _ _ x hr,xa6]
   have:(x == nm)=false:=by
    cases hq:x == nm with
    | false=>rfl
    | true=>exact absurd (by rw [eq_of_beq hq,<- eq_of_beq hk]; exact xad) h
   rw [this]
  ·exact rB r n acc x hr
theorem wJ:∀ (names:List (Str × NameKind)) (n:Nat) (acc:List (Str × Addr)) (x:Str) (c:Addr),(cellsFrom n names acc).lookup x=some c->n<=c\/acc.lookup x=some c
 | [],_,_,_,_,h=>.inr h
 | (nm,k) :: r,n,acc,x,c,h=>by
  unfold cellsFrom at h
  split at h
  ·rcases wJ r (n+1) _ x c h with z | z
   ·exact .inl (by lia)
   ·rw [xa6] at z
    cases hq:x == nm with
    | true=>rw [hq] at z; cases z; exact .inl (xaf _)
    | false=>rw [hq] at z; exact .inr z
  ·exact wJ r n acc x c h
theorem qe:∀ (names:List (Str × NameKind)) (n:Nat) (acc:List (Str × Addr)) (x:Str),(∃ c,acc.lookup x=some c)->∃ c,(cellsFrom n names acc).lookup x=some c
 | [],_,_,_,h=>h
 | (nm,k) :: r,n,acc,x,⟨c,h⟩=>by
  unfold cellsFrom
  split
  ·refine qe r (n+1) _ x ?_
   rw [xa6]
   cases hq:x == nm with
   | true=>exact ⟨_,rfl⟩
   | false=>exact ⟨c,h⟩
  ·exact qe r n acc x ⟨c,h⟩
theorem qT:∀ (names:List (Str × NameKind)) (n:Nat) (acc:List (Str × Addr)) (x:Str),(x,NameKind.cell)∈names->∃ c,(cellsFrom n names acc).lookup x=some c/\n<=c
 | [],_,_,_,h=>nomatch h
 | (nm,k) :: r,n,acc,x,h=>by
  unfold cellsFrom
  by_cases hr:(x,NameKind.cell)∈r
  ·split
   ·obtain ⟨c,e,z⟩:=qT r (n+1) ((nm,n) :: acc) x hr
    exact ⟨c,e,by lia⟩
   ·exact qT r n acc x hr
  ·rcases xak.mp h with e | z
   ·cases e
    rw [if_pos (by rfl),rB r _ _ _ hr]
    exact ⟨n,by simp [xa6],xaf _⟩
   ·exact absurd z hr
theorem i_:∀ (names:List (Str × NameKind)) (h:Heap) (acc:List (Str × Addr)),(∀ x c,acc.lookup x=some c->∃ v,h.IsCell c v)->∀ x c,(cellsFrom h.objs.size names acc).lookup x=some c->∃ v,(pushCells h names).IsCell c v
 | [],_,_,hc,x,c,e=>hc x c e
 | (nm,k) :: r,h,acc,hc,x,c,e=>by
  unfold pushCells
  unfold cellsFrom at e
  split at e
  ·rename_i hk
   rw [if_pos hk]
   refine i_ r (h.push { cls:=.type "cell",data:=.cell none }) ((nm,h.objs.size) :: acc) (fun y d z=>?_) x c (by rw [xbP]; exact e)
   rw [xa6] at z
   cases hq:y == nm with
   | true=>rw [hq] at z; cases z; exact ⟨none,_,xaq _ rfl,rfl⟩
   | false =>
    rw [hq] at z
    obtain ⟨v,o,ho,hd⟩:=hc y d z
    exact ⟨v,o,xae _ ho,hd⟩
  ·rename_i hk
   rw [if_neg hk]
   exact i_ r h acc hc x c e
theorem cX {M:Model} {A:Around} {E:Value->Shared->Prop} {s:Shared} {scope:Scope} {globals:Addr} {cl:List (Str × Addr)} {qual:Str} {env:Env} {Q:Env->Shared->Prop}
  (hc:∀ x c,cl.lookup x=some c->∃ v,s.heap.IsCell c v)
  (hQ:∀ h',h'.Ns s.heap.objs.size (fun _=>none)->(∀ b o,s.heap.get? b=some o->h'.get? b=some o)->(∀ x c,(cellsFrom (s.heap.objs.size+1) scope.names cl).lookup x=some c->∃ v,h'.IsCell c v) ->
   Q (newEnv scope s.heap.objs.size globals (cellsFrom (s.heap.objs.size+1) scope.names cl) qual none .none (some env) builtinsNs) { s with heap:=h' }) :
  wpAny M A (newFunctionEnv scope globals cl [] qual none .none (some env)) Q E s:=by
 simp only [newFunctionEnv,Option.isSome_some,if_true]
 refine xaa (wpAny_alloc ?_)
 refine xaa (wpAny_layCells _ (fun name kind cells=>by cases hkc:kind == NameKind.cell <;> simp [hkc]) _ _ _ _ ?_)
 rw [show ({ s with heap:=s.heap.push { cls:=.type "dict",data:=.dict #[] } }:Shared).heap.objs.size=s.heap.objs.size+1 from xbP ..]
 refine xaa ?_
 rw [List.forIn_nil]
 refine xac (xac (hQ _ ((Heap.Ns.new s.heap (.type "dict")).keeps (pushCells_keeps _ _)) (fun b o e=>pushCells_keeps _ _ b o (xae _ e)) fun x c e=>?_))
 refine i_ scope.names (s.heap.push { cls:=.type "dict",data:=.dict #[] }) cl (fun y d z=>?_) x c (by rw [xbP]; exact e)
 obtain ⟨v,o,ho,hd⟩:=hc y d z
 exact ⟨v,o,xae _ ho,hd⟩
def aN (X:Cx) (scope:Scope) (C:Addr) (N:List Str) (fp:List Addr) (s₃:Shared) (H₃:Hp):Cx :=
 { X with N:=N,s₀:=s₃,H₀:=H₃,env:=compEnvC scope (ceOf scope X.env C) C X.env,outer:=X.stack,stack:=X.stack,ex:=fp,fn:=fun x=>scope.names.lookup x == some .cell,pn:=[],xe:=fun _ _=>False }
section
variable {X:Cx} {tg iter elt:Expr} {ifs:List Expr} {scope:Scope} {pos:Pos} {wi:TI} {g:TG} {tc:TT} {te:TE} {tn cn:List Str} {ix:List Nat}
structure dM (X:Cx) (scope:Scope) (tn cn:List Str) (ix:List Nat):Prop where
 kind:scope.kind=.function
 free:∀ y∈scope.names,y.2=.free->X.env.scope.names.lookup y.1=some .cell\/X.env.scope.names.lookup y.1=some .free
 names:∀ y∈scope.names,y.2=.local->scope.names.lookup y.1=some .local
 len:ix.length=cn.length
 cap:∀ (k j:Nat),ix[k]? = some j->∃ y,cn[k]? = some y/\X.N[j]? = some y/\(X.env.scope.names.lookup y=some .cell\/X.env.scope.names.lookup y=some .free)/\(y,NameKind.free)∈scope.names /\
  ((relabel scope X.env).names.lookup y=some .cell\/(relabel scope X.env).names.lookup y=some .free)/\(y,NameKind.cell)∉scope.names
 all:∀ x,(relabel scope X.env).names.lookup x=some .cell\/(relabel scope X.env).names.lookup x=some .free->(x,NameKind.free)∈scope.names\/(x,NameKind.cell)∈scope.names
theorem rW {pins:List (Addr × Obj)} {σ:St} {H:Hp} {s:Shared} {fp:List Addr} {C:Addr} (O:dM X scope tn cn ix) (I:Inv X pins σ H s) (hf:∀ b∈fp,FpOk X pins H b) (hfs:∀ b∈fp,b<s.heap.objs.size) (hC:s.heap.objs.size<=C) :
  (aN X scope C (tn++cn) fp s H).Ok:=by
 have hcl:∀ y∈scope.names,y.2=.free->∃ c,X.env.cells.lookup y.1=some c:=fun y hy hk=>I.ok.has y.1 (O.free y hy hk)
 have sub:∀ x c,(clOf X.env scope.names []).lookup x=some c->X.env.cells.lookup x=some c:=fun x c e=>lZ hcl (fun y d h=>by simp at h) e
 have clt:∀ x c,(clOf X.env scope.names []).lookup x=some c->c<C+1:=fun x c e=>by
  obtain ⟨v,hv⟩:=I.cell x c (sub x c e)
  exact xaO (xau hv.lt hC)
 refine ⟨I.ok.mod,O.kind,I.ok.glob,I.ok.blt,hC,uc _ _ _ clt fun x y c h1 h2=>I.ok.inj x y c (sub x c h1) (sub y c h2),fun x hx=>?_,fun x c h e=>?_,I.ok.hd,I.ok.frames,.inl rfl,fun b hb=>⟨?_,fun x c e=>?_⟩,
  I.bs,xaA I.ok.bsz I.sz,fun b o e hb=>?_,fun b hb=>?_,I.stack,I.stkFree⟩
 ·rcases O.all x hx with z | z
  ·exact qe _ _ _ _ (iY (.inl z))
  ·obtain ⟨c,e,_⟩:=qT scope.names (C+1) (clOf X.env scope.names []) x z
   exact ⟨c,e⟩
 ·have h:scope.names.lookup x=some .cell:=eq_of_beq h
  obtain ⟨c',e',z⟩:=qT scope.names (C+1) (clOf X.env scope.names []) x (PySem.mem_of_lookup h)
  have e:(ceOf scope X.env C).lookup x=some c:=e
  unfold ceOf at e
  rw [e'] at e
  cases e
  exact xaA hC (xb1 z)
 ·exact xaw (xau (hfs b hb) hC)
 ·rcases wJ _ _ _ _ _ e with z | z
  ·exact xbX (xau (hfs b hb) (xaA hC (xb1 z)))
  ·exact (hf b hb).2.2.2.2.1 x c (sub x c z)
 ·rcases (hf b hb).2.2.2.1 with z | z
  ·exact I.ok.noex b o e z
  ·exact absurd (xau (xan e) (xaA I.ok.bsz z)) (xaW _)
 ·intro hz
  rcases xak.mp (I.stkSub b hz) with e | e
  ·exact (hf b hb).2.1 e
  ·exact (hf b hb).2.2.1 e
theorem mZ {pos1:Pos} {use:Option (Value->Sem Unit)} {P:Value->Shared->Prop} (hc:X.calm=true) (hi:PI X tg iter wi) (O:dM X scope tn cn ix)
  (hg:∀ C fp s₃ H₃,PG (aN X scope C (tn++cn) fp s₃ H₃) tg g) (hcs:∀ C fp s₃ H₃,PTs (aN X scope C (tn++cn) fp s₃ H₃) ifs tc) (he:∀ C fp s₃ H₃,PE (aN X scope C (tn++cn) fp s₃ H₃) elt te)
  (hs:∀ x,foldedSetIterable iter X.env x=pure x) {pins:List (Addr × Obj)} {s:Shared} {σ:St} {H:Hp} {Q:V->Hp->Prop} (I:Inv X pins σ H s) (h:pO wi g tc te tn.length ix σ H Q)
  (fin:∀ (C D:Addr) (m:Str->Option Value) (H5:Hp) (s6:Shared) (r:Flow),Inv X pins σ H5 s6->s6.heap.Ns C m->H5 C=none->FpOk X pins H5 C->Q (.ref D) H5->compPost (model X.prog X.w) X.A X.xe use P (.ref D) C (.ok r) s6) :
  wpAny (model X.prog X.w) X.A (comprehension (.ListComp elt [⟨tg,iter,ifs,0⟩] scope pos) scope X.env pos1 (newList []) false (eval iter X.env) use) P X.xe s:=by
 have hcl:∀ y∈scope.names,y.2=.free->∃ c,X.env.cells.lookup y.1=some c:=fun y hy hk=>I.ok.has y.1 (O.free y hy hk)
 have sub:∀ x c,(clOf X.env scope.names []).lookup x=some c->X.env.cells.lookup x=some c:=fun x c e=>lZ hcl (fun y d h=>by simp at h) e
 refine wpAny_comprehension_free (use:=use) rfl hs (mL hcl) O.kind O.names (thn (hi pins s σ H _ I h) fun v s1 h1=>thn h1 fun itv s2 h2=>?_)
 obtain ⟨it,fp,tnn,J,H2,e,I2,T,st2,f2,h2⟩:=h2
 subst e
 obtain ⟨W,⟨m0,w0⟩,turn⟩:=h2 s2.heap.objs.size (I2.hok.fresh (xaf _))
 refine wpAny_newObj_type ?_
 have I3:Inv X pins σ (upd H2 s2.heap.objs.size (.lst [])) { s2 with heap:=s2.heap.push { cls:=.type "list",data:=.seq ([]:List Value).toArray } }:=I2.lnew (its:=[]) (t':=s2.toks) .nil (xas _)
 generalize hD:s2.heap.objs.size=D at *
 generalize hs3:({ s2 with heap:=s2.heap.push { cls:=.type "list",data:=.seq ([]:List Value).toArray } }:Shared)=s3 at *
 have k23:∀ b o,s2.heap.get? b=some o->s3.heap.get? b=some o:=fun b o e=>by rw [<- hs3]; exact xae _ e
 have sz3:s3.heap.objs.size=D+1:=by rw [<- hs3,<- hD]; exact xbP ..
 have f3:∀ b∈fp,FpOk X pins (upd H2 D (.lst [])) b:=fun b hb=>by
  obtain ⟨f0,fr⟩:=f2 b hb
  obtain ⟨o,ho,_⟩:=T.obj _ _ st2 b hb
  refine ⟨?_,fr⟩
  rw [upd_ne (xaw (by rw [<- hD]; exact xan ho))]
  exact f0
 have st3:tnn 0 s3.heap:=T.keep _ _ _ st2 fun b hb o e=>k23 b o e
 have lt3:∀ b∈fp,b<s3.heap.objs.size:=fun b hb=>by
  obtain ⟨o,ho,_⟩:=T.obj _ _ st3 b hb
  exact xan ho
 refine cX (fun x c e=>I3.cell x c (sub x c e)) (fun h₁ hns₁ k34 hce=>?_)
 -- the block's context
 have ok':=rW (C:=s3.heap.objs.size) O I3 f3 lt3 (xaf _)
 have I4:Inv (aN X scope s3.heap.objs.size (tn++cn) fp s3 (upd H2 D (.lst []))) [] (lL tn.length ix σ) (upd H2 D (.lst [])) { s3 with heap:=h₁ }:=by
  refine ⟨ok',rfl,I3.bare,Un.kept k34,⟨_,hns₁,fun i x v e1 e2 e3=>?_⟩,fun x c e=>?_,I3.hok.fresh (xaf _),fun x c e=>(wJ _ _ _ _ _ e).elim (fun z=>I3.hok.fresh (xb1 z)) fun z=>I3.freeC x c (sub x c z),fun p hp=>absurd hp (by simp [aN]),I3.hok.kept k34,?_⟩
  ·have hi':tn.length<=i:=by
    by_cases q:i<tn.length
    ·unfold lL at e2
     rw [xa0 (by simpa using q),List.getElem?_replicate] at e2
     simp [q] at e2
    ·lia
   unfold lL at e2
   rw [xaM (by simpa using hi'),List.length_replicate,xaG] at e2
   have e1:(tn++cn)[i]? = some x:=e1
   rw [xaM hi'] at e1
   cases q:ix[i - tn.length]? with
   | none=>rw [q] at e2; cases e2
   | some j =>
    rw [q] at e2
    obtain ⟨y,c1,c2,c3,c4,c5,c6⟩:=O.cap _ _ q
    rw [c1] at e1; cases e1
    have e2:σ[j]?.join=some v:=Option.some.inj e2
    have ej:σ[j]? = some (some v):=by
     cases z:σ[j]? with
     | none=>rw [z] at e2; cases e2
     | some o=>rw [z] at e2; exact congrArg some e2
    obtain ⟨m,hn,hl⟩:=I3.loc
    obtain ⟨u,r,l⟩:=hl j x v c2 ej (c3.elim (fun z=>.inr (.inl z)) fun z=>.inr (.inr z))
    refine ⟨u,r,.inr ⟨c5,?_⟩⟩
    rcases l with ⟨hk,_⟩ | ⟨hk,c,hcc,hce⟩
    ·have hk:X.env.scope.names.lookup x=some .local:=hk
     rcases c3 with z | z
     ·rw [z] at hk; cases hk
     ·rw [z] at hk; cases hk
    ·obtain ⟨c',hc'⟩:=iY (env:=X.env) (cs:=[]) (Or.inl c4)
     have:=sub x c' hc'
     rw [hcc] at this; cases this
     obtain ⟨o,ho,hd⟩:=hce
     exact ⟨c,(rB _ _ _ _ c6).trans hc',o,k34 _ _ ho,hd⟩
  ·exact hce x c e
  ·show (lL tn.length ix σ).length=(tn++cn).length
   unfold lL
   simp [O.len]
 -- from the block back to the body
 have back:∀ {τ:St} {H':Hp} {s':Shared},Inv (aN X scope s3.heap.objs.size (tn++cn) fp s3 (upd H2 D (.lst []))) [] τ H' s'->Inv X pins σ H' s':=fun {τ H' s'} I' =>
  Inv.call' (ch:=fp) I3 I'.os I'.base I'.hok I'.bare fun b hb=>by
   obtain ⟨_,f1,_,f3',f4,f5⟩:=f3 b hb
   exact ⟨f3',f1,f4,f5⟩
 have fpC:∀ {H':Hp},(∀ b∈fp,H' b=none)->∀ b∈fp,FpOk (aN X scope s3.heap.objs.size (tn++cn) fp s3 (upd H2 D (.lst []))) [] H' b:=fun hn b hb =>
  ⟨hn b hb,(ok'.exf b hb).1,ok'.exfs b hb,.inl hb,(ok'.exf b hb).2,fun p hp=>absurd hp (by simp [aN])⟩
 have loop:∀ s4:Shared,Inv (aN X scope s3.heap.objs.size (tn++cn) fp s3 (upd H2 D (.lst []))) [] (lL tn.length ix σ) (upd H2 D (.lst [])) s4->tnn 0 s4.heap ->
   codeAny (model X.prog X.w) X.A (.compLoop (.ListComp elt [⟨tg,iter,ifs,0⟩] scope pos) 0 (.ref it) (.ref D) (compEnvC scope (ceOf scope X.env s3.heap.objs.size) s3.heap.objs.size X.env))
    (compPost (model X.prog X.w) X.A X.xe use P (.ref D) s3.heap.objs.size) s4:=by
  intro s4 I4 st4
  refine eV (fun n s'=>∃ i τ H',Inv (aN X scope s3.heap.objs.size (tn++cn) fp s3 (upd H2 D (.lst []))) [] τ H' s'/\tnn i s'.heap/\(∀ b∈fp,H' b=none)/\W i n τ H') (fun _ _=>False) ?_ (fun _ _ z=>z.elim) m0
   ⟨0,_,_,I4,st4,fun b hb=>(f3 b hb).1,w0⟩
  rintro n s5 ⟨i,τ,H5,I5,st5,fr5,w5⟩
  rcases turn i n τ H5 w5 with ⟨stop,qn⟩ | ⟨go,N1,N2,hN1,hN2,step⟩
  ·refine thn (T.done (aN X scope s3.heap.objs.size (tn++cn) fp s3 (upd H2 D (.lst []))) rfl rfl rfl hc i [] s5 τ H5 (fun _ _=>False) I5 (fpC fr5) st5 stop) fun r s6 hx9=>?_
   obtain ⟨hr,I6⟩:=hx9
   subst hr
   have J6:=back I6
   obtain ⟨m,hn,_⟩:=I6.loc
   exact fin _ D m H5 s6 _ J6 hn I6.free (I3.fpOk (b:=s3.heap.objs.size) (H':=H5) (xaf _) I6.free) qn
  ·refine thn (T.item (aN X scope s3.heap.objs.size (tn++cn) fp s3 (upd H2 D (.lst []))) rfl rfl rfl hc i [] s5 τ H5 (fun _ _=>False) I5 (fpC fr5) st5 go) fun r s6 hx9=>?_
   obtain ⟨u,hr,h6⟩:=hx9
   subst hr
   refine thn h6 fun _ s7 hx9=>?_
   obtain ⟨x,H7,I7,r7,y7,st7,fr7⟩:=hx9
   have I7':=I7.pinned (fpC fr7) (T.obj _ _ st7)
   refine thn (hg _ _ _ _ _ s7 τ H7 x u _ I7' r7 (step x H7 y7)) fun _ s8 hx9=>?_
   obtain ⟨τ8,H8,I8,q8⟩:=hx9
   refine thn (hcs _ _ _ _ _ s8 τ8 H8 _ I8 q8) fun ok s9 hx9=>?_
   obtain ⟨H9,I9,q9⟩:=hx9
   have again:∀ {s':Shared} {H':Hp} {m':Nat},Inv (aN X scope s3.heap.objs.size (tn++cn) fp s3 (upd H2 D (.lst []))) ([]++pinsAt fp s7.heap) τ8 H' s'->m'<n->W (i+1) m' τ8 H' ->
     ∃ m,m<n/\∃ i τ H',Inv (aN X scope s3.heap.objs.size (tn++cn) fp s3 (upd H2 D (.lst []))) [] τ H' s'/\tnn i s'.heap/\(∀ b∈fp,H' b=none)/\W i m τ H':=fun {s' H' m'} J hm w'=>by
    refine ⟨m',hm,i+1,τ8,H',J.unpinned,T.keep _ _ _ st7 fun b hb o e=>(J.pin (b,o) (xah _ (xah _ (mem_pinsAt hb e)))).1,fun b hb=>?_,w'⟩
    obtain ⟨o,e,d⟩:=T.obj _ _ st7 b hb
    exact (J.pin (b,o) (xah _ (xah _ (mem_pinsAt hb e)))).2.1
   cases ok with
   | false =>
    rw [if_neg xap] at q9 ⊢
    obtain ⟨m',hm,w'⟩:=hN2 _ _ q9
    exact again I9 hm w'
   | true =>
    rw [if_pos rfl] at q9 ⊢
    refine thn (he _ _ _ _ _ s9 τ8 H9 _ I9 q9) fun x9 s10 hx5=>L2.ex2 hx5 fun v10 H10 I10 r10 q10=>?_
    obtain ⟨ys,m',hH,hz,hm,w'⟩:=hN1 _ _ _ q10
    refine thn (mt_append _ s10 τ8 H10 (.ref D) [v10] (.ref D) [x9] (fun _ H'=>H'=upd H10 D (.lst (ys++[v10]))) I10 rfl (.cons r10 .nil) ⟨D,ys,v10,rfl,rfl,hH,hz,rfl⟩) fun _ s11 hx5=>L2.ex2 hx5 fun _ H11 I11 _ q11=>?_
    subst q11
    exact again I11 hm w'
 exact codeAny_compStart_list (loop _ I4 (T.keep _ _ _ st3 fun b hb o e=>k34 b o e)) (T.self _ 0 _ _ _ (T.keep _ _ _ st3 fun b hb o e=>k34 b o e) (loop _ I4 (T.keep _ _ _ st3 fun b hb o e=>k34 b o e)))
theorem qC (hc:X.calm=true) (hi:PI X tg iter wi) (O:dM X scope tn cn ix)
  (hg:∀ C fp s₃ H₃,PG (aN X scope C (tn++cn) fp s₃ H₃) tg g) (hcs:∀ C fp s₃ H₃,PTs (aN X scope C (tn++cn) fp s₃ H₃) ifs tc) (he:∀ C fp s₃ H₃,PE (aN X scope C (tn++cn) fp s₃ H₃) elt te)
  (hs:∀ x,foldedSetIterable iter X.env x=pure x:=by intro _; rfl):PE X (.ListComp elt [⟨tg,iter,ifs,0⟩] scope pos) (pO wi g tc te tn.length ix):=by
 intro pins s σ H Q I h
 rw [eval_ListComp]
 refine mZ (use:=none) (P:=EP X pins σ Q) hc hi O hg hcs he hs I h fun C D m H5 s6 r J6 hn hf ⟨_,g1,_,g3,g4,g5⟩ qn=>⟨m,hn,fun h' hsb=>⟨.ref D,H5,?_,rfl,qn⟩⟩
 exact J6.turned (t':=s6.toks) (fun b o hb e=>hsb.extBut b o hb e) hf g1 g3 g4 g5
end
section
variable {X:Cx} {tg iter elt:Expr} {ifs:List Expr} {scope:Scope} {pos:Pos} {wi:TI} {g:TG} {tc:TT} {te:TE} {tn cn:List Str} {ix:List Nat}
theorem t_:∀ (names:List (Str × NameKind)) (n:Nat) (acc:List (Str × Addr)),(∀ y∈names,y.2≠.cell)->cellsFrom n names acc=acc
 | [],_,_,_=>rfl
 | (nm,k) :: r,n,acc,h=>by
  unfold cellsFrom
  rw [if_neg fun z=>h (nm,k) xad (eq_of_beq z)]
  exact t_ r n acc fun y hy=>h y (xab _ hy)
theorem kI (O:bx X scope tn cn ix) (C:Addr) (N:List Str) (fp:List Addr) (s:Shared) (H:Hp):aN X scope C N fp s H=cB X scope C N fp s H:=by
 unfold aN cB ceOf
 rw [t_ _ _ _ O.nocell]
 have:(fun x=>scope.names.lookup x == some NameKind.cell)=fun _=>false:=by
  funext x
  cases e:scope.names.lookup x with
  | none=>rfl
  | some k =>
   have:=O.nocell _ (PySem.mem_of_lookup e)
   cases k <;> simp_all
 rw [this]
theorem qL (O:bx X scope tn cn ix):dM X scope tn cn ix :=
 ⟨O.kind,O.free,O.names,O.len,fun k j h=>by
  obtain ⟨y,a,b,c,d,e⟩:=O.cap k j h
  exact ⟨y,a,b,c,d,e,fun z=>O.nocell _ z rfl⟩,fun x h=>.inl (O.all x h)⟩
theorem wK {pos1:Pos} {use:Option (Value->Sem Unit)} {P:Value->Shared->Prop} (hc:X.calm=true) (hi:PI X tg iter wi) (O:bx X scope tn cn ix)
  (hg:∀ C fp s₃ H₃,PG (cB X scope C (tn++cn) fp s₃ H₃) tg g) (hcs:∀ C fp s₃ H₃,PTs (cB X scope C (tn++cn) fp s₃ H₃) ifs tc) (he:∀ C fp s₃ H₃,PE (cB X scope C (tn++cn) fp s₃ H₃) elt te)
  (hs:∀ x,foldedSetIterable iter X.env x=pure x) {pins:List (Addr × Obj)} {s:Shared} {σ:St} {H:Hp} {Q:V->Hp->Prop} (I:Inv X pins σ H s) (h:pO wi g tc te tn.length ix σ H Q)
  (fin:∀ (C D:Addr) (m:Str->Option Value) (H5:Hp) (s6:Shared) (r:Flow),Inv X pins σ H5 s6->s6.heap.Ns C m->H5 C=none->FpOk X pins H5 C->Q (.ref D) H5->compPost (model X.prog X.w) X.A X.xe use P (.ref D) C (.ok r) s6) :
  wpAny (model X.prog X.w) X.A (comprehension (.ListComp elt [⟨tg,iter,ifs,0⟩] scope pos) scope X.env pos1 (newList []) false (eval iter X.env) use) P X.xe s :=
 mZ hc hi (qL O) (fun C fp s₃ H₃=>by rw [kI O]; exact hg C fp s₃ H₃) (fun C fp s₃ H₃=>by rw [kI O]; exact hcs C fp s₃ H₃) (fun C fp s₃ H₃=>by rw [kI O]; exact he C fp s₃ H₃) hs I h fin
theorem Bc (hc:X.calm=true) (hi:PI X tg iter wi) (O:bx X scope tn cn ix)
  (hg:∀ C fp s₃ H₃,PG (cB X scope C (tn++cn) fp s₃ H₃) tg g) (hcs:∀ C fp s₃ H₃,PTs (cB X scope C (tn++cn) fp s₃ H₃) ifs tc) (he:∀ C fp s₃ H₃,PE (cB X scope C (tn++cn) fp s₃ H₃) elt te)
  (hs:∀ x,foldedSetIterable iter X.env x=pure x:=by intro _; rfl):PE X (.ListComp elt [⟨tg,iter,ifs,0⟩] scope pos) (pO wi g tc te tn.length ix) :=
 qC hc hi (qL O) (fun C fp s₃ H₃=>by rw [kI O]; exact hg C fp s₃ H₃) (fun C fp s₃ H₃=>by rw [kI O]; exact hcs C fp s₃ H₃) (fun C fp s₃ H₃=>by rw [kI O]; exact he C fp s₃ H₃) hs
end
section
variable {X:Cx} {tg iter elt:Expr} {ifs:List Expr} {scope:Scope} {pos:Pos} {wi:TI} {g:TG} {tc:TT} {te:TE} {tn cn:List Str} {ix:List Nat}
theorem tK (hN:X.N.Nodup) (hi0:X.N[i]? = some x) (hx:Loc X.env.scope x) (hc:X.calm=true) (hi:PI X tg iter wi) (O:bx X scope tn cn ix)
  (hg:∀ C fp s₃ H₃,PG (cB X scope C (tn++cn) fp s₃ H₃) tg g) (hcs:∀ C fp s₃ H₃,PTs (cB X scope C (tn++cn) fp s₃ H₃) ifs tc) (he:∀ C fp s₃ H₃,PE (cB X scope C (tn++cn) fp s₃ H₃) elt te)
  (hsw:swapsWith (.ListComp elt [⟨tg,iter,ifs,0⟩] scope pos) (some (.Name x pos')) spos.line X.env=pure true)
  (hs:∀ x,foldedSetIterable iter X.env x=pure x:=by intro _; rfl) (hf:X.fn x=true\/X.env.scope.names.lookup x=some .local:=by first | exact .inl rfl | exact .inr rfl | assumption) :
  PS X (.Assign [.Name x pos'] (.ListComp elt [⟨tg,iter,ifs,0⟩] scope pos) spos) (tAsg (pO wi g tc te tn.length ix) (gName i)):=by
 intro pins s σ H D0 I h
 rw [exec_Assign_Name_used _ _ _ _ hsw]
 refine xaa (wpAny_standAt (xaa ?_))
 show wpAny _ _ (do let _ <- comprehension (.ListComp elt [⟨tg,iter,ifs,0⟩] scope pos) scope X.env _ (newList []) false (eval iter X.env) (some (assign (.Name x pos') X.env))) _ _ s
 refine xaa (xba (wK (use:=some (assign (.Name x pos') X.env)) (P:=fun _ s'=>SP X pins D0 .next s') hc hi O hg hcs he hs I h fun C D m H5 s6 r J6 hn hfr ⟨_,g1,_,g3,g4,g5⟩ qn=>?_) (fun _ s' hq=>xac (xac hq)) fun _ _ e=>e)
 refine (show wpAny _ _ (assign (.Name x pos') X.env (.ref D)) _ _ s6 from wpAny_assign_Name (store_ok2 J6 hN hi0 hx (v:=.ref D) rfl (fun s7 I7 hx9=>?_) hf))
 obtain ⟨a,sb,ha⟩:=hx9
 have hCa:C≠a:=by
  rcases ha with rfl | ha
  ·exact g1
  ·exact Ne.symm (g4 _ a ha)
 refine ⟨m,hn.sameBut sb hCa,fun h' hsb=>⟨_,H5,?_,qn⟩⟩
 exact I7.turned (t':=s7.toks) (fun b o hb e=>hsb.extBut b o hb e) hfr g1 g3 g4 g5
end
section
variable {X:Cx}
theorem OpR.imp (h:OpR X f r) (hi:∀ x y H Q,r' x y H Q->r x y H Q):OpR X f r' :=
 fun pins s σ H x y v u Q I rx ry q=>h pins s σ H x y v u Q I rx ry (hi x y H Q q)
def Fz (K:PySem.W.Frag):R2:=fun x y H Q=>∃ l b xs zs,x=.ref l/\y=.ref b/\SqL K H l xs/\SqL K H b zs/\xs.length+zs.length<=sizeLine/\∀ p,H p=none->Q (.ref p) (upd H p (.lst (xs++zs)))
theorem Ao:OpR X (binaryOp .Add) (Fz X.K):=by
 intro pins s σ H x y v u Q I rx ry h
 obtain ⟨l,b,xs,zs,rfl,rfl,hH,hB,hz,q⟩:=h
 cases rx
 cases ry
 obtain ⟨its,r,pl,z⟩:=I.list hH
 obtain ⟨its2,r2,pl2,z2⟩:=I.list hB
 have hl:=r.length
 have hl2:=r2.length
 obtain ⟨⟨cls,dd,data,sl⟩,ho,hc,n,hd⟩:=id pl.isList
 obtain ⟨⟨cls2,dd2,data2,sl2⟩,ho2,hc2,n2,hd2⟩:=id pl2.isList
 simp only at hc hd hc2 hd2
 subst hc hd hc2 hd2
 have ea:its.toArray++its2.toArray=(its++its2).toArray:=by simp
 refine concat_meets ⟨_,ho,rfl⟩ ⟨_,ho2,rfl⟩ noFill_list_add seq_list_add PySem.F.slot_list_add PySem.F.entry_list_add (PySem.F.args_list_add_2 _ _) (list_addW l b its.toArray its2.toArray n n2 dd dd2 sl sl2 (by simp only [xaz]; lia)) ⟨ho,ho2,?_⟩
 rw [ea]
 exact ⟨.ref _,_,I.lnew (t':=s.toks) (r.append r2) (by rw [xaU]; lia),rfl,q _ I.fresh⟩
def wO (K:PySem.W.Frag):R2:=fun x y H Q=>match x,y with
 | .int i,.int j=>Q (.int (i+j)) H
 | .str i,.str j=>i.length+j.length<=sizeLine/\Q (.str (i++j)) H
 | .ref a,.ref b=>∃ xs zs,SqL K H a xs/\SqL K H b zs/\xs.length+zs.length<=sizeLine/\∀ p,H p=none->Q (.ref p) (upd H p (.lst (xs++zs)))
 | _,_=>False
theorem Ae:OpR X (binaryOp .Add) (wO X.K):=by
 refine (op_add.or (op_add_str.or Ao)).imp fun x y H Q h=>?_
 unfold wO at h
 split at h
 ·exact .inl ⟨_,_,rfl,rfl,h⟩
 ·exact .inr (.inl ⟨_,_,rfl,rfl,h.1,h.2⟩)
 ·obtain ⟨xs,zs,h1,h2,h3,h4⟩:=h
  exact .inr (.inr ⟨_,_,xs,zs,rfl,rfl,h1,h2,h3,h4⟩)
 ·exact h.elim
def zH:R2:=fun x y H Q=>match x,y with
 | .int i,.int j=>Q (.int (i - j)) H
 | _,_=>False
theorem Bo:OpR X (binaryOp .Sub) zH:=op_sub.imp fun x y H Q h=>by
 unfold zH at h
 split at h
 ·exact ⟨_,_,rfl,rfl,h⟩
 ·exact h.elim
def zp:R2:=fun x y H Q=>match x,y with
 | .int i,.int j=>CMul i j/\Q (.int (i * j)) H
 | _,_=>False
theorem zR:OpR X (binaryOp .Mult) zp:=op_mul.imp fun x y H Q h=>by
 unfold zp at h
 split at h
 ·exact ⟨_,_,rfl,rfl,h.1,h.2⟩
 ·exact h.elim
def zA:R2:=fun x y H Q=>match x,y with
 | .int i,.int j=>(0<j/\j<1073741824)/\Q (.int (i / j)) H
 | _,_=>False
theorem zV:OpR X (binaryOp .FloorDiv) zA:=op_fdiv.imp fun x y H Q h=>by
 unfold zA at h
 split at h
 ·exact ⟨_,_,rfl,rfl,h.1,h.2⟩
 ·exact h.elim
def Aw:R2:=fun x y H Q=>match x,y with
 | .int i,.int j=>0<j/\Q (.int (i % j)) H
 | _,_=>False
theorem Ag:OpR X (binaryOp .Mod) Aw:=op_mod.imp fun x y H Q h=>by
 unfold Aw at h
 split at h
 ·exact ⟨_,_,rfl,rfl,h.1,h.2⟩
 ·exact h.elim
def ltS (x y:Str):Bool:=decide (x.cps.toList<y.cps.toList)
def rLtU:R2:=fun x y H Q=>match x,y with
 | .int i,.int j=>Q (.bl (decide (i<j))) H
 | .str i,.str j=>Q (.bl (ltS i j)) H
 | _,_=>False
theorem yM:OpR X (compareOp .Lt) rLtU:=(op_lt.or op_lt_str).imp fun x y H Q h=>by
 unfold rLtU at h
 split at h
 ·exact .inl ⟨_,_,rfl,rfl,h⟩
 ·exact .inr ⟨_,_,rfl,rfl,h⟩
 ·exact h.elim
def rGtU:R2:=fun x y H Q=>match x,y with
 | .int i,.int j=>Q (.bl (decide (j<i))) H
 | _,_=>False
theorem yL:OpR X (compareOp .Gt) rGtU:=op_gt.imp fun x y H Q h=>by
 unfold rGtU at h
 split at h
 ·exact ⟨_,_,rfl,rfl,h⟩
 ·exact h.elim
def rLen (K:PySem.W.Frag):List V->Hp->VK->Prop:=fun xs H Q=>match xs with
 | [.str y]=>y.length<=sizeLine/\Q (.int y.length) H
 | [.ref p]=>(∃ ys,SqL K H p ys/\Q (.int ys.length) H)\/(∃ ys,SqT K H p ys/\Q (.int ys.length) H)\/∃ kvs,H p=some (.dK kvs)/\Q (.int kvs.length) H
 | _=>False
theorem uC:CallR X (.builtin "len") (rLen X.K):=by
 intro pins s σ H xs us Q I r h
 unfold rLen at h
 split at h
 ·exact call_len pins s σ H _ us Q I r ⟨_,_,rfl,⟨h.1,rfl⟩,h.2⟩
 ·rcases h with ⟨ys,h1,h2⟩ | ⟨ys,h1,h2⟩ | ⟨kvs,h1,h2⟩
  ·exact call_len pins s σ H _ us Q I r ⟨_,_,rfl,.inl ⟨ys,h1,rfl⟩,h2⟩
  ·exact call_len pins s σ H _ us Q I r ⟨_,_,rfl,.inr ⟨ys,h1,rfl⟩,h2⟩
  ·exact call_lenD pins s σ H _ us Q I r ⟨_,kvs,rfl,h1,h2⟩
 ·exact h.elim
def rIxU (K:PySem.W.Frag):R2:=fun x y H Q=>match x,y with
 | .ref p,.int i=>(∃ xs v,SqL K H p xs/\atI xs i=some v/\Q v H)\/∃ xs v,SqT K H p xs/\atI xs i=some v/\Q v H
 | .str z,.int i=>z.length<=sizeLine/\∃ c,atI z.cps.toList i=some c/\Q (.str ⟨#[c]⟩) H
 | _,_=>False
theorem yH:IxR X (rIxU X.K):=by
 intro value slice pins s σ H x y v u Q I rx ry h hs
 refine ix_seq value slice pins s σ H x y v u Q I rx ry ?_ hs
 unfold rIxU at h
 split at h
 ·rcases h with ⟨xs,w,h1,h2,h3⟩ | ⟨xs,w,h1,h2,h3⟩
  ·exact .inl ⟨_,xs,_,w,rfl,rfl,h1,h2,h3⟩
  ·exact .inr (.inl ⟨_,xs,_,w,rfl,rfl,h1,h2,h3⟩)
 ·obtain ⟨h1,c,h2,h3⟩:=h
  exact .inr (.inr ⟨_,_,c,rfl,rfl,h1,h2,h3⟩)
 ·exact h.elim
def cutS (z:Str) (lo hi:Option Int):Str:=⟨((z.cps.toList.drop (HT.sIx z.length 0 lo)).take (HT.sIx z.length z.length hi - HT.sIx z.length 0 lo)).toArray⟩
end
theorem tV (l:List Nat) (lo hi:Option Int) (h:((l.drop (HT.sIx l.length 0 lo)).take (HT.sIx l.length l.length hi - HT.sIx l.length 0 lo)).length=l.length) :
  (l.drop (HT.sIx l.length 0 lo)).take (HT.sIx l.length l.length hi - HT.sIx l.length 0 lo)=l:=by
 generalize HT.sIx l.length 0 lo=a at *
 generalize HT.sIx l.length l.length hi=b at *
 by_cases hl:l.length=0
 ·have:l=[]:=xbF.mp hl
  subst this; simp
 ·rw [xaE,xa5] at h
  have h1:a=0:=by lia
  subst h1
  rw [List.drop_zero]
  exact xbp (by lia)
theorem wj (lo hi:Option Int) (n:Nat):Builtin.Str.strSliceIndices lo hi 1 n=(List.range (HT.sIx n n hi - HT.sIx n 0 lo)).map (HT.sIx n 0 lo + ·):=by
 unfold Builtin.Str.strSliceIndices
 have e1:(match lo with | none=>(0:Int) | some i=>max 0 (min (if i<0 then i+n else i) n))=((HT.sIx n 0 lo:Nat):Int):=by
  cases lo with
  | none=>simp [HT.sIx]
  | some i =>
   simp only [HT.sIx]
   by_cases h:i<0
   ·simp only [h,if_true] <;> lia
   ·simp only [h,if_false] <;> lia
 have e2:(match hi with | none=>(n:Int) | some i=>max 0 (min (if i<0 then i+n else i) n))=((HT.sIx n n hi:Nat):Int):=by
  cases hi with
  | none=>simp [HT.sIx]
  | some i =>
   simp only [HT.sIx]
   by_cases h:i<0
   ·simp only [h,if_true] <;> lia
   ·simp only [h,if_false] <;> lia
 rw [<- sliceRange_one,<- e1,<- e2]
 simp only [show (1:Int)>0 by decide,if_true]
 cases lo <;> cases hi <;> rfl
section
variable {X:Cx}
theorem part_of (h:IsPart v o):∃ p:Option (Int × Tok),v=partValue p/\p.map (·.1)=o:=by
 cases h with
 | none=>exact ⟨none,rfl,rfl⟩
 | int i t=>exact ⟨some (i,t),rfl,rfl⟩
def rSlS (K:PySem.W.Frag):V->Option Int->Option Int->Hp->VK->Prop:=fun x lo hi H Q=>match x with
 | .str z=>z.length<=sizeLine/\Q (.str (cutS z lo hi)) H
 | .ref a=>∃ xs,SqL K H a xs/\∀ p,H p=none->Q (.ref p) (upd H p (.lst (cutV xs lo hi)))
 | _=>False
theorem Cg:SlR X (fun x lo hi H Q=>∃ z,x=.str z/\z.length<=sizeLine/\Q (.str (cutS z lo hi)) H):=by
 intro pins s σ H x v vl vu lo hi sl Q I rx hs pl pu h
 obtain ⟨z,rfl,hz,q⟩:=h
 obtain ⟨t,rfl⟩:=rx
 obtain ⟨p1,rfl,e1⟩:=part_of pl
 obtain ⟨p2,rfl,e2⟩:=part_of pu
 refine ⟨"str",_,F.slot_str_getitem.lookup,typeIs_str s z t,wpAny_getItem_str_slice (l:=p1) (u:=p2) (st:=none) hs rfl ?_⟩
 have hl:z.cps.toList.length=z.length:=by simp [Str.length]
 have ep:slicePicked z p1 p2 none=(List.range (HT.sIx z.length z.length hi - HT.sIx z.length 0 lo)).map (HT.sIx z.length 0 lo + ·):=by
  unfold slicePicked
  rw [e1,e2]
  exact wj lo hi z.length
 have ef:(slicePicked z p1 p2 none).filterMap (z.cps[·]?)=(z.cps.toList.drop (HT.sIx z.length 0 lo)).take (HT.sIx z.length z.length hi - HT.sIx z.length 0 lo):=by
  rw [ep]; exact pick_run z.cps _ _
 unfold sliceMade
 split
 ·rename_i hc
  have hw:(slicePicked z p1 p2 none).length=z.length:=by simpa using hc
  have:cutS z lo hi=z:=by
   unfold cutS
   have e3:((z.cps.toList.drop (HT.sIx z.cps.toList.length 0 lo)).take (HT.sIx z.cps.toList.length z.cps.toList.length hi - HT.sIx z.cps.toList.length 0 lo)).length=z.cps.toList.length:=by
    rw [hl,xaE,xa5,hl]
    rw [ep,xag,xcn] at hw
    have h0:HT.sIx z.length 0 lo<=z.length:=by
     cases lo with
     | none=>simp [HT.sIx]
     | some i=>simp only [HT.sIx]; split <;> lia
    have h1:HT.sIx z.length z.length hi<=z.length:=by
     cases hi with
     | none=>simp [HT.sIx]
     | some i=>simp only [HT.sIx]; split <;> lia
    lia
   have:=tV z.cps.toList lo hi e3
   rw [hl] at this
   rw [this]
  rw [this] at q
  exact ⟨.str z,H,I,⟨t,rfl⟩,q⟩
 ·rw [ef]
  exact ⟨by
   show (cutS z lo hi).length<=sizeLine
   unfold cutS Str.length
   simp only [xaz,xaE,xa5,hl]
   have:z.cps.toList.length=z.length:=hl
   lia,⟨.str (cutS z lo hi),H,I.tok _,⟨_,rfl⟩,q⟩⟩
theorem BP:SlR X (rSlS X.K):=by
 intro pins s σ H x v vl vu lo hi sl Q I rx hs pl pu h
 unfold rSlS at h
 split at h
 ·exact Cg pins s σ H _ v vl vu lo hi sl Q I rx hs pl pu ⟨_,rfl,h.1,h.2⟩
 ·obtain ⟨xs,h1,h2⟩:=h
  exact sl_list pins s σ H _ v vl vu lo hi sl Q I rx hs pl pu ⟨_,xs,rfl,h1,h2⟩
 ·exact h.elim
end
structure nP (J:It) (its:List V) (cond:Hp->Prop):Prop where
 go:∀ i H,cond H->i<its.length->J.go i H
 yld:∀ i H x H',cond H->i<its.length->J.yld i H x H'->H'=H/\its[i]? = some x
 stop:∀ H,cond H->J.stop its.length H
theorem xX (K:PySem.W.Frag) (a:Addr) (xs:List V):nP (Itl K a) xs (fun H=>SqL K H a xs) where
 go:=fun i H h hi=>⟨xs,xs[i],h,by simp [hi]⟩
 yld:=fun i H x H' h _ y=>⟨y.1,y.2 xs h⟩
 stop:=fun H h=>⟨xs,h,xaf _⟩
def wy (lo:Int) (n:Nat):List V:=(List.range n).map fun i=>.int (lo+(i:Nat))
theorem Bd (lo:Int) (n:Nat):nP (Itr lo n) (wy lo n) (fun _=>True) where
 go:=fun i H _ h=>by simpa [wy,Itr] using h
 yld:=fun i H x H' _ hi h=>by
  have hi:i<n:=by simpa [wy] using hi
  obtain ⟨rfl,rfl⟩:=h
  refine ⟨rfl,?_⟩
  simp [wy,hi]
 stop:=fun H _=>by simp [wy,Itr]
def ForW (J:It) (g:TG) (tb:TS) (D:Ends) (σ:St) (H:Hp):Prop :=
 ∃ W:Nat->Nat->St->Hp->Prop,(∃ m,W 0 m σ H)/\∀ i m σ H,W i m σ H ->
   (J.stop i H/\D.nx σ H)\/(J.go i H/\∃ N:St->Hp->Prop,(∀ σ' H',N σ' H'->∃ m',m'<m/\W (i+1) m' σ' H')/\∀ x H',J.yld i H x H'->g x σ H' fun σ2 H2=>tb { D with nx:=N,ct:=N,bk:=D.nx } σ2 H2)
theorem zT (wi:TI) (g:TG) (tb:TS) (D:Ends) (σ:St) (H:Hp):tFor wi g tb D σ H=wi σ H fun J H1=>ForW J g tb D σ H1:=rfl
def Eh (J:It) (g:TG) (tc:TT) (te:TE) (τ0:St) (H1:Hp) (D:Addr) (Q:VK):Prop :=
 ∃ W:Nat->Nat->St->Hp->Prop,(∃ m,W 0 m τ0 (upd H1 D (.lst [])))/\∀ i m τ H,W i m τ H ->
  (J.stop i H/\Q (.ref D) H)\/(J.go i H/\∃ (N1:St->V->Hp->Prop) (N2:St->Hp->Prop),
   (∀ τ2 v H4,N1 τ2 v H4->∃ ys m',H4 D=some (.lst ys)/\ys.length<sizeLine/\m'<m/\W (i+1) m' τ2 (upd H4 D (.lst (ys++[v])))) /\
   (∀ τ2 H3,N2 τ2 H3->∃ m',m'<m/\W (i+1) m' τ2 H3) /\
   ∀ x H',J.yld i H x H'->g x τ H' fun τ2 H2=>tc τ2 H2 fun b H3=>if b=true then te τ2 H3 (N1 τ2) else N2 τ2 H3)
theorem xO (wi:TI) (g:TG) (tc:TT) (te:TE) (tn:Nat) (ix:List Nat) (σ:St) (H:Hp) (Q:VK):pO wi g tc te tn ix σ H Q=wi σ H fun J H1=>∀ D,H1 D=none->Eh J g tc te (lL tn ix σ) H1 D Q:=rfl
mutual
inductive Rep (K:PySem.W.Frag) (H:Hp):PyData->V->Prop
 | none:Rep K H .none .non
 | bool (b:Bool):Rep K H (.bool b) (.bl b)
 | int (i:Int):Rep K H (.int i) (.int i)
 | str (x:Str):Rep K H (.str x) (.str x)
 | list {a:Addr} {vs:List V} {ds:List PyData}:SqL K H a vs->Reps K H ds vs->Rep K H (.list ds) (.ref a)
 | tuple {a:Addr} {vs:List V} {ds:List PyData}:SqT K H a vs->Reps K H ds vs->Rep K H (.tuple ds) (.ref a)
inductive Reps (K:PySem.W.Frag) (H:Hp):List PyData->List V->Prop
 | nil:Reps K H [] []
 | cons {d:PyData} {v:V} {ds:List PyData} {vs:List V}:Rep K H d v->Reps K H ds vs->Reps K H (d :: ds) (v :: vs)
end
section
variable {X:Cx} {pins:List (Addr × Obj)} {σ:St} {H:Hp} {s:Shared}
mutual
theorem Rep.reads (I:Inv X pins σ H s):∀ {d:PyData} {v:V} {u:Value},Rep X.K H d v->RelV v u->∃ as,Reads s.heap u d as
 | _,_,_,.none,r=>by cases (show _=Value.none from r); exact ⟨_,.none⟩
 | _,_,_,.bool b,r=>by cases (show _=Value.bool b from r); exact ⟨_,.bool b⟩
 | _,_,_,.int i,r=>by obtain ⟨t,e⟩:=r; subst e; exact ⟨_,.int i t⟩
 | _,_,_,.str x,r=>by obtain ⟨t,e⟩:=r; subst e; exact ⟨_,.str x t⟩
 | _,_,_,.list h hs,r=>by
  cases r
  obtain ⟨its,rv,pl,_⟩:=I.list h
  obtain ⟨o,e,c,n,d⟩:=pl.isList
  obtain ⟨as,q⟩:=Reps.reads I hs rv
  exact ⟨_,.list e c d q⟩
 | _,_,_,.tuple h hs,r=>by
  cases r
  obtain ⟨its,rv,⟨o,e,c,n,d⟩,_⟩:=I.tuple h
  obtain ⟨as,q⟩:=Reps.reads I hs rv
  exact ⟨_,.tuple e c d q⟩
theorem Reps.reads (I:Inv X pins σ H s):∀ {ds:List PyData} {vs:List V} {us:List Value},Reps X.K H ds vs->Vals vs us->∃ as,ReadsAll s.heap us ds as
 | _,_,_,.nil,.nil=>⟨_,.nil⟩
 | _,_,_,.cons h hs,.cons r rs=>by
  obtain ⟨as,q⟩:=Rep.reads I h r
  obtain ⟨bs,q'⟩:=Reps.reads I hs rs
  exact ⟨_,.cons q q'⟩
end
def rEqD (K:PySem.W.Frag):R2:=fun x y H Q=>∃ d e,Rep K H d x/\Rep K H e y/\d.canLay0=true/\e.canLay0=true/\d.depth<=60/\Q (.bl (PyData.eqv d e)) H
def rNeD (K:PySem.W.Frag):R2:=fun x y H Q=>∃ d e,Rep K H d x/\Rep K H e y/\d.canLay0=true/\e.canLay0=true/\d.depth<=60/\Q (.bl (!PyData.eqv d e)) H
theorem Cq (hu:X.A.units+64<cLine):OpR X (compareOp .Eq) (rEqD X.K):=by
 intro pins s σ H x y v u Q I rx ry h
 obtain ⟨d,e,h1,h2,h3,h4,h5,q⟩:=h
 obtain ⟨as,r1⟩:=h1.reads I rx
 obtain ⟨bs,r2⟩:=h2.reads I ry
 exact PySem.SeqAt.rcAt_reads r1 r2 h3 h4 (by lia) X.prog X.w X.xe _ ⟨.bl _,H,I,rfl,q⟩
theorem Cp (hu:X.A.units+64<cLine):OpR X (compareOp .NotEq) (rNeD X.K):=by
 intro pins s σ H x y v u Q I rx ry h
 obtain ⟨d,e,h1,h2,h3,h4,h5,q⟩:=h
 obtain ⟨as,r1⟩:=h1.reads I rx
 obtain ⟨bs,r2⟩:=h2.reads I ry
 exact PySem.SeqAt.rcNeAt_reads r1 r2 h3 h4 (by lia) X.prog X.w X.xe _ ⟨.bl _,H,I,rfl,q⟩
def rEqU (K:PySem.W.Frag):R2:=fun x y H Q=>match x,y with
 | .int i,.int j=>Q (.bl (decide (i=j))) H
 | .str i,.str j=>Q (.bl (decide (i=j))) H
 | .bl i,.bl j=>Q (.bl (decide (i=j))) H
 | _,_=>rEqD K x y H Q
theorem BJ (hu:X.A.units+64<cLine):OpR X (compareOp .Eq) (rEqU X.K):=(op_eq.or (Cq hu)).imp fun x y H Q h=>by
 unfold rEqU at h
 split at h
 ·refine .inl ⟨rfl,?_⟩; simpa using h
 ·refine .inl ⟨rfl,?_⟩; simpa using h
 ·refine .inl ⟨rfl,?_⟩; simpa using h
 ·exact .inr h
def rNeU (K:PySem.W.Frag):R2:=fun x y H Q=>match x,y with
 | .int i,.int j=>Q (.bl (!decide (i=j))) H
 | .str i,.str j=>Q (.bl (!decide (i=j))) H
 | .bl i,.bl j=>Q (.bl (!decide (i=j))) H
 | _,_=>rNeD K x y H Q
theorem CV (hu:X.A.units+64<cLine):OpR X (compareOp .NotEq) (rNeU X.K):=(op_ne.or (Cp hu)).imp fun x y H Q h=>by
 unfold rNeU at h
 split at h
 ·refine .inl ⟨rfl,?_⟩; simpa using h
 ·refine .inl ⟨rfl,?_⟩; simpa using h
 ·refine .inl ⟨rfl,?_⟩; simpa using h
 ·exact .inr h
end
end L2
namespace L2
open PySem PySem.Spec PyProof.Rows
theorem C_:(2:Nat)<=sizeLine:=by rw [sizeLine_eq]; decide
def Itz (K:PySem.W.Frag) (a b:Addr):It :=
 ⟨fun i H=>∃ xs ys x y,SqL K H a xs/\SqL K H b ys/\xs[i]? = some x/\ys[i]? = some y,fun i H x H'=>∃ p u v,x=.ref p/\H p=none/\H'=upd H p (.tup [u,v])/\(∀ xs,SqL K H a xs->xs[i]? = some u)/\∀ ys,SqL K H b ys->ys[i]? = some v,
  fun i H=>∃ xs ys,SqL K H a xs/\SqL K H b ys/\(xs.length<=i\/ys.length<=i)⟩
def rlN (sc:Scope) (names:List (Str × NameKind)):List (Str × NameKind):=names.map fun y=>if (y.2 == NameKind.free && sc.kind == .function && sc.names.lookup y.1 == some .cell)=true then (y.1,NameKind.cell) else (y.1,y.2)
def vis2 (o:Option NameKind):Bool:=o == some .cell || o == some .free
def z7 (sc scope:Scope) (N cn:List Str) (ix:List Nat):Bool :=
 scope.kind == .function && scope.names.all (fun y=>y.2 != .cell) && scope.names.all (fun y=>y.2 != .free || vis2 (sc.names.lookup y.1)) && scope.names.all (fun y=>y.2 != .local || scope.names.lookup y.1 == some .local) &&
 ix.length == cn.length && (List.range ix.length).all (fun k=>match ix[k]?,cn[k]? with
  | some j,some y=>N[j]? == some y && vis2 (sc.names.lookup y) && scope.names.contains (y,NameKind.free) && vis2 ((rlN sc scope.names).lookup y)
  | _,_=>false) &&
 (rlN sc scope.names).all (fun y=>!(y.2 == .cell || y.2 == .free) || scope.names.contains (y.1,NameKind.free))
theorem gW (h:vis2 o=true):o=some .cell\/o=some .free:=by
 unfold vis2 at h
 simpa using h
theorem bx.of (hsc:X.env.scope=sc) (hN:X.N=N) (h:z7 sc scope N cn ix=true):bx X scope tn cn ix:=by
 unfold z7 at h
 simp only [xaB] at h
 obtain ⟨⟨⟨⟨⟨⟨h1,h2⟩,h3⟩,h4⟩,h5⟩,h6⟩,h7⟩:=h
 rw [xbq] at h2 h3 h4 h6 h7
 have erl:(relabel scope X.env).names=rlN sc scope.names:=by
  unfold relabel rlN
  rw [<- hsc]
  rfl
 refine ⟨by simpa using h1,fun y hy=>by simpa using h2 y hy,fun y hy hk=>?_,fun y hy hk=>?_,by simpa using h5,fun k j hk=>?_,fun x hx=>?_⟩
 ·have:=h3 y hy
  rw [hk] at this
  rw [hsc]
  exact gW (by simpa using this)
 ·have:=h4 y hy
  rw [hk] at this
  simpa using this
 ·have hk':k<ix.length:=(xal.mp hk).1
  have:=h6 k (xaV.mpr hk')
  rw [hk] at this
  cases e:cn[k]? with
  | none=>rw [e] at this; cases this
  | some y =>
   rw [e] at this
   simp only [xaB] at this
   obtain ⟨⟨⟨a1,a2⟩,a3⟩,a4⟩:=this
   refine ⟨y,rfl,by rw [hN]; simpa using a1,by rw [hsc]; exact gW a2,by simpa using a3,by rw [erl]; exact gW a4⟩
 ·rw [erl] at hx
  have mem:∃ k,(x,k)∈rlN sc scope.names/\(k=.cell\/k=.free):=by
   rcases hx with hx | hx
   ·exact ⟨_,PySem.mem_of_lookup hx,.inl rfl⟩
   ·exact ⟨_,PySem.mem_of_lookup hx,.inr rfl⟩
  obtain ⟨k,hm,hk⟩:=mem
  have:=h7 _ hm
  rcases hk with rfl | rfl <;> simpa using this
structure Cal (P:Program) (w:World) (K:PySem.W.Frag) (mg:Str->Option Value) (base:Heap) (k:Nat) (x:Str) (ps:List Str) (sp:Sp):Prop where
 ex:∃ (g:Addr) (fd:FuncData),mg x=some (.ref g)/\PySem.W.keepIn K (.ref g)=true/\Binds K fd ps []/\FnOk P w K mg base CX0 k g fd ps sp
section
variable {X:Cx} {k:Nat} {x:Str} {ps:List Str} {sp:Sp} {p pos:Pos} {e:Expr} {es:List Expr} {t:TA}
theorem Dz (C:Cal X.prog X.w X.K X.mg X.base k x ps sp) (hr:Room k X.A) (ha:PA X (e :: es) t) (hg:Gl X x:=by rfl) (hdb:(x == ("__debug__" : Str))=false:=by decide) (he:starEach (e :: es) X.env=(false,eval e X.env) :: starEach es X.env:=by rfl)
  (hpl:(backTo pos (starEach es X.env)).any (·.1)=false:=by rfl):PE X (.Call (.Name x p) (e :: es) [] pos) (tCall sp [] E0 t):=by
 obtain ⟨g,fd,hm,hk,hb,F⟩:=C.ex
 exact pe_call F hr hg hm hk hb .nil pass0 ha hdb he hpl
end
theorem Fun.cal {K:PySem.W.Frag} {st:Stmt} {ps:List Str} (F:Fun K x qual st f fd) (hm:mg x=some (.ref f))
  (G:FnOk P w K mg base CX0 k f fd ps sp)
  (h:∀ (kV doc pm:Value) (an:Option Addr) (cdv ct:Value) (us:List Value),us.length=ps.length->bindArgs (PySem.W.fnOf x qual (defArgs st) (defBody st) (defScope st) .none kV doc pm an cdv ct) ⟨us,[]⟩=pure (ps.zip us)):Cal P w K mg base k x ps sp :=
 ⟨f,fd,hm,F.kp,F.binds h,G⟩
theorem qK:bootBuiltins "int" = some (.type "int"):=by decide +kernel
theorem uJ:bootBuiltins "list" = some (.type "list"):=by decide +kernel
theorem eY:bootBuiltins "len" = some (.builtin "len"):=by decide +kernel
def inS (i j:Str):Bool:=!(Builtin.Str.occurrences j i 0 j.length 1).isEmpty
def rInU (K:PySem.W.Frag) (neg:Bool):R2:=fun x y H Q=>match x,y with
 | .str i,.str j=>Q (.bl (if neg then !inS i j else inS i j)) H
 | _,.ref p=>(∃ o,DGet H p x o/\Q (.bl (if neg then !o.isSome else o.isSome)) H)\/rIn K neg x y H Q
 | _,_=>False
theorem Bx (hu:X.A.units+64<cLine):OpR X (compareOp .In) (rInU X.K false):=by
 intro pins s σ H x y v u Q I rx ry h
 unfold rInU at h
 split at h
 ·exact op_in_str pins s σ H _ _ v u Q I rx ry ⟨_,_,rfl,rfl,h⟩
 ·rcases h with ⟨o,g,q⟩ | h
  ·cases ry
   exact d_in (by lia) I g rx fun s3 I3=>⟨.bl o.isSome,H,I3,rfl,q⟩
  ·exact op_in_seq pins s σ H _ _ v u Q I rx ry h
 ·exact h.elim
theorem Same.upd (h:Same H H') (hp:H' p=none):Same H (upd H' p o):=fun b u e=>by
 have e':=h b u e
 rw [upd_ne (ne_of_none e' hp)]
 exact e'
theorem Same.lst {K:PySem.W.Frag} (e:Same H H') (h:SqL K H a xs):SqL K H' a xs:=e.seq h
theorem Same.tup {K:PySem.W.Frag} (e:Same H H') (h:SqT K H a xs):SqT K H' a xs:=by
 rcases h with (h | ⟨o,h⟩) | h
 ·exact .inl (.inl (e _ _ h))
 ·exact .inl (.inr ⟨o,e _ _ h⟩)
 ·exact .inr h
mutual
theorem Rep.same {K:PySem.W.Frag} (s:Same H H'):∀ {d:PyData} {v:V},Rep K H d v->Rep K H' d v
 | _,_,.none=>.none
 | _,_,.bool b=>.bool b
 | _,_,.int i=>.int i
 | _,_,.str x=>.str x
 | _,_,.list h hs=>.list (s.lst h) (Reps.same s hs)
 | _,_,.tuple h hs=>.tuple (s.tup h) (Reps.same s hs)
theorem Reps.same {K:PySem.W.Frag} (s:Same H H'):∀ {ds:List PyData} {vs:List V},Reps K H ds vs->Reps K H' ds vs
 | _,_,.nil=>.nil
 | _,_,.cons h hs=>.cons (Rep.same s h) (Reps.same s hs)
end
section
variable {X:Cx} {K:PySem.W.Frag}
theorem kIx (hK:X.K=K:=by rfl):IxR X (rIxU K):=by subst hK; exact yH
theorem kEq (hu:X.A.units+64<cLine) (hK:X.K=K:=by rfl):OpR X (compareOp .Eq) (rEqU K):=by subst hK; exact BJ hu
theorem kNe (hu:X.A.units+64<cLine) (hK:X.K=K:=by rfl):OpR X (compareOp .NotEq) (rNeU K):=by subst hK; exact CV hu
theorem kIn (hu:X.A.units+64<cLine) (hK:X.K=K:=by rfl):OpR X (compareOp .In) (rInU K false):=by subst hK; exact Bx hu
end
theorem Ib {α:Type} {a:α} {p:α->Prop}:(∃ v,a=v/\p v)↔p a:=⟨fun ⟨_,e,h⟩=>e ▸ h,fun h=>⟨a,rfl,h⟩⟩
end L2
namespace L2
open PySem PySem.Spec PyProof.Rows
abbrev Ents:=Array DictEntry
def RawD (h:Heap) (d:Addr) (es:Ents) (ep:Nat):Prop:=∃ o,h.get? d=some o/\o.ExactDict/\o.data=.dict es ep
theorem RawD.typ {s:Shared} {d:Addr} {es:Ents} {ep:Nat} (x:RawD s.heap d es ep):s.TypeIs (.ref d) "dict" := let ⟨o,e,c,_⟩:=x; ⟨o,e,c.1⟩
section
variable {prog:Program} {w:World} {A:Around} {E:Value->Shared->Prop} {s:Shared} {d it:Addr} {es:Ents} {ep i:Nat}
theorem xq {Q:Value->Shared->Prop} (lo:(d == sysModules)=false) (x:RawD s.heap d es ep)
  (q:Q (.ref s.heap.objs.size) { s with heap:=s.heap.push { cls:=.type "dict_keyiterator",data:=.fields #[.ref d,.int 0 0,.int es.size 0,.int ep 0] } }):wpAny (model prog w) A (pyIter (.ref d)) Q E s:=by
 obtain ⟨o,ho,hc,hdat⟩:=id x
 refine wpAny_pyIter_slot x.typ F.slot_dict_iter (wpAny_call_entry F.slot_dict_iter x.typ F.entry_dict_iter ?_ (F.args_dict_iter_1 _))
 unfold Builtin.«dict.__iter__»
 refine xaa ?_
 unfold Builtin.Dict.dictSlotNone
 refine xaa (wpAny_notOrdered_dict x.typ ?_)
 refine (show wpAny _ _ (pure (Value.ref d)) _ _ s from xac ?_)
 refine (show wpAny _ _ (Builtin.Dict.showsAll d >>= _) _ _ s from ?_)
 unfold Builtin.Dict.showsAll
 rw [if_neg (by rw [lo]; decide)]
 refine xaa (xac (xaa (wpAny_dictEntries ho hdat (xaa (wpAny_dictEpoch ho hdat (xaa (wpAny_newObj_type (xac ⟨_,rfl, "dict_keyiterator",_,⟨_,xaq _ rfl,rfl⟩,F.slot_dict_keyiterator_next.lookup,?_⟩))))))))
 simpa [rawInt] using q
theorem xR (hit:s.heap.IsKeyIter it d i es.size ep) (x:RawD s.heap d es ep) (hx:i<es.size)
  (q:∀ h',h'.IsKeyIter it d (i+1) es.size ep->Heap.SameBut it s.heap h'->Q (some es[i].key) { s with heap:=h' }):wpAny (model prog w) A (pyNext (.ref it)) Q E s:=by
 obtain ⟨o,ho,hc,hd⟩:=id hit
 obtain ⟨od,hod,hcd,hdd⟩:=id x
 have ty:=hit.typeIs
 unfold pyNext
 refine xaa (wpAny_attempt (wpAny_callSpecial?_slot (name:=Str.ofString "__next__") ty F.slot_dict_keyiterator_next (wpAny_call_entry F.slot_dict_keyiterator_next ty F.entry_dict_keyiterator_next ?_ (F.args_dict_keyiterator_next_1 _))))
 refine xaa (xac (xaa (xaa ?_)))
 first | refine xaa (wpAny_typeNameOfWhole_keyiter ty (xac ?_)) | refine xaa (wpAny_typeNameOf_keyiter ty (xac ?_))
 refine xaa (wpAny_fieldsOf ho hd ?_)
 simp only [show Builtin.Dict_items.ownsTuple "dict_keyiterator" = false by decide,xao,if_false]
 refine (show wpAny _ _ (if (Value.ref d == Value.none)=true then _ else _) _ _ s from ?_)
 rw [if_neg (show ¬ ((Value.ref d == Value.none)=true) by intro h; cases h)]
 refine xaa (xac (xaa (wpAny_dictEntries hod hdd ?_)))
 rw [if_neg (by intro h; simp at h)]
 refine xaa (xac (xaa (wpAny_dictEpoch hod hdd ?_)))
 rw [if_neg (by intro h; simp at h)]
 refine xac ?_
 simp only [show ¬ ((i:Int)<0) by lia,if_false,xbx,xaP hx]
 refine xaa ?_
 first | refine xaa (wpAny_typeNameOfWhole_keyiter ty (xac ?_)) | refine xaa (wpAny_typeNameOf_keyiter ty (xac ?_))
 refine xaa (wpAny_isOneOf_keyiter ty ?_)
 refine (show wpAny _ _ (setField (.ref it) 1 (rawInt ((i:Int)+1)) >>= _) _ _ s from xaa (wpAny_setField ho hd (by simp) ?_))
 have hit':(s.heap.update it (Obj.mapFields (·.setIfInBounds 1 (rawInt ((i:Int)+1))))).IsKeyIter it d (i+1) es.size ep :=
  ⟨_,xbs _ ho (Obj.isFreed_of_fields (Obj.data_mapFields hd _)),(Obj.cls_mapFields ..).trans hc,by rw [Obj.data_mapFields hd]; simp [rawInt]⟩
 refine xaa (wpAny_holding (xaa (wpAny_isOneOf_keyiter (s:={ s with heap:=s.heap.update it (Obj.mapFields (·.setIfInBounds 1 (rawInt ((i:Int)+1)))) }) hit'.typeIs ?_)))
 refine (show wpAny _ _ (pure es[i].key) _ _ _ from xac (xac ⟨_,rfl,xac (q _ hit' (Heap.SameBut.update ..))⟩))
theorem yl (hh:A.handled=none) (hit:s.heap.IsKeyIter it d es.size es.size ep) (x:RawD s.heap d es ep) (q:∀ h',Heap.ExtBut it s.heap h'->Q none { s with heap:=h' }) :
  wpAny (model prog w) A (pyNext (.ref it)) Q E s:=by
 obtain ⟨o,ho,hc,hd⟩:=id hit
 obtain ⟨od,hod,hcd,hdd⟩:=id x
 have ty:=hit.typeIs
 unfold pyNext
 refine xaa (wpAny_attempt (wpAny_callSpecial?_slot (name:=Str.ofString "__next__") ty F.slot_dict_keyiterator_next (wpAny_call_entry F.slot_dict_keyiterator_next ty F.entry_dict_keyiterator_next ?_ (F.args_dict_keyiterator_next_1 _))))
 refine xaa (xac (xaa (xaa ?_)))
 first | refine xaa (wpAny_typeNameOfWhole_keyiter ty (xac ?_)) | refine xaa (wpAny_typeNameOf_keyiter ty (xac ?_))
 refine xaa (wpAny_fieldsOf ho hd ?_)
 simp only [show Builtin.Dict_items.ownsTuple "dict_keyiterator" = false by decide,xao,if_false]
 refine (show wpAny _ _ (if (Value.ref d == Value.none)=true then _ else _) _ _ s from ?_)
 rw [if_neg (show ¬ ((Value.ref d == Value.none)=true) by intro h; cases h)]
 refine xaa (xac (xaa (wpAny_dictEntries hod hdd ?_)))
 rw [if_neg (by intro h; simp at h)]
 refine xaa (xac (xaa (wpAny_dictEpoch hod hdd ?_)))
 rw [if_neg (by intro h; simp at h)]
 refine xac ?_
 simp only [show ¬ ((es.size:Int)<0) by lia,if_false,xbx,xa1 (xaf es.size)]
 refine xaa ?_
 first | refine xaa (wpAny_typeNameOfWhole_keyiter ty (xac ?_)) | refine xaa (wpAny_typeNameOf_keyiter ty (xac ?_))
 refine (show wpAny _ _ (setField (.ref it) 0 .none >>= _) _ _ s from xaa (wpAny_setField ho hd (by simp) ?_))
 refine (show wpAny _ _ (newExc (.type "StopIteration") [] >>= _) _ _ _ from xaa ?_)
 simp only [newExc,newTuple]
 refine xaa (wpAny_newObj_type ?_ (by size_fits))
 refine xaa (m:=firstArgMember _ _) (wpAny_of_eq (a:=Value.none) (by first | rfl | (simp only [firstArgMember]; rfl)) (wpAny_newObj_type ?_ (by size_fits)))
 simp only [raiseNew]
 refine xaa (wpAny_handled ?_)
 rw [show A.in1.handled=none from hh]
 refine xaa (xac (wpAny_throw ?_))
 refine xaa (wpAny_isInstance (b:=true) (T := "StopIteration") ⟨_,xaq _ rfl,rfl⟩ isSubtype_stop ?_)
 exact xac (q _ (((Heap.SameBut.update ..).extBut.push _).push _))
theorem RawD.at (x:RawD h d es ep) (e:∀ o,h.get? d=some o->h'.get? d=some o):RawD h' d es ep:=let ⟨o,ho,r⟩:=x; ⟨o,e o ho,r⟩
theorem RawD.lt (x:RawD h d es ep):d<h.objs.size:=let ⟨_,e,_⟩:=x; xan e
theorem tX (hh:A.handled=none) (I:Addr) (hne:d≠I):Walks prog w A I [I,d] [I] es.size (fun i v=>∃ e,es[i]? = some e/\v=e.key) (fun i h=>h.IsKeyIter I d i es.size ep/\RawD h d es ep) where
 sub:=fun b hb=>by simp at hb; simp [hb]
 frame:=fun _ _ _ st hk=>⟨st.1.at fun o e=>hk I (by simp) o e,st.2.at fun o e=>hk d (by simp) o e⟩
 item:=fun i s Q E hi st hQ=>xR st.1 st.2 hi fun h' a b=>hQ _ h' s.toks ⟨es[i],by simp [hi],rfl⟩ ⟨a,st.2.at fun o e=>b.extBut d o hne e⟩ fun c o hb e=>b.extBut c o (fun h=>hb (by simp [h])) e
 done:=fun s Q E st hQ=>yl hh st.1 st.2 fun h' he'=>hQ h' s.toks fun b o hb e=>he' b o (fun h=>hb (by simp [h])) e
 self:=fun _ _ _ _ st hQ=>wpAny_pyIter_keyiter st.1 hQ
theorem vD (lo:(d == sysModules)=false):PySem.W.KdlSrc prog w "dict" d d es.size (fun i v=>∃ e,es[i]? = some e/\v=e.key) (fun h=>RawD h d es ep) where
 type:=fun _ x=>x.typ
 there:=fun _ x=>⟨x.lt,x.lt⟩
 keep:=fun _ _ x hk=>x.at fun o e=>hk d (.inl rfl) o e
 notList:=by decide
 notTuple:=by decide
 hint:=fun _ _ _ _ x hq=>PySem.W.kdl_hint_dict x.typ hq
 iter:=fun _ _ hh x=>⟨_,_,(fun _ _ hq=>xq lo x hq),tX hh _ (xaw x.lt),⟨⟨_,xaq _ rfl,rfl,rfl⟩,x.at fun o e=>xae _ e⟩⟩
end
theorem Paired.n0 {α β:Type} {R:α->β->Prop} {bs:List β} (h:Paired R [] bs):bs=[]:=by cases h; rfl
theorem Paired.c {α β:Type} {R:α->β->Prop} {a:α} {as:List α} {bs:List β} (h:Paired R (a :: as) bs):∃ b cs,bs=b :: cs/\R a b/\Paired R as cs:=by
 cases h with
 | cons r t=>exact ⟨_,_,rfl,r,t⟩
def cj (H:Hp) (ys:List V) (ks:List (List Key)):Prop:=Paired (fun (v:V) (k:List Key)=>∃ b,v=.ref b/\H b=some (.tup (k.map kV))) ys ks
section
variable {X:Cx}
def qt:List V->Hp->VK->Prop:=fun xs H Q=>match xs with
 | [.ref p]=>∃ kvs,H p=some (.dT kvs)/\∀ ys l,cj H ys (kvs.map (·.1))->H l=none->Q (.ref l) (upd H l (.lst ys))
 | _=>False
theorem uH
  (h:Paired (fun (p:List Key × V) (q:List Key × Addr × Value)=>p.1=q.1/\H q.2.1=some (.tup (p.1.map kV))/\RelV p.2 q.2.2) kvs xs) :
  cj H (xs.map fun q=>.ref q.2.1) (kvs.map (·.1))/\Vals (xs.map fun q=>.ref q.2.1) ((xs.map (entryOfKey (tupleKind (mixKind prog w)))).map (·.key)):=by
 induction h with
 | nil=>exact ⟨.nil,.nil⟩
 | cons r t ih=>exact ⟨.cons ⟨_,rfl,r.2.1⟩ ih.1,.cons rfl ih.2⟩
theorem rZ (hc:X.calm=true):CallR X (.type "list") qt:=by
 intro pins s σ H xs us Q I r h
 unfold qt at h
 split at h
 ·rename_i p
  obtain ⟨kvs,e,q⟩:=h
  obtain ⟨u,rfl,ru⟩:=Vals.one r
  cases ru
  obtain ⟨z,y,ps,rel,o,es,ep,h1,h2,h3,h4,h5⟩:=(show ObjOk X.prog X.w H s.heap p (.dT kvs) from I.hok p _ e)
  obtain ⟨ta,va⟩:=uH (prog:=X.prog) (w:=X.w) rel
  have hlen:es.size=kvs.length:=by
   have:=congrArg List.length h4
   rw [xa2,xag] at this
   rw [this]; exact rel.length.symm
  refine PySem.W.kdl_call (vD (es:=es) (ep:=ep) y) (I.ok.hd hc) ⟨o,h1,h2,h3⟩ (by lia) fun h' tk acc c kp eo hacc=>?_
  have hv:acc.toList=(ps.map (entryOfKey (tupleKind (mixKind X.prog X.w)))).map (·.key):=by
   apply xbe
   intro i
   by_cases hi:i<es.size
   ·have hi2:i<acc.size:=by rw [hacc.1]; exact hi
    obtain ⟨en,e1,e2⟩:=hacc.2 i acc[i] (by simp [hi2])
    rw [<- h4,xaG,xax,xax,e1]
    simp [hi2,e2]
   ·rw [<- h4,xaG,xax,xax,xa1 (by rw [hacc.1]; exact xbc ‹_›),xa1 (by exact xbc ‹_›)]
    rfl
  refine ⟨.ref s.heap.objs.size,_,I.laid (t':=tk) kp (xaf _) (show ObjOk X.prog X.w _ h' _ (.lst (ps.map fun q=>.ref q.2.1)) from ⟨?_,acc.toList,c,?_,?_⟩),rfl,q _ _ ta (I.hok.fresh (xaf _))⟩
  ·rw [xag,<- rel.length]; exact z
  ·rw [hv]; exact va
  ·rw [xbQ]; exact eo
 ·exact h.elim
end
end L2
namespace Tim
open PySem PyProof.Rows
def R (r:Value->Int) (xs:Array Keyed) (i:Nat):Int:=match xs[i]? with
 | some p=>r p.1
 | none=>0
theorem cL (h:xs[i]? = ys[j]?):R r xs i=R r ys j:=by unfold R; rw [h]
def Cmp (prog:Program) (w:World) (A:Around) (s:Shared) (κ:SortKind) (r:Value->Int) (P:Value->Prop):Prop :=
 ∀ x y,P x->P y->∀ (Q:Bool->Shared->Prop) (E:Value->Shared->Prop),Q (decide (r x<r y)) s->wpAny (model prog w) A (keyLt' κ x y) Q E s
def AllP (P:Value->Prop) (xs:Array Keyed):Prop:=∀ p∈xs.toList,P p.1
theorem AllP.perm (h:AllP P xs) (hp:ys.Perm xs):AllP P ys:=fun p hm=>h p ((xbS.mp hp).mem_iff.mp hm)
theorem AllP.at {P:Value->Prop} {xs:Array Keyed} (h:AllP P xs) {i:Nat} {p:Keyed} (e:xs[i]? = some p):P p.1:=h p (by
 obtain ⟨hi,rfl⟩:=xa7.mp e
 simp)
structure Win (lo hi:Nat) (st st':SortSt):Prop where
 kind:kindOf st'=kindOf st
 failed:failedOf st'=failedOf st
 pend:pendingOf st'=pendingOf st
 perm:(arrOf st').Perm (arrOf st)
 out:∀ k,k<lo\/hi<=k->(arrOf st')[k]? = (arrOf st)[k]?
theorem Win.refl (lo hi:Nat) (st:SortSt):Win lo hi st st:=⟨rfl,rfl,rfl,Array.Perm.refl _,fun _ _=>rfl⟩
theorem Win.trans {lo hi:Nat} (h:Win lo hi a b) (g:Win lo hi b c):Win lo hi a c :=
 ⟨g.kind.trans h.kind,g.failed.trans h.failed,g.pend.trans h.pend,g.perm.trans h.perm,fun k hk=>(g.out k hk).trans (h.out k hk)⟩
theorem Win.mono {lo hi lo' hi':Nat} (h:Win lo hi a b) (h1:lo'<=lo) (h2:hi<=hi'):Win lo' hi' a b :=
 ⟨h.kind,h.failed,h.pend,h.perm,fun k hk=>h.out k (by lia)⟩
theorem Win.size {lo hi:Nat} (h:Win lo hi a b):(arrOf b).size=(arrOf a).size:=h.perm.size_eq
def Up (r:Value->Int) (xs:Array Keyed) (lo hi:Nat):Prop:=∀ i j,lo<=i->i<=j->j<hi->R r xs i<=R r xs j
def Down (r:Value->Int) (xs:Array Keyed) (lo hi:Nat):Prop:=∀ i j,lo<=i->i<=j->j<hi->R r xs j<=R r xs i
theorem rD (hs:src<xs.size) (hd:d<=src) (k:Nat) :
  R r (bubble xs src d) k=if k=src - d then R r xs src else if src - d<k/\k<=src then R r xs (k - 1) else R r xs k:=by
 have e:=getElem?_bubble hs d hd k
 by_cases h1:k=src - d
 ·rw [if_pos h1] at e ⊢; exact cL e
 ·rw [if_neg h1] at e ⊢
  by_cases h2:src - d<k/\k<=src
  ·rw [if_pos h2] at e ⊢; exact cL e
  ·rw [if_neg h2] at e ⊢; exact cL e
theorem lC (hj:j<=xs.size) (k:Nat) :
  R r (mirror xs i j ((j - i) / 2)) k=if i<=k/\k<j then R r xs (i+j - 1 - k) else R r xs k:=by
 have e:=getElem?_mirror_all (i:=i) hj k
 by_cases h1:i<=k/\k<j
 ·rw [if_pos h1] at e ⊢; exact cL e
 ·rw [if_neg h1] at e ⊢; exact cL e
theorem bD (hj:j<=xs.size) (heq:∀ k,i<=k->k<j->R r xs k=R r xs (j - 1)) (k:Nat) :
  R r (mirror xs i j ((j - i) / 2)) k=R r xs k:=by
 rw [lC hj]
 split
 ·rw [heq _ (by lia) (by lia),heq k (by lia) (by lia)]
 ·rfl
section
variable {prog:Program} {w:World} {A:Around} {E:Value->Shared->Prop} {s:Shared} {κ:SortKind} {r:Value->Int} {P:Value->Prop}
theorem oO {st:SortSt} (C:Cmp prog w A s κ r P) (hk:kindOf st=κ) (hx:P x.1) (hy:P y.1) (h:Q (some (decide (r x.1<r y.1))) st) :
  wpS (model prog w) A E s (lt' x y) Q st:=by
 rw [lt'_eq]
 refine wpS_bind (wpS_get ?_)
 rw [hk]
 refine wpS_bind (wpS_lift (wpAny_attempt (C x.1 y.1 hx hy _ _ ⟨rfl,?_⟩)))
 exact wpS_pure h
theorem aH {st:SortSt} (hi:i<xs.size) (h:∀ p,xs[i]? = some p->Q p st):wpS (model prog w) A E s (elem' xs i) Q st:=by
 rw [elem'_eq,getElem?_pos xs i hi]
 exact wpS_pure (h _ (getElem?_pos xs i hi))
theorem jj {st:SortSt} {i j:Nat} {Q:Option Bool->SortSt->Prop} (C:Cmp prog w A s κ r P) (hk:kindOf st=κ) (hP:AllP P (arrOf st)) (hi:i<(arrOf st).size) (hj:j<(arrOf st).size)
  (h:Q (some (decide (R r (arrOf st) i<R r (arrOf st) j))) st):wpS (model prog w) A E s (ltAt' i j) Q st:=by
 rw [ltAt'_eq]
 refine wpS_bind (wpS_get ?_)
 show wpS _ _ _ _ (do let x <- elem' (arrOf st) i; let y <- elem' (arrOf st) j; lt' x y) Q st
 refine wpS_bind (aH hi fun p ep=>wpS_bind (aH hj fun q eq=>oO C hk (hP.at ep) (hP.at eq) ?_))
 have e1:R r (arrOf st) i=r p.1:=by unfold R; rw [ep]
 have e2:R r (arrOf st) j=r q.1:=by unfold R; rw [eq]
 rw [<- e1,<- e2]
 exact h
theorem cV {st:SortSt} (h:Q () (setArr st (mirror (arrOf st) i j ((j - i) / 2)))) :
  wpS (model prog w) A E s (reverseSlice' i j) Q st:=by
 rw [reverseSlice'_eq]; exact wpS_modify h
theorem eO {st:SortSt} (hj:j<=(arrOf st).size):Win i j st (setArr st (mirror (arrOf st) i j ((j - i) / 2))) :=
 ⟨rfl,rfl,rfl,mirror_perm _ _ _ _,fun k hk=>by
  have e:=getElem?_mirror_all (i:=i) hj k
  rw [if_neg (by lia)] at e
  exact e⟩
theorem sY {st:SortSt} {lo src d:Nat} (hs:src<(arrOf st).size) (hd:lo+d<=src):Win lo (src+1) st (setArr st (bubble (arrOf st) src d)) :=
 ⟨rfl,rfl,rfl,bubble_perm _ _ _,fun k hk=>by
  have e:=getElem?_bubble hs d (by walk_at "s4") k
  rw [if_neg (by lia),if_neg (by lia)] at e
  exact e⟩
theorem wpS_binarySort {st:SortSt} {lo n ok:Nat} (C:Cmp prog w A s κ r P) (hk:kindOf st=κ) (hP:AllP P (arrOf st)) (hn:lo+n<=(arrOf st).size) (hok:ok<=n) (hs:Up r (arrOf st) lo (lo+ok))
  (h:∀ st',Win lo (lo+n) st st'->Up r (arrOf st') lo (lo+n)->Q true st'):wpS (model prog w) A E s (binarySort' lo n ok) Q st:=by
 rw [binarySort'_eq]
 refine wpS_bind (wpS_mono (wpS_forRange (I:=fun k c st'=>c=(none,())/\Win lo (lo+n) st st'/\Up r (arrOf st') lo (lo+min k n))
  (Q:=fun c st'=>c=(none,())/\Win lo (lo+n) st st'/\Up r (arrOf st') lo (lo+n)) ?step ?fin ?init) ?post)
 case post =>
  rintro c st' ⟨rfl,hB',hs'⟩
  exact wpS_pure (h st' hB' hs')
 case init =>
  refine ⟨rfl,.refl _ _ _,fun i j hl hij hj=>?_⟩
  by_cases h1:ok=0
  ·have:i=j:=by lia
   subst this; exact xbd _
  ·exact hs i j hl hij (by lia)
 case fin =>
  rintro c st' ⟨hc,hB',hs'⟩
  refine ⟨hc,hB',?_⟩
  rwa [show min (max (max ok 1) n) n=n by lia] at hs'
 case step =>
  rintro k c st' hak hkn ⟨rfl,hB',hs'⟩
  rw [show min k n=k by lia] at hs'
  have hsz:=hB'.size
  have hk':kindOf st'=κ:=hB'.kind.trans hk
  have hP':=hP.perm hB'.perm
  refine wpS_bind (wpS_mono (wpS_forRange (I:=fun x c st''=>st''=st'/\∃ l r',c=(none,l,r')/\l<=r'/\r'<=k/\r' - l<=k - x /\
    (∀ i,lo<=i->i<lo+l->R r (arrOf st') i<=R r (arrOf st') (lo+k))/\(∀ i,lo+r'<=i->i<lo+k->R r (arrOf st') (lo+k)<R r (arrOf st') i))
   (Q:=fun c st''=>st''=st'/\∃ l r',c=(none,l,r')/\l<=k /\
    (∀ i,lo<=i->i<lo+l->R r (arrOf st') i<=R r (arrOf st') (lo+k))/\(∀ i,lo+l<=i->i<lo+k->R r (arrOf st') (lo+k)<R r (arrOf st') i)) ?istep ?ifin ?iinit) ?ipost)
  case iinit=>exact ⟨rfl,0,k,rfl,by lia,by lia,by lia,fun i _ hi=>by lia,fun i h1 h2=>by lia⟩
  case ifin =>
   rintro c st'' ⟨rfl,l,r',rfl,hlr,hrk,hm,hlo,hhi⟩
   have:l=r':=by lia
   subst this
   exact ⟨rfl,l,l,rfl,hrk,hlo,hhi⟩
  case istep =>
   rintro x c st'' _ hxk ⟨rfl,l,r',rfl,hlr,hrk,hm,hlo,hhi⟩
   dsimp only
   by_cases hge:l >= r'
   ·rw [if_pos hge]
    have:l=r':=by lia
    subst this
    exact wpS_pure ⟨rfl,l,l,rfl,hrk,hlo,hhi⟩
   ·rw [if_neg hge]
    refine wpS_bind (jj C hk' hP' (by lia) (by lia) ?_)
    by_cases hless:R r (arrOf st'') (lo+k)<R r (arrOf st'') (lo+(l+r') / 2)
    ·simp only [hless,decide_true,if_true]
     refine wpS_pure ⟨rfl,l,(l+r') / 2,rfl,by lia,by lia,by lia,hlo,fun i h1 h2=>?_⟩
     exact Int.lt_of_lt_of_le hless (hs' _ _ (by lia) h1 h2)
    ·simp only [hless,decide_false,xao,if_false]
     refine wpS_pure ⟨rfl,(l+r') / 2+1,r',rfl,by lia,by lia,by lia,fun i h0 h1=>?_,hhi⟩
     exact xa9 (hs' i (lo+(l+r') / 2) h0 (by lia) (by lia)) (Int.not_lt.mp hless)
  case ipost =>
   rintro c st'' ⟨rfl,l,r',rfl,hlk,hlo,hhi⟩
   show wpS _ _ _ _ (do moveDown' (lo+k) (lo+l); pure (ForInStep.yield (none,()))) _ _
   rw [moveDown'_eq]
   have hks:lo+k<(arrOf st'').size:=by lia
   refine wpS_bind (wpS_modify (wpS_pure ⟨rfl,hB'.trans ((sY (lo:=lo) hks (by lia)).mono (xaf _) (by lia)),?_⟩))
   rw [show min (k+1) n=k+1 by lia]
   intro i j hl hij hj
   show R r (bubble (arrOf st'') (lo+k) (lo+k - (lo+l))) i<=R r (bubble (arrOf st'') (lo+k) (lo+k - (lo+l))) j
   rw [rD hks (by lia),rD hks (by lia),show lo+k - (lo+k - (lo+l))=lo+l by lia]
   repeat' split
   all_goals first
    | (exfalso; lia)
    | exact xbd _
    | exact hlo _ (by lia) (by lia)
    | exact xbm (hhi _ (by lia) (by lia))
    | exact hs' _ _ (by lia) (by lia) (by lia)
end
def ascL (lo a nrem:Nat):StateT SortSt Sem AscSt :=
 forIn [a:nrem] ((none,a):AscSt) fun _ __s=>do
  let __x ← ltAt' (lo + __s.snd) (lo + __s.snd - 1)
  match __x with
  | some smaller=>if smaller=true then pure (ForInStep.done (none,__s.snd)) else pure (ForInStep.yield (none,__s.snd+1))
  | _=>pure (ForInStep.done (some none,__s.snd))
def nq (lo n nrem:Nat):StateT SortSt Sem (Option Nat):=do
 reverseSlice' lo (lo+n)
 let __s ← ascL lo n nrem
 match __s.fst with
 | some r=>pure r
 | none=>pure (some __s.snd)
def wF (lo n nrem:Nat):StateT SortSt Sem DescSt :=
 forIn [n:nrem] ((none,n,0):DescSt) fun _ __s=>do
  let __x ← ltAt' (lo + __s.snd.fst) (lo + __s.snd.fst - 1)
  match __x with
  | some smaller =>
   if smaller=true then
    if __s.snd.snd>0 then do
     reverseSlice' (lo+__s.snd.fst - (__s.snd.snd+1)) (lo+__s.snd.fst)
     pure (ForInStep.yield (none,__s.snd.fst+1,0))
    else pure (ForInStep.yield (none,__s.snd.fst+1,0))
   else do
    let __x ← ltAt' (lo+__s.snd.fst - 1) (lo+__s.snd.fst)
    match __x with
    | some larger =>
     if larger=true then pure (ForInStep.done (none,__s.snd.fst,__s.snd.snd))
     else pure (ForInStep.yield (none,__s.snd.fst+1,__s.snd.snd+1))
    | _=>pure (ForInStep.done (some none,__s.snd.fst,__s.snd.snd))
  | _=>pure (ForInStep.done (some none,__s.snd.fst,__s.snd.snd))
def dR (lo n nrem:Nat):StateT SortSt Sem (Option Nat):=do
 liftM (rule "list.sort.descending-run")
 let __s ← wF lo (n+1) nrem
 match __s.fst with
 | some r=>pure r
 | none =>
  if __s.snd.snd>0 then do
   reverseSlice' (lo+__s.snd.fst - (__s.snd.snd+1)) (lo+__s.snd.fst)
   nq lo __s.snd.fst nrem
  else nq lo __s.snd.fst nrem
theorem oE (lo nrem:Nat):countRun' lo nrem=(do
  let __s ← ascL lo 1 nrem
  match __s.fst with
  | some r=>pure r
  | none =>
   if (__s.snd == nrem)=true then pure (some __s.snd)
   else if __s.snd>1 then do
    let __x ← ltAt' lo (lo+__s.snd - 1)
    match __x with
    | some rose=>if rose=true then pure (some __s.snd) else do
      reverseSlice' lo (lo+__s.snd)
      dR lo __s.snd nrem
    | _=>pure none
   else dR lo __s.snd nrem):=by
 rw [countRun'_eq]
 dsimp only
 unfold dR nq wF ascL
 congr 1
 funext __s
 obtain ⟨r,n⟩:=__s
 cases r with
 | some r=>rfl
 | none =>
  dsimp only
  split
  ·rfl
  ·split
   ·congr 1
    funext x
    cases x with
    | none=>rfl
    | some rose =>
     dsimp only
     split
     ·rfl
     ·congr 1
      funext _r
      (congr 1; funext _u; congr 1; congr 1; funext s2; obtain ⟨r2,n2,q2⟩:=s2; cases r2 with
       | some r2=>rfl
       | none=>(dsimp only; split; (congr 1; funext _v; (congr 1; funext _w; congr 1; (funext s3; obtain ⟨r3,n3⟩:=s3; cases r3 <;> rfl))); (congr 1; funext _w; congr 1; (funext s3; obtain ⟨r3,n3⟩:=s3; cases r3 <;> rfl))))
   ·(congr 1; funext _u; congr 1; congr 1; funext s2; obtain ⟨r2,n2,q2⟩:=s2; cases r2 with
     | some r2=>rfl
     | none=>(dsimp only; split; (congr 1; funext _v; (congr 1; funext _w; congr 1; (funext s3; obtain ⟨r3,n3⟩:=s3; cases r3 <;> rfl))); (congr 1; funext _w; congr 1; (funext s3; obtain ⟨r3,n3⟩:=s3; cases r3 <;> rfl))))
section
variable {prog:Program} {w:World} {A:Around} {E:Value->Shared->Prop} {s:Shared} {κ:SortKind} {r:Value->Int} {P:Value->Prop}
theorem qJ {st:SortSt} {lo a nrem:Nat} (C:Cmp prog w A s κ r P) (hk:kindOf st=κ) (hP:AllP P (arrOf st)) (hn:lo+nrem<=(arrOf st).size) (ha:1<=a) (han:a<=nrem)
  (hs:Up r (arrOf st) lo (lo+a))
  (h:∀ n,a<=n->n<=nrem->Up r (arrOf st) lo (lo+n)->(n=nrem\/R r (arrOf st) (lo+n)<R r (arrOf st) (lo+n - 1))->Q (none,n) st) :
  wpS (model prog w) A E s (ascL lo a nrem) Q st:=by
 unfold ascL
 refine wpS_forRange (I:=fun x c st'=>st'=st/\c=(none,x)/\Up r (arrOf st) lo (lo+x)) ?step ?fin ⟨rfl,rfl,hs⟩
 case fin =>
  rintro c st' ⟨rfl,rfl,hs'⟩
  rw [show max a nrem=nrem by lia] at hs' ⊢
  exact h nrem han (xaf _) hs' (.inl rfl)
 case step =>
  rintro x c st' hax hxn ⟨rfl,rfl,hs'⟩
  dsimp only
  refine wpS_bind (jj C hk hP (by lia) (by lia) ?_)
  by_cases hless:R r (arrOf st') (lo+x)<R r (arrOf st') (lo+x - 1)
  ·simp only [hless,decide_true,if_true]
   exact wpS_pure (h x hax (by lia) hs' (.inr hless))
  ·simp only [hless,decide_false,xao,if_false]
   refine wpS_pure ⟨rfl,rfl,fun i j hl hij hj=>?_⟩
   by_cases hjx:j<lo+x
   ·exact hs' i j hl hij hjx
   ·have hj':j=lo+x:=by lia
    subst hj'
    by_cases hi':i=lo+x
    ·subst hi'; exact xbd _
    ·exact xa9 (hs' i (lo+x - 1) hl (by lia) (by lia)) (Int.not_lt.mp hless)
theorem jW {st:SortSt} {lo n nrem:Nat} (C:Cmp prog w A s κ r P) (hk:kindOf st=κ) (hP:AllP P (arrOf st)) (hn:lo+nrem<=(arrOf st).size) (h1:1<=n) (hnn:n<=nrem)
  (hs:Down r (arrOf st) lo (lo+n)) (h:∀ m st',Win lo (lo+nrem) st st'->1<=m->m<=nrem->Up r (arrOf st') lo (lo+m)->Q (some m) st') :
  wpS (model prog w) A E s (nq lo n nrem) Q st:=by
 unfold nq
 have hsz:lo+n<=(arrOf st).size:=by lia
 refine wpS_bind (cV ?_)
 have hB':=eO (i:=lo) hsz
 refine wpS_bind (qJ C (hB'.kind.trans hk) (hP.perm hB'.perm) (by rw [hB'.size]; exact hn) h1 hnn ?_ fun m hm1 hm2 hsm _=>wpS_pure (h m _ (hB'.mono (xaf _) (by lia)) (by lia) hm2 hsm))
 intro i j hl hij hj
 show R r (mirror (arrOf st) lo (lo+n) ((lo+n - lo) / 2)) i<=R r (mirror (arrOf st) lo (lo+n) ((lo+n - lo) / 2)) j
 rw [lC hsz,lC hsz,if_pos (by lia),if_pos (by lia)]
 exact hs _ _ (by lia) (by lia) (by lia)
theorem ue {st:SortSt} {lo n nrem:Nat} (C:Cmp prog w A s κ r P) (hk:kindOf st=κ) (hP:AllP P (arrOf st)) (hn:lo+nrem<=(arrOf st).size) (h1:1<=n) (hnn:n<=nrem)
  (hs:Down r (arrOf st) lo (lo+n))
  (h:∀ m neq st',Win lo (lo+nrem) st st'->n<=m->m<=nrem->Down r (arrOf st') lo (lo+m)->neq+1<=m->(∀ i,lo+m - (neq+1)<=i->i<lo+m->R r (arrOf st') i=R r (arrOf st') (lo+m - 1))->Q (none,m,neq) st') :
  wpS (model prog w) A E s (wF lo n nrem) Q st:=by
 unfold wF
 refine wpS_forRange (I:=fun x c st'=>∃ neq,c=(none,x,neq)/\Win lo (lo+nrem) st st'/\Down r (arrOf st') lo (lo+x)/\neq+1<=x /\
   (∀ i,lo+x - (neq+1)<=i->i<lo+x->R r (arrOf st') i=R r (arrOf st') (lo+x - 1))) ?step ?fin ⟨0,rfl,.refl _ _ _,hs,by lia,fun i h1 h2=>by congr 1; lia⟩
 case fin =>
  rintro c st' ⟨neq,rfl,hB',hs',hq,he⟩
  rw [show max n nrem=nrem by lia] at hs' hq he ⊢
  exact h nrem neq st' hB' hnn (xaf _) hs' hq he
 case step =>
  rintro x c st' hax hxn ⟨neq,rfl,hB',hs',hq,he⟩
  dsimp only
  have hz:=hB'.size
  have hsz:lo+x<=(arrOf st').size:=by lia
  have hk':=hB'.kind.trans hk
  have hP':=hP.perm hB'.perm
  refine wpS_bind (jj C hk' hP' (by lia) (by lia) ?_)
  by_cases hless:R r (arrOf st') (lo+x)<R r (arrOf st') (lo+x - 1)
  ·simp only [hless,decide_true,if_true]
   have step1:∀ xs:Array Keyed,(∀ k,R r xs k=R r (arrOf st') k)->Down r xs lo (lo+(x+1)):=by
    intro xs hkk i j hl hij hj
    rw [hkk,hkk]
    by_cases hjx:j<lo+x
    ·exact hs' i j hl hij hjx
    ·have hj':j=lo+x:=by lia
     subst hj'
     by_cases hi':i=lo+x
     ·subst hi'; exact xbd _
     ·exact xa9 (xbm hless) (hs' i (lo+x - 1) hl (by lia) (by lia))
   by_cases hneq:neq>0
   ·rw [if_pos hneq]
    refine wpS_bind (cV (wpS_pure ⟨0,rfl,hB'.trans ((eO hsz).mono (by lia) (by lia)),step1 _ (bD hsz he),by lia,fun i h1 h2=>by congr 1; lia⟩))
   ·rw [if_neg hneq]
    exact wpS_pure ⟨0,rfl,hB',step1 _ (fun _=>rfl),by lia,fun i h1 h2=>by congr 1; lia⟩
  ·simp only [hless,decide_false,xao,if_false]
   refine wpS_bind (jj C hk' hP' (by lia) (by lia) ?_)
   by_cases hlarger:R r (arrOf st') (lo+x - 1)<R r (arrOf st') (lo+x)
   ·simp only [hlarger,decide_true,if_true]
    exact wpS_pure (h x neq st' hB' hax (by lia) hs' hq he)
   ·simp only [hlarger,decide_false,xao,if_false]
    have heqx:R r (arrOf st') (lo+x)=R r (arrOf st') (lo+x - 1):=by lia
    refine wpS_pure ⟨neq+1,rfl,hB',fun i j hl hij hj=>?_,by lia,fun i h1 h2=>?_⟩
    ·by_cases hjx:j<lo+x
     ·exact hs' i j hl hij hjx
     ·have hj':j=lo+x:=by lia
      subst hj'
      by_cases hi':i=lo+x
      ·subst hi'; exact xbd _
      ·rw [heqx]; exact hs' i (lo+x - 1) hl (by lia) (by lia)
    ·rw [show lo+(x+1) - 1=lo+x by lia]
     by_cases hix:i=lo+x
     ·subst hix; rfl
     ·rw [heqx]; exact he i (by lia) (by lia)
theorem fL {st:SortSt} {lo n nrem:Nat} (C:Cmp prog w A s κ r P) (hk:kindOf st=κ) (hP:AllP P (arrOf st)) (hn:lo+nrem<=(arrOf st).size) (hnn:n+1<=nrem)
  (hs:Down r (arrOf st) lo (lo+(n+1))) (h:∀ m st',Win lo (lo+nrem) st st'->1<=m->m<=nrem->Up r (arrOf st') lo (lo+m)->Q (some m) st') :
  wpS (model prog w) A E s (dR lo n nrem) Q st:=by
 unfold dR
 refine wpS_bind (wpS_lift (wpAny_rule ⟨rfl,?_⟩))
 refine wpS_bind (ue C hk hP hn (by lia) hnn hs fun m neq st' hB' hm1 hm2 hs' hq he=>?_)
 dsimp only
 have hz:=hB'.size
 have hsz:lo+m<=(arrOf st').size:=by lia
 have hk':=hB'.kind.trans hk
 have hP':=hP.perm hB'.perm
 by_cases hneq:neq>0
 ·rw [if_pos hneq]
  have hW:=eO (i:=lo+m - (neq+1)) hsz
  refine wpS_bind (cV (jW C (hW.kind.trans hk') (hP'.perm hW.perm) (by rw [hW.size,hz]; exact hn) (by lia) hm2 ?_ fun m2 st2 hB2=>h m2 st2 ((hB'.trans (hW.mono (by lia) (by lia))).trans hB2)))
  intro i j hl hij hj
  show R r (mirror (arrOf st') _ _ _) j<=R r (mirror (arrOf st') _ _ _) i
  rw [bD hsz he,bD hsz he]
  exact hs' i j hl hij hj
 ·rw [if_neg hneq]
  exact jW C hk' hP' (by rw [hz]; exact hn) (by lia) hm2 hs' fun m2 st2 hB2=>h m2 st2 (hB'.trans hB2)
theorem wpS_countRun {st:SortSt} {lo nrem:Nat} (C:Cmp prog w A s κ r P) (hk:kindOf st=κ) (hP:AllP P (arrOf st)) (hn:lo+nrem<=(arrOf st).size) (h1:1<=nrem)
  (h:∀ m st',Win lo (lo+nrem) st st'->1<=m->m<=nrem->Up r (arrOf st') lo (lo+m)->Q (some m) st') :
  wpS (model prog w) A E s (countRun' lo nrem) Q st:=by
 rw [oE]
 refine wpS_bind (qJ C hk hP hn (xaf 1) h1 (fun i j hl hij hj=>by
  have:i=j:=by lia
  subst this; exact xbd _) fun n hn1 hn2 hsn hor=>?_)
 dsimp only
 by_cases hnn:n=nrem
 ·rw [if_pos (by simpa using hnn)]
  exact wpS_pure (h n st (.refl _ _ _) hn1 hn2 hsn)
 ·rw [if_neg (by simpa using hnn)]
  have hlt:R r (arrOf st) (lo+n)<R r (arrOf st) (lo+n - 1):=hor.resolve_left hnn
  by_cases hgt:n>1
  ·rw [if_pos hgt]
   refine wpS_bind (jj C hk hP (by lia) (by lia) ?_)
   by_cases hrose:R r (arrOf st) lo<R r (arrOf st) (lo+n - 1)
   ·simp only [hrose,decide_true,if_true]
    exact wpS_pure (h n st (.refl _ _ _) hn1 hn2 hsn)
   ·simp only [hrose,decide_false,xao,if_false]
    have hsz:lo+n<=(arrOf st).size:=by lia
    have hall:∀ k,lo<=k->k<lo+n->R r (arrOf st) k=R r (arrOf st) (lo+n - 1):=by
     intro k hl hk
     have a1:=hsn lo k (by lia) hl hk
     have a2:=hsn k (lo+n - 1) hl (by lia) (by lia)
     lia
    have hW:=eO (i:=lo) hsz
    refine wpS_bind (cV (fL C (hW.kind.trans hk) (hP.perm hW.perm) (by rw [hW.size]; exact hn) (by lia) ?_ fun m2 st2 hB2=>h m2 st2 ((hW.mono (xaf _) (by lia)).trans hB2)))
    intro i j hl hij hj
    show R r (mirror (arrOf st) _ _ _) j<=R r (mirror (arrOf st) _ _ _) i
    rw [bD hsz hall,bD hsz hall]
    by_cases hjn:j<lo+n
    ·rw [hall i hl (by lia),hall j (by lia) hjn]; exact xbd _
    ·have hj':j=lo+n:=by lia
     subst hj'
     by_cases hi':i=lo+n
     ·subst hi'; exact xbd _
     ·rw [hall i hl (by lia)]; exact xbm hlt
  ·rw [if_neg hgt]
   have hn1':n=1:=by lia
   subst hn1'
   refine fL C hk hP hn (by lia) ?_ h
   intro i j hl hij hj
   by_cases hi':i=j
   ·subst hi'; exact xbd _
   ·have hi0:i=lo:=by lia
    have hj1:j=lo+1:=by lia
    subst hi0; subst hj1
    exact xbm hlt
end
def vZ (left:Bool) (key:Keyed) (arr:Array Keyed) (base i:Nat):StateT SortSt Sem (Option Bool):=do
 let x ← elem' arr (base+i)
 if left then lt' x key else return (<- lt' key x).map (!·)
def jA:Bool->Keyed->Array Keyed->Nat->Nat->Nat->StateT SortSt Sem (Option Nat):=sortPriv% PySem.Builtin.gallop
section
variable {prog:Program} {w:World} {A:Around} {E:Value->Shared->Prop} {s:Shared} {κ:SortKind} {r:Value->Int} {P:Value->Prop}
def bey (r:Value->Int) (left:Bool) (key:Keyed) (arr:Array Keyed) (base i:Nat):Bool :=
 if left then decide (R r arr (base+i)<r key.1) else !decide (r key.1<R r arr (base+i))
theorem di {st:SortSt} (C:Cmp prog w A s κ r P) (hk:kindOf st=κ) (hP:AllP P arr) (hy:P key.1) (hi:base+i<arr.size)
  (h:Q (some (bey r left key arr base i)) st):wpS (model prog w) A E s (vZ left key arr base i) Q st:=by
 unfold vZ
 refine wpS_bind (aH hi fun p ep=>?_)
 have e1:R r arr (base+i)=r p.1:=by unfold R; rw [ep]
 unfold bey at h
 rw [e1] at h
 cases left with
 | true =>
  simp only [if_true] at h ⊢
  exact oO C hk (hP.at ep) hy h
 | false =>
  simp only [xao,if_false] at h ⊢
  exact wpS_bind (oO C hk hy (hP.at ep) (wpS_pure h))
theorem xY (hu:Up r arr base (base+n)) (hij:i<=j) (hj:j<n) (h:bey r left key arr base j=true):bey r left key arr base i=true:=by
 have q:=hu (base+i) (base+j) (by lia) (by lia) (by lia)
 unfold bey at h ⊢
 cases left with
 | true=>simp only [if_true,decide_eq_true_eq] at h ⊢; lia
 | false=>simp only [xao,if_false,Bool.not_eq_true',decide_eq_false_iff_not] at h ⊢; lia
theorem cJ {st:SortSt} (C:Cmp prog w A s κ r P) (hk:kindOf st=κ) (hP:AllP P arr) (hy:P key.1) (hn:base+n<=arr.size) (hh:hint<n)
  (hu:Up r arr base (base+n))
  (h:∀ k,k<=n->(∀ i,i<k->bey r left key arr base i=true)->(∀ i,k<=i->i<n->bey r left key arr base i=false)->Q (some k) st):wpS (model prog w) A E s (jA left key arr base n hint) Q st:=by
 have mono:∀ {i j},i<=j->j<n->bey r left key arr base j=true->bey r left key arr base i=true:=fun a b c=>xY hu a b c
 have monoF:∀ {i j},i<=j->j<n->bey r left key arr base i=false->bey r left key arr base j=false:=fun {i j} a b c=>by
  cases q:bey r left key arr base j with
  | false=>rfl
  | true=>rw [mono a b q] at c; cases c
 refine wpS_bind (di C hk hP hy (by lia) ?_)
 dsimp only
 cases q0:bey r left key arr base hint with
 | true =>
  simp only [if_true]
  refine wpS_bind (wpS_mono (wpS_forRange (I:=fun x c st'=>st'=st/\∃ lst ofs,c=(none,lst,ofs)/\lst<ofs/\lst<n - hint/\x+1<=ofs/\bey r left key arr base (hint+lst)=true)
   (Q:=fun c st'=>st'=st/\∃ lst ofs,c=(none,lst,ofs)/\lst<ofs/\lst<n - hint/\bey r left key arr base (hint+lst)=true/\(n - hint<=ofs\/bey r left key arr base (hint+ofs)=false)) ?step ?fin ?init) ?post)
  case init=>exact ⟨rfl,0,1,rfl,by lia,by lia,by lia,q0⟩
  case fin =>
   rintro c st' ⟨rfl,lst,ofs,rfl,h1,h2,h3,h4⟩
   exact ⟨rfl,lst,ofs,rfl,h1,h2,h4,.inl (by lia)⟩
  case step =>
   rintro x c st' _ hx ⟨rfl,lst,ofs,rfl,h1,h2,h3,h4⟩
   dsimp only
   by_cases hge:ofs >= n - hint
   ·rw [if_pos hge]
    exact wpS_pure ⟨rfl,lst,ofs,rfl,h1,h2,h4,.inl hge⟩
   ·rw [if_neg hge]
    refine wpS_bind (di C hk hP hy (by lia) ?_)
    cases q:bey r left key arr base (hint+ofs) with
    | true =>
     simp only [xco,xao,if_false]
     exact wpS_pure ⟨rfl,_,_,rfl,by lia,by lia,by lia,q⟩
    | false =>
     simp only [Bool.not_false,if_true]
     exact wpS_pure ⟨rfl,lst,ofs,rfl,h1,h2,h4,.inr q⟩
  case post =>
   rintro c st' ⟨rfl,lst,ofs,rfl,h1,h2,h4,h5⟩
   dsimp only
   generalize st'=st at *
   have hl:∀ i,i<hint+lst+1->bey r left key arr base i=true:=fun i hi=>mono (j:=hint+lst) (by lia) (by lia) h4
   have hhi:∀ i,hint+min ofs (n - hint)<=i->i<n->bey r left key arr base i=false:=fun i hi hin=>by
    rcases h5 with h5 | h5
    ·lia
    ·by_cases z:n - hint<=ofs
     ·lia
     ·exact monoF (i:=hint+ofs) (by lia) hin h5
   have hlh:hint+lst+1<=hint+min ofs (n - hint):=by lia
   have hhn:hint+min ofs (n - hint)<=n:=by lia
   generalize hint+lst+1=lo at *
   generalize hint+min ofs (n - hint)=hi at *
   refine wpS_bind (wpS_mono (wpS_forRange (I:=fun x c st'=>st'=st/\∃ l u,c=(none,l,u)/\l<=u/\u<=n/\u - l<=n - x/\(∀ i,i<l->bey r left key arr base i=true)/\(∀ i,u<=i->i<n->bey r left key arr base i=false))
    (Q:=fun c st'=>st'=st/\∃ l,c=(none,l,l)/\l<=n/\(∀ i,i<l->bey r left key arr base i=true)/\(∀ i,l<=i->i<n->bey r left key arr base i=false)) ?stepA ?finA ?initA) ?postA)
   case initA=>exact ⟨rfl,lo,hi,rfl,hlh,hhn,by lia,hl,hhi⟩
   case finA =>
    rintro c st' ⟨rfl,l,u,rfl,h1,h2,h3,h4,h5⟩
    have:l=u:=by lia
    subst this
    exact ⟨rfl,l,rfl,h2,h4,h5⟩
   case stepA =>
    rintro x c st' _ hx ⟨rfl,l,u,rfl,h1,h2,h3,h4,h5⟩
    dsimp only
    by_cases hge:l >= u
    ·rw [if_pos hge]
     have:l=u:=by lia
     subst this
     exact wpS_pure ⟨rfl,l,rfl,h2,h4,h5⟩
    ·rw [if_neg hge]
     refine wpS_bind (di C hk hP hy (by lia) ?_)
     cases q:bey r left key arr base (l+(u - l) / 2) with
     | true =>
      simp only [if_true]
      exact wpS_pure ⟨rfl,_,_,rfl,by lia,by lia,by lia,fun i hi=>mono (j:=l+(u - l) / 2) (by lia) (by lia) q,h5⟩
     | false =>
      simp only [xao,if_false]
      exact wpS_pure ⟨rfl,_,_,rfl,by lia,by lia,by lia,h4,fun i hi hin=>monoF (i:=l+(u - l) / 2) (by lia) hin q⟩
   case postA =>
    rintro c st' ⟨rfl,l,rfl,h2,h4,h5⟩
    exact wpS_pure (h l h2 h4 h5)
 | false =>
  simp only [xao,if_false]
  refine wpS_bind (wpS_mono (wpS_forRange (I:=fun x c st'=>st'=st/\∃ lst ofs,c=(none,lst,ofs)/\lst<ofs/\lst<hint+1/\x+1<=ofs/\bey r left key arr base (hint - lst)=false)
   (Q:=fun c st'=>st'=st/\∃ lst ofs,c=(none,lst,ofs)/\lst<ofs/\lst<hint+1/\bey r left key arr base (hint - lst)=false/\(hint+1<=ofs\/bey r left key arr base (hint - ofs)=true)) ?step2 ?fin2 ?init2) ?post2)
  case init2=>exact ⟨rfl,0,1,rfl,by lia,by lia,by lia,q0⟩
  case fin2 =>
   rintro c st' ⟨rfl,lst,ofs,rfl,h1,h2,h3,h4⟩
   exact ⟨rfl,lst,ofs,rfl,h1,h2,h4,.inl (by lia)⟩
  case step2 =>
   rintro x c st' _ hx ⟨rfl,lst,ofs,rfl,h1,h2,h3,h4⟩
   dsimp only
   by_cases hge:ofs >= hint+1
   ·rw [if_pos hge]
    exact wpS_pure ⟨rfl,lst,ofs,rfl,h1,h2,h4,.inl hge⟩
   ·rw [if_neg hge]
    refine wpS_bind (di C hk hP hy (by lia) ?_)
    cases q:bey r left key arr base (hint - ofs) with
    | true =>
     simp only [if_true]
     exact wpS_pure ⟨rfl,lst,ofs,rfl,h1,h2,h4,.inr q⟩
    | false =>
     simp only [xao,if_false]
     exact wpS_pure ⟨rfl,_,_,rfl,by lia,by lia,by lia,q⟩
  case post2 =>
   rintro c st' ⟨rfl,lst,ofs,rfl,h1,h2,h4,h5⟩
   dsimp only
   generalize st'=st at *
   have hl:∀ i,i<hint+1 - min ofs (hint+1)->bey r left key arr base i=true:=fun i hi=>by
    rcases h5 with h5 | h5
    ·lia
    ·by_cases z:hint+1<=ofs
     ·lia
     ·exact mono (j:=hint - ofs) (by lia) (by lia) h5
   have hhi:∀ i,hint - lst<=i->i<n->bey r left key arr base i=false:=fun i hi hin=>monoF (i:=hint - lst) (by lia) hin h4
   have hlh:hint+1 - min ofs (hint+1)<=hint - lst:=by lia
   have hhn:hint - lst<=n:=by lia
   generalize hint+1 - min ofs (hint+1)=lo at *
   generalize hint - lst=hi at *
   refine wpS_bind (wpS_mono (wpS_forRange (I:=fun x c st'=>st'=st/\∃ l u,c=(none,l,u)/\l<=u/\u<=n/\u - l<=n - x/\(∀ i,i<l->bey r left key arr base i=true)/\(∀ i,u<=i->i<n->bey r left key arr base i=false))
    (Q:=fun c st'=>st'=st/\∃ l,c=(none,l,l)/\l<=n/\(∀ i,i<l->bey r left key arr base i=true)/\(∀ i,l<=i->i<n->bey r left key arr base i=false)) ?stepB ?finB ?initB) ?postB)
   case initB=>exact ⟨rfl,lo,hi,rfl,hlh,hhn,by lia,hl,hhi⟩
   case finB =>
    rintro c st' ⟨rfl,l,u,rfl,h1,h2,h3,h4,h5⟩
    have:l=u:=by lia
    subst this
    exact ⟨rfl,l,rfl,h2,h4,h5⟩
   case stepB =>
    rintro x c st' _ hx ⟨rfl,l,u,rfl,h1,h2,h3,h4,h5⟩
    dsimp only
    by_cases hge:l >= u
    ·rw [if_pos hge]
     have:l=u:=by lia
     subst this
     exact wpS_pure ⟨rfl,l,rfl,h2,h4,h5⟩
    ·rw [if_neg hge]
     refine wpS_bind (di C hk hP hy (by lia) ?_)
     cases q:bey r left key arr base (l+(u - l) / 2) with
     | true =>
      simp only [if_true]
      exact wpS_pure ⟨rfl,_,_,rfl,by lia,by lia,by lia,fun i hi=>mono (j:=l+(u - l) / 2) (by lia) (by lia) q,h5⟩
     | false =>
      simp only [xao,if_false]
      exact wpS_pure ⟨rfl,_,_,rfl,by lia,by lia,by lia,h4,fun i hi hin=>monoF (i:=l+(u - l) / 2) (by lia) hin q⟩
   case postB =>
    rintro c st' ⟨rfl,l,rfl,h2,h4,h5⟩
    exact wpS_pure (h l h2 h4 h5)
end
abbrev Le (r:Value->Int) (x y:Keyed):Prop:=r x.1<=r y.1
theorem R_at (e:xs[i]? = some p):R r xs i=r p.1:=by unfold R; rw [e]
theorem CG (h:i<xs.size):R r xs i=r xs[i].1:=R_at (getElem?_pos xs i h)
structure MI (r:Value->Int) (a b out:Array Keyed) (ia ib:Nat):Prop where
 ha:ia<=a.size
 hb:ib<=b.size
 perm:out.toList.Perm (a.toList.take ia++b.toList.take ib)
 up:out.toList.Pairwise (Le r)
 la:∀ x∈out.toList,∀ i,ia<=i->i<a.size->r x.1<=R r a i
 lb:∀ x∈out.toList,∀ j,ib<=j->j<b.size->r x.1<=R r b j
section
variable {r:Value->Int} {a b out:Array Keyed} {ia ib:Nat}
theorem kO {α:Type} {l:List α} {i:Nat} {x:α} (h:l[i]? = some x):l.take (i+1)=l.take i++[x]:=by
 rw [xbM,h]; rfl
theorem MI.m5 (M:MI r a b out ia ib) (hA:Up r a 0 a.size) (hB:Up r b 0 b.size) {y:Keyed} (e:b[ib]? = some y) (hl:ia<a.size->R r b ib<=R r a ia):MI r a b (out.push y) ia (ib+1):=by
 have hib:ib<b.size:=(xa7.mp e).1
 have ey:=R_at (r:=r) e
 refine ⟨M.ha,hib,?_,?_,?_,?_⟩
 ·rw [xaD,kO (x:=y) (by simpa using e),<- xaZ]
  exact M.perm.append_right _
 ·rw [xaD,xbB]
  refine ⟨M.up,by simp,fun x hx z hz=>?_⟩
  have:z=y:=by simpa using hz
  subst this
  show r x.1<=r z.1
  rw [<- ey]
  exact M.lb x hx ib (xaf _) hib
 ·intro x hx i hi hia
  rw [xaD] at hx
  rcases xai.mp hx with hx | hx
  ·exact M.la x hx i hi hia
  ·have:x=y:=by simpa using hx
   subst this
   rw [<- ey]
   exact xa9 (hl (by walk_at "s1")) (hA ia i (xas _) hi hia)
 ·intro x hx j hj hjb
  rw [xaD] at hx
  rcases xai.mp hx with hx | hx
  ·exact M.lb x hx j (by exact xaF ‹_›) hjb
  ·have:x=y:=by simpa using hx
   subst this
   rw [<- ey]
   exact hB ib j (xas _) (by exact xaF ‹_›) hjb
theorem MI.nO (M:MI r a b out ia ib) (hA:Up r a 0 a.size) (hB:Up r b 0 b.size) {y:Keyed} (e:a[ia]? = some y) (hl:ib<b.size->R r a ia<=R r b ib):MI r a b (out.push y) (ia+1) ib:=by
 have hia:ia<a.size:=(xa7.mp e).1
 have ey:=R_at (r:=r) e
 refine ⟨hia,M.hb,?_,?_,?_,?_⟩
 ·rw [xaD,kO (x:=y) (by simpa using e),xaZ]
  refine (M.perm.append_right [y]).trans ?_
  rw [xaZ]
  exact List.Perm.append_left _ xb7
 ·rw [xaD,xbB]
  refine ⟨M.up,by simp,fun x hx z hz=>?_⟩
  have:z=y:=by simpa using hz
  subst this
  show r x.1<=r z.1
  rw [<- ey]
  exact M.la x hx ia (xaf _) hia
 ·intro x hx i hi hi2
  rw [xaD] at hx
  rcases xai.mp hx with hx | hx
  ·exact M.la x hx i (by exact xaF ‹_›) hi2
  ·have:x=y:=by simpa using hx
   subst this
   rw [<- ey]
   exact hA ia i (xas _) (by exact xaF ‹_›) hi2
 ·intro x hx j hj hjb
  rw [xaD] at hx
  rcases xai.mp hx with hx | hx
  ·exact M.lb x hx j hj hjb
  ·have:x=y:=by simpa using hx
   subst this
   rw [<- ey]
   exact xa9 (hl (by walk_at "s1")) (hB ib j (xas _) hj hjb)
theorem eF {xs:Array Keyed} {i k:Nat} (h:i+k<xs.size):xs.extract i (i+(k+1))=(xs.extract i (i+k)).push xs[i+k]:=by
 apply xb8.mp
 rw [xaD]
 simp only [xcd,xbT]
 rw [show i+(k+1) - i=k+1 by exact Nat.add_sub_cancel_left ..,show i+k - i=k by exact Nat.add_sub_cancel_left ..,xbM]
 congr 1
 rw [List.getElem?_drop]
 simp [h]
theorem MI.addA (hA:Up r a 0 a.size) (hB:Up r b 0 b.size):∀ (k:Nat) {out:Array Keyed} {ia:Nat},MI r a b out ia ib->ia+k<=a.size->(ib<b.size->∀ i,i<k->R r a (ia+i)<=R r b ib)->MI r a b (out++a.extract ia (ia+k)) (ia+k) ib
 | 0,out,ia,M,h1,h2=>by
  have:a.extract ia (ia+0) = #[]:=xbl (by simp only [xbk]; lia)
  rw [this]
  simpa using M
 | k+1,out,ia,M,h1,h2=>by
  have q:=MI.addA hA hB k M (by exact xaF ‹_›) fun hb i hi=>h2 hb i (by exact xaO ‹_›)
  have e:a[ia+k]? = some a[ia+k]:=getElem?_pos a (ia+k) (by assumption)
  have z:=q.nO hA hB e fun hb=>h2 hb k (by exact xaf _)
  rw [eF (by assumption),Array.append_push]
  exact z
theorem MI.addB (hA:Up r a 0 a.size) (hB:Up r b 0 b.size):∀ (k:Nat) {out:Array Keyed} {ib:Nat},MI r a b out ia ib->ib+k<=b.size->(ia<a.size->∀ i,i<k->R r b (ib+i)<=R r a ia)->MI r a b (out++b.extract ib (ib+k)) ia (ib+k)
 | 0,out,ib,M,h1,h2=>by
  have:b.extract ib (ib+0) = #[]:=xbl (by simp only [xbk]; lia)
  rw [this]
  simpa using M
 | k+1,out,ib,M,h1,h2=>by
  have q:=MI.addB hA hB k M (by exact xaF ‹_›) fun ha i hi=>h2 ha i (by exact xaO ‹_›)
  have e:b[ib+k]? = some b[ib+k]:=getElem?_pos b (ib+k) (by assumption)
  have z:=q.m5 hA hB e fun ha=>h2 ha k (by exact xaf _)
  rw [eF (by assumption),Array.append_push]
  exact z
def bV (r:Value->Int) (a b out:Array Keyed):Prop:=out.toList.Perm (a.toList++b.toList)/\out.toList.Pairwise (Le r)
theorem MI.whole (M:MI r a b out a.size b.size):bV r a b out:=by
 refine ⟨?_,M.up⟩
 have h:=M.perm
 rw [xbp (by simp),xbp (by simp)] at h
 exact h
theorem MI.Ff (M:MI r a b out ia b.size) (hA:Up r a 0 a.size) (hB:Up r b 0 b.size):bV r a b (out++a.extract ia a.size++b.extract b.size b.size):=by
 have e:b.extract b.size b.size = #[]:=by simp
 rw [e,xcl]
 have ha:=M.ha
 have q:=MI.addA hA hB (a.size - ia) M (by lia) fun hb=>absurd hb (xaW _)
 rw [show ia+(a.size - ia)=a.size by exact xbN ‹_›] at q
 exact q.whole
theorem MI.Fi (M:MI r a b out a.size ib) (hA:Up r a 0 a.size) (hB:Up r b 0 b.size):bV r a b (out++a.extract a.size a.size++b.extract ib b.size):=by
 have e:a.extract a.size a.size = #[]:=by simp
 rw [e,xcl]
 have hb:=M.hb
 have q:=MI.addB hA hB (b.size - ib) M (by lia) fun ha=>absurd ha (xaW _)
 rw [show ib+(b.size - ib)=b.size by exact xbN ‹_›] at q
 exact q.whole
theorem MI.endB (M:MI r a b out ia ib) (hA:Up r a 0 a.size) (hB:Up r b 0 b.size) (e:ib=b.size):bV r a b (out++a.extract ia a.size++b.extract ib b.size):=by subst e; exact M.Ff hA hB
theorem MI.endA (M:MI r a b out ia ib) (hA:Up r a 0 a.size) (hB:Up r b 0 b.size) (e:ia=a.size):bV r a b (out++a.extract ia a.size++b.extract ib b.size):=by subst e; exact M.Fi hA hB
theorem MI.Gg (M:MI r a b out ia ib) (hA:Up r a 0 a.size) (hB:Up r b 0 b.size) (hia:ia+1=a.size) (hg:∀ j,j<b.size->R r b j<=R r a ia):bV r a b (out++b.extract ib b.size++a.extract ia a.size):=by
 have hb:=M.hb
 have q:=MI.addB hA hB (b.size - ib) M (by lia) fun ha i hi=>hg _ (by lia)
 rw [show ib+(b.size - ib)=b.size by exact xbN ‹_›] at q
 have z:=MI.addA hA hB (a.size - ia) q (by lia) fun hb=>absurd hb (xaW _)
 rw [show ia+(a.size - ia)=a.size by lia] at z
 exact z.whole
theorem MI.start (hA:Up r a 0 a.size) (hB:Up r b 0 b.size):MI r a b #[] 0 0:=⟨xas _,xas _,by simp,by simp,fun x hx=>by simp at hx,fun x hx=>by simp at hx⟩
end
def bA:Nat->StateT SortSt Sem Unit:=sortPriv% PySem.Builtin.setMinGallop
def qz:Array Keyed->Array Keyed->StateT SortSt Sem (Array Keyed):=sortPriv% PySem.Builtin.mergeLo
def qW:Array Keyed->Array Keyed->StateT SortSt Sem (Array Keyed):=sortPriv% PySem.Builtin.mergeHi
theorem iH (g:Nat):bA g=modify fun s=>SortSt.mk' (kindOf s) (arrOf s) (pendingOf s) g (failedOf s):=rfl
def Mg (st st':SortSt):Prop:=∃ g,st'=SortSt.mk' (kindOf st) (arrOf st) (pendingOf st) g (failedOf st)
theorem Mg.refl (st:SortSt):Mg st st:=⟨gallopOf st,rfl⟩
theorem Mg.kind {st st':SortSt} (h:Mg st st'):kindOf st'=kindOf st:=by obtain ⟨g,rfl⟩:=h; rfl
theorem Mg.set {st st':SortSt} (h:Mg st st') (g:Nat):Mg st (SortSt.mk' (kindOf st') (arrOf st') (pendingOf st') g (failedOf st')):=by obtain ⟨g',rfl⟩:=h; exact ⟨g,rfl⟩
section
variable {prog:Program} {w:World} {A:Around} {E:Value->Shared->Prop} {s:Shared} {r:Value->Int}
theorem gC {st:SortSt} (h:Q () (SortSt.mk' (kindOf st) (arrOf st) (pendingOf st) g (failedOf st))):wpS (model prog w) A E s (bA g) Q st:=by
 rw [iH]; exact wpS_modify h
theorem yg (h:bey r false key arr base i=true):R r arr (base+i)<=r key.1:=by
 unfold bey at h; simp only [xao,if_false,Bool.not_eq_true',decide_eq_false_iff_not] at h; lia
theorem vU (h:bey r false key arr base i=false):r key.1<R r arr (base+i):=by
 unfold bey at h; simp only [xao,if_false,Bool.not_eq_false',decide_eq_true_eq] at h; exact h
theorem zY (h:bey r true key arr base i=true):R r arr (base+i)<r key.1:=by
 unfold bey at h; simp only [if_true,decide_eq_true_eq] at h; exact h
theorem rE (h:bey r true key arr base i=false):r key.1<=R r arr (base+i):=by
 unfold bey at h; simp only [if_true,decide_eq_false_iff_not] at h; lia
end
theorem Mg.trans (h:Mg a b) (g:Mg b c):Mg a c:=by obtain ⟨x,rfl⟩:=h; obtain ⟨y,rfl⟩:=g; exact ⟨y,rfl⟩
theorem Aq {K G:Prop} (pk:K) (h:K->G):G:=h pk
abbrev SM:=StateT SortSt Sem
abbrev L1:=Option (Array Keyed) × Array Keyed × Nat × Nat × Nat
abbrev L2':=Option (Array Keyed) × Array Keyed × Nat × Nat × Nat × Nat
abbrev L3:=Option (Array Keyed) × Array Keyed × Nat × Nat × Nat × Nat × Nat
def loE (a b out:Array Keyed) (ia ib:Nat):Array Keyed:=out++a.extract ia a.size++b.extract ib b.size
def loF (a b out:Array Keyed) (ia ib:Nat):Array Keyed:=out++b.extract ib b.size++a.extract ia a.size
def lo3 (a b:Array Keyed) (mg ac bc ia ib:Nat) (out:Array Keyed):SM (ForInStep L3):=elem' a ia >>= fun p =>
 if (ia+1+1 == a.size)=true then pure (.done (some (loF a b (out.push p) (ia+1) ib),out.push p,ia+1,ib,mg,ac,bc))
 else if (decide (ac<7) && decide (bc<7))=true then pure (.done (none,out.push p,ia+1,ib,mg,ac,bc)) else pure (.yield (none,out.push p,ia+1,ib,mg,ac,bc))
def lo2 (a b:Array Keyed) (mg ac bc ia ib:Nat) (out:Array Keyed):SM (ForInStep L3):=elem' a ia >>= fun p=>jA true p b ib (b.size - ib) 0 >>= fun x=>match x with
 | some k=>if k>0 then
   if (ib+k == b.size)=true then pure (.done (some (loE a b (out++b.extract ib (ib+k)) ia (ib+k)),out++b.extract ib (ib+k),ia,ib+k,mg,ac,k))
   else lo3 a b mg ac k ia (ib+k) (out++b.extract ib (ib+k))
  else lo3 a b mg ac k ia ib out
 | _=>pure (.done (some (loE a b out ia ib),out,ia,ib,mg,ac,bc))
def lo1 (a b:Array Keyed) (mg ac bc ia ib:Nat) (out:Array Keyed):SM (ForInStep L3):=elem' b ib >>= fun p =>
 if (ib+1 == b.size)=true then pure (.done (some (loE a b (out.push p) ia (ib+1)),out.push p,ia,ib+1,mg,ac,bc)) else lo2 a b mg ac bc ia (ib+1) (out.push p)
def lo0 (a b:Array Keyed) (mg ac bc ia ib:Nat) (out:Array Keyed):SM (ForInStep L3):=bA mg >>= fun _=>elem' b ib >>= fun p=>jA false p a ia (a.size - ia) 0 >>= fun x=>match x with
 | some k=>if k>0 then
   if (ia+k+1 == a.size)=true then pure (.done (some (loF a b (out++a.extract ia (ia+k)) (ia+k) ib),out++a.extract ia (ia+k),ia+k,ib,mg,k,bc))
   else if (ia+k == a.size)=true then pure (.done (some (loE a b (out++a.extract ia (ia+k)) (ia+k) ib),out++a.extract ia (ia+k),ia+k,ib,mg,k,bc))
   else lo1 a b mg k bc (ia+k) ib (out++a.extract ia (ia+k))
  else lo1 a b mg k bc ia ib out
 | _=>pure (.done (some (loE a b out ia ib),out,ia,ib,mg,ac,bc))
def loG (a b:Array Keyed) (_:Nat) (s:L3):SM (ForInStep L3) :=
 if s.2.2.2.2.1>1 then lo0 a b (s.2.2.2.2.1 - 1) s.2.2.2.2.2.1 s.2.2.2.2.2.2 s.2.2.1 s.2.2.2.1 s.2.1 else lo0 a b s.2.2.2.2.1 s.2.2.2.2.2.1 s.2.2.2.2.2.2 s.2.2.1 s.2.2.2.1 s.2.1
def loA (a b:Array Keyed) (mg bc ia ib:Nat) (out:Array Keyed):SM (ForInStep L2'):=elem' b ib >>= fun p =>
 if (ib+1 == b.size)=true then pure (.done (some (loE a b (out.push p) ia (ib+1)),out.push p,ia,ib+1,0,bc+1))
 else if bc+1 >= mg then pure (.done (none,out.push p,ia,ib+1,0,bc+1)) else pure (.yield (none,out.push p,ia,ib+1,0,bc+1))
def loB (a b:Array Keyed) (mg ac ia ib:Nat) (out:Array Keyed):SM (ForInStep L2'):=elem' a ia >>= fun p =>
 if (ia+1+1 == a.size)=true then pure (.done (some (loF a b (out.push p) (ia+1) ib),out.push p,ia+1,ib,ac+1,0))
 else if ac+1 >= mg then pure (.done (none,out.push p,ia+1,ib,ac+1,0)) else pure (.yield (none,out.push p,ia+1,ib,ac+1,0))
def loI (a b:Array Keyed) (mg:Nat) (_:Nat) (s:L2'):SM (ForInStep L2'):=elem' b s.2.2.2.1 >>= fun pb=>elem' a s.2.2.1 >>= fun pa=>lt' pb pa >>= fun x=>match x with
 | some w=>if w=true then loA a b mg s.2.2.2.2.2 s.2.2.1 s.2.2.2.1 s.2.1 else loB a b mg s.2.2.2.2.1 s.2.2.1 s.2.2.2.1 s.2.1
 | _=>pure (.done (some (loE a b s.2.1 s.2.2.1 s.2.2.2.1),s.2.1,s.2.2.1,s.2.2.2.1,s.2.2.2.2.1,s.2.2.2.2.2))
def loP (a b:Array Keyed) (mg:Nat) (t:L2'):SM (ForInStep L1):=(liftM (rule "list.sort.gallop"):SM Unit) >>= fun _ =>
 forIn [:a.size+b.size] ((none,t.2.1,t.2.2.1,t.2.2.2.1,mg+1,t.2.2.2.2.1,t.2.2.2.2.2):L3) (loG a b) >>= fun u=>match u.1 with
 | some r=>pure (.done (some r,u.2.1,u.2.2.1,u.2.2.2.1,u.2.2.2.2.1))
 | none=>bA (u.2.2.2.2.1+1) >>= fun _=>pure (.yield (none,u.2.1,u.2.2.1,u.2.2.2.1,u.2.2.2.2.1+1))
def loO (a b:Array Keyed) (_:Nat) (s:L1):SM (ForInStep L1):=forIn [:a.size+b.size] ((none,s.2.1,s.2.2.1,s.2.2.2.1,0,0):L2') (loI a b s.2.2.2.2) >>= fun t=>match t.1 with
 | some r=>pure (.done (some r,t.2.1,t.2.2.1,t.2.2.2.1,s.2.2.2.2))
 | none=>loP a b s.2.2.2.2 t
def loM (a b:Array Keyed):SM (Array Keyed):=(liftM (rule "list.sort.merge-lo"):SM Unit) >>= fun _=>elem' b 0 >>= fun y =>
 if (1 == b.size)=true then pure (loE a b #[y] 0 1)
 else if (0+1 == a.size)=true then pure (loF a b #[y] 0 1)
 else get >>= fun st=>forIn [:a.size+b.size] ((none,#[y],0,1,gallopOf st):L1) (loO a b) >>= fun t=>match t.1 with
 | some r=>pure r
 | none=>(liftM (unsupported (α:=Array Keyed) "internal:list.sort.merge-bound"):SM (Array Keyed))
set_option smartUnfolding false in
theorem tH:qz=loM:=rfl
section
variable {prog:Program} {w:World} {A:Around} {E:Value->Shared->Prop} {s:Shared} {κ:SortKind} {r:Value->Int} {P:Value->Prop} {a b out:Array Keyed} {mg ac bc ia ib N:Nat} {st:SortSt}
structure MC (prog:Program) (w:World) (A:Around) (s:Shared) (κ:SortKind) (r:Value->Int) (P:Value->Prop) (a b:Array Keyed):Prop where
 C:Cmp prog w A s κ r P
 pa:AllP P a
 pb:AllP P b
 hA:Up r a 0 a.size
 hB:Up r b 0 b.size
 hl:∀ i,i<a.size->R r b 0<=R r a i
 hg:∀ j,j<b.size->R r b j<=R r a (a.size - 1)
def HS (r:Value->Int) (a b:Array Keyed) (c:Option (Array Keyed) × β):Prop:=∃ out rest,c=(some out,rest)/\bV r a b out
def LY (r:Value->Int) (a b:Array Keyed) (N:Nat) (c:L3):Prop:=∃ out ia ib mg ac bc,c=(none,out,ia,ib,mg,ac,bc)/\MI r a b out ia ib/\ia+1<a.size/\ib<b.size/\N<=ia+ib
def LI (r:Value->Int) (a b:Array Keyed) (N:Nat) (c:L2'):Prop:=∃ out ia ib ac bc,c=(none,out,ia,ib,ac,bc)/\MI r a b out ia ib/\ia+1<a.size/\ib<b.size/\N<=ia+ib
theorem MC.last (c:MC prog w A s κ r P a b) (M:MI r a b out ia ib) (z:ia+1=a.size):bV r a b (loF a b out ia ib):=M.Gg c.hA c.hB z fun j hj=>by
 have:=c.hg j hj
 rwa [show a.size - 1=ia by lia] at this
theorem yZ (c:MC prog w A s κ r P a b) (M:MI r a b out ia ib) (h1:ia+1<a.size) (lt:R r a ia<=R r b ib) (h2:ib<b.size) (hN:N<=ia+ib) (D:∀ c,HS r a b c->Q (.done c) st) (Y:∀ c,LY r a b N c->Q (.done c) st/\Q (.yield c) st):wpS (model prog w) A E s (lo3 a b mg ac bc ia ib out) Q st:=by
 refine wpS_bind (aH (by lia) fun p e=>?_)
 have M2:=M.nO c.hA c.hB e fun _=>lt
 by_cases z:ia+1+1=a.size
 ·rw [if_pos (by simpa using z)]
  exact wpS_pure (D _ ⟨_,_,rfl,c.last M2 z⟩)
 ·rw [if_neg (by simpa using z)]
  have y:=Y _ ⟨_,_,_,mg,ac,bc,rfl,M2,by lia,h2,by lia⟩
  split
  ·exact wpS_pure y.1
  ·exact wpS_pure y.2
theorem Cz (c:MC prog w A s κ r P a b) (hk:kindOf st=κ) (M:MI r a b out ia ib) (h1:ia+1<a.size) (h2:ib<b.size) (hN:N<=ia+ib) (D:∀ c,HS r a b c->Q (.done c) st) (Y:∀ c,LY r a b N c->Q (.done c) st/\Q (.yield c) st):wpS (model prog w) A E s (lo2 a b mg ac bc ia ib out) Q st:=by
 refine wpS_bind (aH (by lia) fun p e=>wpS_bind (cJ c.C hk c.pb (c.pa.at e) (by lia) (by lia) (fun i j u v w=>c.hB i j (by lia) v (by lia)) fun l hl1 hl2 hl3=>?_))
 have ra:=R_at (r:=r) e
 dsimp only
 have lt:ib+l<b.size->R r a ia<=R r b (ib+l):=fun z=>by have:=rE (hl3 l (xaf _) (by lia)); lia
 by_cases l0:l>0
 ·have M5:=MI.addB c.hA c.hB l M (by lia) fun _ i hi=>by have:=zY (hl2 i hi); lia
  rw [if_pos l0]
  by_cases z:ib+l=b.size
  ·rw [if_pos (by simpa using z)]
   exact wpS_pure (D _ ⟨_,_,rfl,M5.endB c.hA c.hB z⟩)
  ·rw [if_neg (by simpa using z)]
   exact yZ c M5 h1 (lt (by lia)) (by lia) (by lia) D Y
 ·rw [if_neg l0]
  obtain rfl:l=0:=by lia
  exact yZ c M h1 (lt h2) h2 hN D Y
theorem yx (c:MC prog w A s κ r P a b) (hk:kindOf st=κ) (M:MI r a b out ia ib) (h1:ia+1<a.size) (lt:R r b ib<=R r a ia) (h2:ib<b.size) (hN:N<=ia+ib) (D:∀ c,HS r a b c->Q (.done c) st) (Y:∀ c,LY r a b N c->Q (.done c) st/\Q (.yield c) st):wpS (model prog w) A E s (lo1 a b mg ac bc ia ib out) Q st:=by
 refine wpS_bind (aH h2 fun p e=>?_)
 have M4:=M.m5 c.hA c.hB e fun _=>lt
 by_cases z:ib+1=b.size
 ·rw [if_pos (by simpa using z)]
  exact wpS_pure (D _ ⟨_,_,rfl,M4.endB c.hA c.hB z⟩)
 ·rw [if_neg (by simpa using z)]
  exact Cz c hk M4 h1 (by lia) (by lia) D Y
theorem Dl (c:MC prog w A s κ r P a b) (hk:kindOf st=κ) (M:MI r a b out ia ib) (h1:ia+1<a.size) (h2:ib<b.size) (hN:N<=ia+ib) (D:∀ st',Mg st st'->∀ c,HS r a b c->Q (.done c) st') (Y:∀ st',Mg st st'->∀ c,LY r a b N c->Q (.done c) st'/\Q (.yield c) st'):wpS (model prog w) A E s (lo0 a b mg ac bc ia ib out) Q st:=by
 have g:=(Mg.refl st).set mg
 refine wpS_bind (gC ?_)
 refine wpS_bind (aH h2 fun p e=>wpS_bind (cJ c.C (g.kind.trans hk) c.pa (c.pb.at e) (by lia) (by lia) (fun i j u v w=>c.hA i j (by lia) v (by lia)) fun k hk1 hk2 hk3=>?_))
 have rb:=R_at (r:=r) e
 dsimp only
 have lt:ia+k<a.size->R r b ib<=R r a (ia+k):=fun z=>by have:=vU (hk3 k (xaf _) (by lia)); lia
 by_cases k0:k>0
 ·have M3:=MI.addA c.hA c.hB k M (by lia) fun _ i hi=>by have:=yg (hk2 i hi); lia
  rw [if_pos k0]
  by_cases z:ia+k+1=a.size
  ·rw [if_pos (by simpa using z)]
   exact wpS_pure (D _ g _ ⟨_,_,rfl,c.last M3 z⟩)
  ·rw [if_neg (by simpa using z)]
   by_cases z2:ia+k=a.size
   ·rw [if_pos (by simpa using z2)]
    exact wpS_pure (D _ g _ ⟨_,_,rfl,M3.endA c.hA c.hB z2⟩)
   ·rw [if_neg (by simpa using z2)]
    exact yx c (g.kind.trans hk) M3 (by lia) (lt (by lia)) h2 (by lia) (D _ g) (Y _ g)
 ·rw [if_neg k0]
  obtain rfl:k=0:=by lia
  exact yx c (g.kind.trans hk) M h1 (lt (by lia)) h2 hN (D _ g) (Y _ g)
theorem Bv (c:MC prog w A s κ r P a b) (M:MI r a b out ia ib) (h1:ia+1<a.size) (lt:R r b ib<=R r a ia) (h2:ib<b.size) (hN:N<=ia+ib+1) (D:∀ c,HS r a b c->Q (.done c) st) (Y:∀ c,LI r a b N c->Q (.done c) st/\Q (.yield c) st):wpS (model prog w) A E s (loA a b mg bc ia ib out) Q st:=by
 refine wpS_bind (aH h2 fun p e=>?_)
 have M2:=M.m5 c.hA c.hB e fun _=>lt
 by_cases z:ib+1=b.size
 ·rw [if_pos (by simpa using z)]
  exact wpS_pure (D _ ⟨_,_,rfl,M2.endB c.hA c.hB z⟩)
 ·rw [if_neg (by simpa using z)]
  have y:=Y _ ⟨_,_,_,0,bc+1,rfl,M2,h1,by lia,hN⟩
  split
  ·exact wpS_pure y.1
  ·exact wpS_pure y.2
theorem CQ (c:MC prog w A s κ r P a b) (M:MI r a b out ia ib) (h1:ia+1<a.size) (lt:R r a ia<=R r b ib) (h2:ib<b.size) (hN:N<=ia+ib+1) (D:∀ c,HS r a b c->Q (.done c) st) (Y:∀ c,LI r a b N c->Q (.done c) st/\Q (.yield c) st):wpS (model prog w) A E s (loB a b mg ac ia ib out) Q st:=by
 refine wpS_bind (aH (by lia) fun p e=>?_)
 have M2:=M.nO c.hA c.hB e fun _=>lt
 by_cases z:ia+1+1=a.size
 ·rw [if_pos (by simpa using z)]
  exact wpS_pure (D _ ⟨_,_,rfl,c.last M2 z⟩)
 ·rw [if_neg (by simpa using z)]
  have y:=Y _ ⟨_,_,_,ac+1,0,rfl,M2,by lia,h2,by lia⟩
  split
  ·exact wpS_pure y.1
  ·exact wpS_pure y.2
theorem De (c:MC prog w A s κ r P a b) (hk:kindOf st=κ) (M:MI r a b out ia ib) (h1:ia+1<a.size) (h2:ib<b.size) (hN:N<=ia+ib+1) (D:∀ c,HS r a b c->Q (.done c) st) (Y:∀ c,LI r a b N c->Q (.done c) st/\Q (.yield c) st):wpS (model prog w) A E s (loI a b mg x (none,out,ia,ib,ac,bc)) Q st:=by
 refine wpS_bind (aH h2 fun pb eb=>wpS_bind (aH (show ia<a.size by lia) fun pa ea=>wpS_bind (oO c.C hk (c.pb.at eb) (c.pa.at ea) ?_)))
 have rb:R r b ib=r pb.1:=R_at eb
 have ra:R r a ia=r pa.1:=R_at ea
 dsimp only
 by_cases hw:r pb.1<r pa.1
 ·rw [if_pos (decide_eq_true hw)]
  exact Bv c M h1 (by lia) h2 hN D Y
 ·rw [if_neg (by simpa using hw)]
  exact CQ c M h1 (by lia) h2 hN D Y
theorem Cr (c:MC prog w A s κ r P a b) (hk:kindOf st=κ) (M:MI r a b out ia ib) (h1:ia+1<a.size) (h2:ib<b.size) (hN:N<=ia+ib) (D:∀ st',Mg st st'->∀ c,HS r a b c->Q (.done c) st')
  (Y:∀ st',Mg st st'->∀ out ia ib mg,MI r a b out ia ib->ia+1<a.size->ib<b.size->N<=ia+ib->Q (.yield (none,out,ia,ib,mg)) st'):wpS (model prog w) A E s (loP a b mg (none,out,ia,ib,ac,bc)) Q st:=by
 refine wpS_bind (wpS_lift (wpAny_rule ⟨rfl,?_⟩))
 refine wpS_bind (wpS_mono (wpS_forRange (I:=fun _ c st'=>Mg st st'/\LY r a b N c) (Q:=fun c st'=>Mg st st'/\(HS r a b c\/LY r a b N c)) ?step ?fin ⟨.refl st,_,_,_,_,_,_,rfl,M,h1,h2,hN⟩) ?post)
 case fin =>
  rintro c st' ⟨hm,q⟩
  exact ⟨hm,.inr q⟩
 case step =>
  rintro y c1 st1 _ _ ⟨hm,out,ia,ib,mg,ac,bc,rfl,M,h1,h2,hN⟩
  unfold loG
  dsimp only
  split <;> exact Dl c (hm.kind.trans hk) M h1 h2 hN (fun st' g c q=>⟨hm.trans g,.inl q⟩) fun st' g c q=>⟨⟨hm.trans g,.inr q⟩,hm.trans g,q⟩
 case post =>
  rintro c st' ⟨hm,⟨o,rest,rfl,hM⟩ | ⟨out,ia,ib,mg,ac,bc,rfl,M,h1,h2,hN⟩⟩
  ·exact wpS_pure (D _ hm _ ⟨_,_,rfl,hM⟩)
  ·exact wpS_bind (gC (wpS_pure (Y _ (hm.set _) _ _ _ _ M h1 h2 hN)))
theorem Dr (c:MC prog w A s κ r P a b) (hk:kindOf st=κ) (M:MI r a b out ia ib) (h1:ia+1<a.size) (h2:ib<b.size) (hN:N<=ia+ib) (D:∀ st',Mg st st'->∀ c,HS r a b c->Q (.done c) st')
  (Y:∀ st',Mg st st'->∀ out ia ib mg,MI r a b out ia ib->ia+1<a.size->ib<b.size->N+1<=ia+ib->Q (.yield (none,out,ia,ib,mg)) st'):wpS (model prog w) A E s (loO a b x (none,out,ia,ib,mg)) Q st:=by
 refine wpS_bind (wpS_mono (wpS_forRange (I:=fun y c st'=>st'=st/\LI r a b (N+y) c) (Q:=fun c st'=>st'=st/\(HS r a b c\/LI r a b (N+1) c)) ?step ?fin ⟨rfl,_,_,_,_,_,rfl,M,h1,h2,hN⟩) ?post)
 case fin =>
  rintro c st' ⟨rfl,o,ia',ib',ac,bc,rfl,M',q1,q2,q3⟩
  exact ⟨rfl,.inr ⟨_,_,_,_,_,rfl,M',q1,q2,by lia⟩⟩
 case step =>
  rintro y c1 st1 _ hy ⟨rfl,o,ia',ib',ac,bc,rfl,M',q1,q2,q3⟩
  exact De (N:=N+y+1) c hk M' q1 q2 (by lia) (fun c q=>⟨rfl,.inl q⟩) fun c q=>by
   obtain ⟨o,ia,ib,ac,bc,rfl,M,h1,h2,h3⟩:=q
   exact ⟨⟨rfl,.inr ⟨_,_,_,_,_,rfl,M,h1,h2,by lia⟩⟩,rfl,_,_,_,_,_,rfl,M,h1,h2,by lia⟩
 case post =>
  rintro c1 st' ⟨rfl,⟨o,rest,rfl,hM⟩ | ⟨o,ia,ib,ac,bc,rfl,M',q1,q2,q3⟩⟩
  ·exact wpS_pure (D _ (.refl _) _ ⟨_,_,rfl,hM⟩)
  ·exact Cr c hk M' q1 q2 q3 D Y
theorem pI {st:SortSt} (C:Cmp prog w A s κ r P) (hk:kindOf st=κ) (hPa:AllP P a) (hPb:AllP P b) (hA:Up r a 0 a.size) (hB:Up r b 0 b.size) (na:1<=a.size) (nb:1<=b.size)
  (h0:R r b 0<=R r a 0) (hg:∀ j,j<b.size->R r b j<=R r a (a.size - 1)) (h:∀ out st',bV r a b out->Mg st st'->Q out st'):wpS (model prog w) A E s (qz a b) Q st:=by
 have c:MC prog w A s κ r P a b:=⟨C,hPa,hPb,hA,hB,fun i hi=>xa9 h0 (hA 0 i (xaf _) (xas _) hi),hg⟩
 rw [tH]
 refine wpS_bind (wpS_lift (wpAny_rule ⟨rfl,?_⟩))
 refine wpS_bind (aH nb fun y0 e0=>?_)
 have M1:MI r a b #[y0] 0 1:=(MI.start hA hB).m5 hA hB e0 fun _=>h0
 by_cases c1:1=b.size
 ·rw [if_pos (by simpa using c1)]
  exact wpS_pure (h _ _ (M1.endB hA hB c1) (.refl st))
 ·rw [if_neg (by simpa using c1)]
  by_cases c2:0+1=a.size
  ·rw [if_pos (by simpa using c2)]
   exact wpS_pure (h _ _ (c.last M1 c2) (.refl st))
  ·rw [if_neg (by simpa using c2)]
   refine wpS_bind (wpS_get ?_)
   refine wpS_bind (wpS_mono (wpS_forRange (I:=fun x c st'=>Mg st st'/\∃ out ia ib mg,c=(none,out,ia,ib,mg)/\MI r a b out ia ib/\ia+1<a.size/\ib<b.size/\x+1<=ia+ib)
    (Q:=fun c st'=>Mg st st'/\HS r a b c) ?step ?fin ⟨.refl st,_,_,_,_,rfl,M1,by lia,by lia,by lia⟩) ?post)
   case fin =>
    rintro c st' ⟨_,out,ia,ib,mg,rfl,M,h1,h2,h3⟩
    lia
   case post =>
    rintro c st' ⟨hm,out,rest,rfl,hM⟩
    exact wpS_pure (h out st' hM hm)
   case step =>
    rintro x c1 st1 _ hx ⟨hm1,out,ia,ib,mg,rfl,M,h1,h2,h3⟩
    exact Dr (N:=x+1) c (hm1.kind.trans hk) M h1 h2 h3 (fun st' g c q=>⟨hm1.trans g,q⟩) fun st' g out ia ib mg M h1 h2 h3=>⟨hm1.trans g,_,_,_,_,rfl,M,h1,h2,h3⟩
end
abbrev Ge (r:Value->Int) (x y:Keyed):Prop:=r y.1<=r x.1
structure MH (r:Value->Int) (a b out:Array Keyed) (na nb:Nat):Prop where
 ha:na<=a.size
 hb:nb<=b.size
 perm:out.toList.Perm (a.toList.drop na++b.toList.drop nb)
 down:out.toList.Pairwise (Ge r)
 ga:∀ x∈out.toList,∀ i,i<na->R r a i<=r x.1
 gb:∀ x∈out.toList,∀ j,j<nb->R r b j<=r x.1
section
variable {r:Value->Int} {a b out:Array Keyed} {na nb:Nat}
theorem oV {α:Type} {l:List α} {i:Nat} {x:α} (h0:0<i) (h:l[i - 1]? = some x):l.drop (i - 1)=x :: l.drop i:=by
 obtain ⟨hi,e⟩:=xal.mp h
 rw [xaI hi,e,show i - 1+1=i by exact Nat.sub_add_cancel ‹_›]
theorem MH.nO (M:MH r a b out na nb) (hA:Up r a 0 a.size) (hB:Up r b 0 b.size) (h0:0<na) {y:Keyed} (e:a[na - 1]? = some y) (hl:0<nb->R r b (nb - 1)<=R r a (na - 1)):MH r a b (out.push y) (na - 1) nb:=by
 have ey:=R_at (r:=r) e
 have ha:=M.ha
 have hb:=M.hb
 refine ⟨by lia,M.hb,?_,?_,?_,?_⟩
 ·rw [xaD,oV (x:=y) h0 (by simpa using e)]
  refine (M.perm.append_right [y]).trans ?_
  exact xb7
 ·rw [xaD,xbB]
  refine ⟨M.down,by simp,fun x hx z hz=>?_⟩
  have:z=y:=by simpa using hz
  subst this
  show r z.1<=r x.1
  rw [<- ey]
  exact M.ga x hx (na - 1) (by exact xb4 ‹_› xbW)
 ·intro x hx i hi
  rw [xaD] at hx
  rcases xai.mp hx with hx | hx
  ·exact M.ga x hx i (by walk_at "s4")
  ·have:x=y:=by simpa using hx
   subst this
   rw [<- ey]
   exact hA i (na - 1) (xas _) (by exact xaF ‹_›) (by lia)
 ·intro x hx j hj
  rw [xaD] at hx
  rcases xai.mp hx with hx | hx
  ·exact M.gb x hx j hj
  ·have:x=y:=by simpa using hx
   subst this
   rw [<- ey]
   exact xa9 (hB j (nb - 1) (xas _) (by lia) (by lia)) (hl (by lia))
theorem MH.m5 (M:MH r a b out na nb) (hA:Up r a 0 a.size) (hB:Up r b 0 b.size) (h0:0<nb) {y:Keyed} (e:b[nb - 1]? = some y) (hl:0<na->R r a (na - 1)<=R r b (nb - 1)):MH r a b (out.push y) na (nb - 1):=by
 have ey:=R_at (r:=r) e
 have ha:=M.ha
 have hb:=M.hb
 refine ⟨M.ha,by lia,?_,?_,?_,?_⟩
 ·rw [xaD,oV (x:=y) h0 (by simpa using e)]
  refine (M.perm.append_right [y]).trans ?_
  rw [xaZ]
  exact List.Perm.append_left _ xb7
 ·rw [xaD,xbB]
  refine ⟨M.down,by simp,fun x hx z hz=>?_⟩
  have:z=y:=by simpa using hz
  subst this
  show r z.1<=r x.1
  rw [<- ey]
  exact M.gb x hx (nb - 1) (by exact xb4 ‹_› xbW)
 ·intro x hx i hi
  rw [xaD] at hx
  rcases xai.mp hx with hx | hx
  ·exact M.ga x hx i hi
  ·have:x=y:=by simpa using hx
   subst this
   rw [<- ey]
   exact xa9 (hA i (na - 1) (xas _) (by lia) (by lia)) (hl (by lia))
 ·intro x hx j hj
  rw [xaD] at hx
  rcases xai.mp hx with hx | hx
  ·exact M.gb x hx j (by walk_at "s4")
  ·have:x=y:=by simpa using hx
   subst this
   rw [<- ey]
   exact hB j (nb - 1) (xas _) (by exact xaF ‹_›) (by lia)
theorem jh {xs:Array Keyed} {i n:Nat} (h:i<n) (hn:n<=xs.size):(xs.extract i n).reverse = #[xs[n - 1]'(by lia)]++(xs.extract i (n - 1)).reverse:=by
 obtain ⟨k,rfl⟩:∃ k,n=i+(k+1):=⟨n - 1 - i,by lia⟩
 have e3:i+(k+1) - 1=i+k:=by rfl
 simp only [e3]
 rw [eF (by assumption),Array.reverse_push]
theorem MH.addA (hA:Up r a 0 a.size) (hB:Up r b 0 b.size):∀ (k:Nat) {out:Array Keyed} {na p:Nat},MH r a b out na nb->p+k=na->(0<nb->∀ i,p<=i->i<na->R r b (nb - 1)<=R r a i)->MH r a b (out++(a.extract p na).reverse) p nb
 | 0,out,na,p,M,h1,h2=>by
  have:a.extract p na = #[]:=xbl (by simp only [xbk]; lia)
  have e:na=p:=by walk_at "s1"
  subst e
  rw [this]
  simpa using M
 | k+1,out,na,p,M,h1,h2=>by
  have ha:=M.ha
  have e:a[na - 1]? = some (a[na - 1]'(by lia)):=getElem?_pos a (na - 1) (by lia)
  have q:=M.nO hA hB (by lia) e fun hb=>h2 hb _ (by lia) (by lia)
  have z:=MH.addA hA hB k (p:=p) q (by lia) fun hb i hi1 hi2=>h2 hb i hi1 (by walk_at "s4")
  rw [jh (by lia) ha,<- xbG]
  simpa using z
theorem MH.addB (hA:Up r a 0 a.size) (hB:Up r b 0 b.size):∀ (k:Nat) {out:Array Keyed} {nb p:Nat},MH r a b out na nb->p+k=nb->(0<na->∀ i,p<=i->i<nb->R r a (na - 1)<=R r b i)->MH r a b (out++(b.extract p nb).reverse) na p
 | 0,out,nb,p,M,h1,h2=>by
  have:b.extract p nb = #[]:=xbl (by simp only [xbk]; lia)
  have e:nb=p:=by walk_at "s1"
  subst e
  rw [this]
  simpa using M
 | k+1,out,nb,p,M,h1,h2=>by
  have hb:=M.hb
  have e:b[nb - 1]? = some (b[nb - 1]'(by lia)):=getElem?_pos b (nb - 1) (by lia)
  have q:=M.m5 hA hB (by lia) e fun ha=>h2 ha _ (by lia) (by lia)
  have z:=MH.addB hA hB k (p:=p) q (by lia) fun ha i hi1 hi2=>h2 ha i hi1 (by walk_at "s4")
  rw [jh (by lia) hb,<- xbG]
  simpa using z
theorem MH.whole (M:MH r a b out 0 0):bV r a b out.reverse:=by
 refine ⟨?_,?_⟩
 ·have h:=M.perm
  rw [List.drop_zero,List.drop_zero] at h
  rw [Array.toList_reverse]
  exact (List.reverse_perm _).trans h
 ·rw [Array.toList_reverse,List.pairwise_reverse]
  exact M.down
theorem lB (x y:Array Keyed):(x++y.reverse).reverse=y++x.reverse:=by
 apply xb8.mp
 simp
theorem MH.endA (M:MH r a b out na nb) (hA:Up r a 0 a.size) (hB:Up r b 0 b.size) (e:na=0):bV r a b (a.extract 0 na++b.extract 0 nb++out.reverse):=by
 subst e
 have z:=MH.addB hA hB nb (p:=0) M (by exact xcw ..) fun ha=>absurd ha (xaW _)
 have q:=z.whole
 rw [lB] at q
 have e2:a.extract 0 0 = #[]:=by simp
 rw [e2,Array.empty_append]
 exact q
theorem MH.endB (M:MH r a b out na nb) (hA:Up r a 0 a.size) (hB:Up r b 0 b.size) (e:nb=0):bV r a b (a.extract 0 na++b.extract 0 nb++out.reverse):=by
 subst e
 have z:=MH.addA hA hB na (p:=0) M (by exact xcw ..) fun hb=>absurd hb (xaW _)
 have q:=z.whole
 rw [lB] at q
 have e2:b.extract 0 0 = #[]:=by simp
 rw [e2,xcl]
 exact q
theorem MH.qj (M:MH r a b out na nb) (hA:Up r a 0 a.size) (hB:Up r b 0 b.size) (e:nb=1) (hl:∀ i,i<a.size->R r b 0<=R r a i):bV r a b (b.extract 0 nb++a.extract 0 na++out.reverse):=by
 subst e
 have ha:=M.ha
 have z:=MH.addA hA hB na (p:=0) M (by exact xcw ..) fun _ i _ hi=>hl i (by walk_at "s1")
 have z2:=MH.addB hA hB 1 (p:=0) z (by exact xcw ..) fun h=>absurd h (xaW _)
 have q:=z2.whole
 rw [lB,lB] at q
 rw [xbG]
 exact q
theorem MH.start:MH r a b #[] a.size b.size:=⟨xaf _,xaf _,by simp,by simp,fun x hx=>by simp at hx,fun x hx=>by simp at hx⟩
end
abbrev S1:=Option (Array Keyed) × Nat × Nat × Array Keyed × Nat
abbrev S2:=Option (Array Keyed) × Nat × Nat × Array Keyed × Nat × Nat
abbrev S3:=Option (Array Keyed) × Nat × Nat × Array Keyed × Nat × Nat × Nat
def hiE (a b out:Array Keyed) (na nb:Nat):Array Keyed:=a.extract 0 na++b.extract 0 nb++out.reverse
def hiF (a b out:Array Keyed) (na nb:Nat):Array Keyed:=b.extract 0 nb++a.extract 0 na++out.reverse
def hi3 (a b:Array Keyed) (mg ac bc na nb:Nat) (out:Array Keyed):SM (ForInStep S3):=elem' a (na - 1) >>= fun p =>
 if (na - 1 == 0)=true then pure (.done (some (hiE a b (out.push p) (na - 1) nb),na - 1,nb,out.push p,mg,ac,bc))
 else if (decide (ac<7) && decide (bc<7))=true then pure (.done (none,na - 1,nb,out.push p,mg,ac,bc)) else pure (.yield (none,na - 1,nb,out.push p,mg,ac,bc))
def hi2 (a b:Array Keyed) (mg ac bc na nb:Nat) (out:Array Keyed):SM (ForInStep S3):=elem' a (na - 1) >>= fun p=>jA true p b 0 nb (nb - 1) >>= fun x=>match x with
 | some k=>if nb - k>0 then
   if (k == 1)=true then pure (.done (some (hiF a b (out++(b.extract k nb).reverse) na k),na,k,out++(b.extract k nb).reverse,mg,ac,nb - k))
   else if (k == 0)=true then pure (.done (some (hiE a b (out++(b.extract k nb).reverse) na k),na,k,out++(b.extract k nb).reverse,mg,ac,nb - k))
   else hi3 a b mg ac (nb - k) na k (out++(b.extract k nb).reverse)
  else hi3 a b mg ac (nb - k) na nb out
 | _=>pure (.done (some (hiE a b out na nb),na,nb,out,mg,ac,bc))
def hi1 (a b:Array Keyed) (mg ac bc na nb:Nat) (out:Array Keyed):SM (ForInStep S3):=elem' b (nb - 1) >>= fun p =>
 if (nb - 1 == 1)=true then pure (.done (some (hiF a b (out.push p) na (nb - 1)),na,nb - 1,out.push p,mg,ac,bc)) else hi2 a b mg ac bc na (nb - 1) (out.push p)
def hi0 (a b:Array Keyed) (mg ac bc na nb:Nat) (out:Array Keyed):SM (ForInStep S3):=bA mg >>= fun _=>elem' b (nb - 1) >>= fun p=>jA false p a 0 na (na - 1) >>= fun x=>match x with
 | some k=>if na - k>0 then
   if (k == 0)=true then pure (.done (some (hiE a b (out++(a.extract k na).reverse) k nb),k,nb,out++(a.extract k na).reverse,mg,na - k,bc))
   else hi1 a b mg (na - k) bc k nb (out++(a.extract k na).reverse)
  else hi1 a b mg (na - k) bc na nb out
 | _=>pure (.done (some (hiE a b out na nb),na,nb,out,mg,ac,bc))
def hiG (a b:Array Keyed) (_:Nat) (s:S3):SM (ForInStep S3) :=
 if s.2.2.2.2.1>1 then hi0 a b (s.2.2.2.2.1 - 1) s.2.2.2.2.2.1 s.2.2.2.2.2.2 s.2.1 s.2.2.1 s.2.2.2.1 else hi0 a b s.2.2.2.2.1 s.2.2.2.2.2.1 s.2.2.2.2.2.2 s.2.1 s.2.2.1 s.2.2.2.1
def hiA (a b:Array Keyed) (mg ac na nb:Nat) (out:Array Keyed):SM (ForInStep S2):=elem' a (na - 1) >>= fun p =>
 if (na - 1 == 0)=true then pure (.done (some (hiE a b (out.push p) (na - 1) nb),na - 1,nb,out.push p,ac+1,0))
 else if ac+1 >= mg then pure (.done (none,na - 1,nb,out.push p,ac+1,0)) else pure (.yield (none,na - 1,nb,out.push p,ac+1,0))
def hiB (a b:Array Keyed) (mg bc na nb:Nat) (out:Array Keyed):SM (ForInStep S2):=elem' b (nb - 1) >>= fun p =>
 if (nb - 1 == 1)=true then pure (.done (some (hiF a b (out.push p) na (nb - 1)),na,nb - 1,out.push p,0,bc+1))
 else if bc+1 >= mg then pure (.done (none,na,nb - 1,out.push p,0,bc+1)) else pure (.yield (none,na,nb - 1,out.push p,0,bc+1))
def hiI (a b:Array Keyed) (mg:Nat) (_:Nat) (s:S2):SM (ForInStep S2):=elem' b (s.2.2.1 - 1) >>= fun pb=>elem' a (s.2.1 - 1) >>= fun pa=>lt' pb pa >>= fun x=>match x with
 | some w=>if w=true then hiA a b mg s.2.2.2.2.1 s.2.1 s.2.2.1 s.2.2.2.1 else hiB a b mg s.2.2.2.2.2 s.2.1 s.2.2.1 s.2.2.2.1
 | _=>pure (.done (some (hiE a b s.2.2.2.1 s.2.1 s.2.2.1),s.2.1,s.2.2.1,s.2.2.2.1,s.2.2.2.2.1,s.2.2.2.2.2))
def hiP (a b:Array Keyed) (mg:Nat) (t:S2):SM (ForInStep S1):=(liftM (rule "list.sort.gallop"):SM Unit) >>= fun _ =>
 forIn [:a.size+b.size] ((none,t.2.1,t.2.2.1,t.2.2.2.1,mg+1,t.2.2.2.2.1,t.2.2.2.2.2):S3) (hiG a b) >>= fun u=>match u.1 with
 | some r=>pure (.done (some r,u.2.1,u.2.2.1,u.2.2.2.1,u.2.2.2.2.1))
 | none=>bA (u.2.2.2.2.1+1) >>= fun _=>pure (.yield (none,u.2.1,u.2.2.1,u.2.2.2.1,u.2.2.2.2.1+1))
def hiO (a b:Array Keyed) (_:Nat) (s:S1):SM (ForInStep S1):=forIn [:a.size+b.size] ((none,s.2.1,s.2.2.1,s.2.2.2.1,0,0):S2) (hiI a b s.2.2.2.2) >>= fun t=>match t.1 with
 | some r=>pure (.done (some r,t.2.1,t.2.2.1,t.2.2.2.1,s.2.2.2.2))
 | none=>hiP a b s.2.2.2.2 t
def hiM (a b:Array Keyed):SM (Array Keyed):=(liftM (rule "list.sort.merge-hi"):SM Unit) >>= fun _=>elem' a (a.size - 1) >>= fun y =>
 if (a.size - 1 == 0)=true then pure (hiE a b #[y] (a.size - 1) b.size)
 else if (b.size == 1)=true then pure (hiF a b #[y] (a.size - 1) b.size)
 else get >>= fun st=>forIn [:a.size+b.size] ((none,a.size - 1,b.size,#[y],gallopOf st):S1) (hiO a b) >>= fun t=>match t.1 with
 | some r=>pure r
 | none=>(liftM (unsupported (α:=Array Keyed) "internal:list.sort.merge-bound"):SM (Array Keyed))
set_option smartUnfolding false in
theorem sU:qW=hiM:=rfl
section
variable {prog:Program} {w:World} {A:Around} {E:Value->Shared->Prop} {s:Shared} {κ:SortKind} {r:Value->Int} {P:Value->Prop} {a b out:Array Keyed} {mg ac bc na nb N:Nat} {st:SortSt} {Q:ForInStep S3->SortSt->Prop}
def HD (r:Value->Int) (a b:Array Keyed) (Q:ForInStep S3->SortSt->Prop) (st:SortSt):Prop:=∀ o rest,bV r a b o->Q (.done (some o,rest)) st
def HY (r:Value->Int) (a b:Array Keyed) (N:Nat) (Q:ForInStep S3->SortSt->Prop) (st:SortSt):Prop :=
 ∀ o na nb mg ac bc,MH r a b o na nb->1<=na->2<=nb->na+nb<=N->Q (.done (none,na,nb,o,mg,ac,bc)) st/\Q (.yield (none,na,nb,o,mg,ac,bc)) st
theorem yP (c:MC prog w A s κ r P a b) (M:MH r a b out na nb) (h1:0<na) (lt:R r b (nb - 1)<=R r a (na - 1)) (h2:2<=nb) (hN:na+nb<=N) (D:HD r a b Q st) (Y:HY r a b N Q st):wpS (model prog w) A E s (hi3 a b mg ac bc na nb out) Q st:=by
 have ha:=M.ha
 refine wpS_bind (aH (by lia) fun p e=>?_)
 have M2:=M.nO c.hA c.hB h1 e fun _=>lt
 by_cases z:na - 1=0
 ·rw [if_pos (by simpa using z)]
  exact wpS_pure (D _ _ (M2.endA c.hA c.hB z))
 ·rw [if_neg (by simpa using z)]
  have y:=Y _ _ _ mg ac bc M2 (by lia) h2 (by lia)
  split
  ·exact wpS_pure y.1
  ·exact wpS_pure y.2
theorem Cw (c:MC prog w A s κ r P a b) (hk:kindOf st=κ) (M:MH r a b out na nb) (h1:0<na) (h2:2<=nb) (hN:na+nb<=N) (D:HD r a b Q st) (Y:HY r a b N Q st):wpS (model prog w) A E s (hi2 a b mg ac bc na nb out) Q st:=by
 have ha:=M.ha
 have hb:=M.hb
 refine wpS_bind (aH (by lia) fun p e=>wpS_bind (cJ c.C hk c.pb (c.pa.at e) (by lia) (by lia) (fun i j u v w=>c.hB i j u v (by lia)) fun l hl1 hl2 hl3=>?_))
 have ra:=R_at (r:=r) e
 dsimp only
 have lt:0<l->R r b (l - 1)<=R r a (na - 1):=fun z=>by have:=zY (hl2 (l - 1) (by exact xb4 ‹_› xbW)); rw [xa3] at this; lia
 by_cases l0:nb - l>0
 ·have M5:=MH.addB c.hA c.hB (nb - l) (p:=l) M (by exact xbN ‹_›) fun _ i hi1 hi2=>by have:=rE (hl3 i hi1 hi2); rw [xa3] at this; lia
  rw [if_pos l0]
  by_cases z4:l=1
  ·rw [if_pos (by simpa using z4)]
   exact wpS_pure (D _ _ (M5.qj c.hA c.hB z4 c.hl))
  ·rw [if_neg (by simpa using z4)]
   by_cases z6:l=0
   ·rw [if_pos (by simpa using z6)]
    exact wpS_pure (D _ _ (M5.endB c.hA c.hB z6))
   ·rw [if_neg (by simpa using z6)]
    exact yP c M5 h1 (lt (by lia)) (by lia) (by lia) D Y
 ·rw [if_neg l0]
  obtain rfl:l=nb:=by lia
  exact yP c M h1 (lt (by exact xb0 ‹_›)) h2 hN D Y
theorem yR (c:MC prog w A s κ r P a b) (hk:kindOf st=κ) (M:MH r a b out na nb) (h1:0<na) (h2:2<=nb) (lt:R r a (na - 1)<=R r b (nb - 1)) (hN:na+nb<=N) (D:HD r a b Q st) (Y:HY r a b N Q st):wpS (model prog w) A E s (hi1 a b mg ac bc na nb out) Q st:=by
 have hb:=M.hb
 refine wpS_bind (aH (by lia) fun p e=>?_)
 have M4:=M.m5 c.hA c.hB (by exact xb0 ‹_›) e fun _=>lt
 by_cases z:nb - 1=1
 ·rw [if_pos (by simpa using z)]
  exact wpS_pure (D _ _ (M4.qj c.hA c.hB z c.hl))
 ·rw [if_neg (by simpa using z)]
  exact Cw c hk M4 h1 (by lia) (by lia) D Y
theorem Cm (c:MC prog w A s κ r P a b) (hk:kindOf st=κ) (M:MH r a b out na nb) (h1:0<na) (h2:2<=nb) (hN:na+nb<=N) (D:∀ st',Mg st st'->HD r a b Q st') (Y:∀ st',Mg st st'->HY r a b N Q st'):wpS (model prog w) A E s (hi0 a b mg ac bc na nb out) Q st:=by
 have ha:=M.ha
 have hb:=M.hb
 have g:=(Mg.refl st).set mg
 refine wpS_bind (gC ?_)
 refine wpS_bind (aH (by lia) fun p e=>wpS_bind (cJ c.C (g.kind.trans hk) c.pa (c.pb.at e) (by lia) (by exact xb4 ‹_› xbW) (fun i j u v w=>c.hA i j u v (by lia)) fun k hk1 hk2 hk3=>?_))
 have rb:=R_at (r:=r) e
 dsimp only
 have lt:0<k->R r a (k - 1)<=R r b (nb - 1):=fun z=>by have:=yg (hk2 (k - 1) (by exact xb4 ‹_› xbW)); rw [xa3] at this; lia
 by_cases k0:na - k>0
 ·have M3:=MH.addA c.hA c.hB (na - k) (p:=k) M (by exact xbN ‹_›) fun _ i hi1 hi2=>by have:=vU (hk3 i hi1 hi2); rw [xa3] at this; lia
  rw [if_pos k0]
  by_cases z:k=0
  ·rw [if_pos (by simpa using z)]
   exact wpS_pure (D _ g _ _ (M3.endA c.hA c.hB z))
  ·rw [if_neg (by simpa using z)]
   exact yR c (g.kind.trans hk) M3 (by lia) h2 (lt (by lia)) (by lia) (D _ g) (Y _ g)
 ·rw [if_neg k0]
  obtain rfl:k=na:=by lia
  exact yR c (g.kind.trans hk) M h1 h2 (lt h1) hN (D _ g) (Y _ g)
def HI (r:Value->Int) (a b:Array Keyed) (N:Nat) (c:S2):Prop:=∃ na nb out ac bc,c=(none,na,nb,out,ac,bc)/\MH r a b out na nb/\1<=na/\2<=nb/\na+nb<=N
theorem Cd {Q:ForInStep S2->SortSt->Prop} (c:MC prog w A s κ r P a b) (M:MH r a b out na nb) (h1:0<na) (lt:R r b (nb - 1)<=R r a (na - 1)) (h2:2<=nb) (hN:na+nb<=N+1) (D:∀ c,HS r a b c->Q (.done c) st) (Y:∀ c,HI r a b N c->Q (.done c) st/\Q (.yield c) st):wpS (model prog w) A E s (hiA a b mg ac na nb out) Q st:=by
 have ha:=M.ha
 refine wpS_bind (aH (by lia) fun p e=>?_)
 have M2:=M.nO c.hA c.hB h1 e fun _=>lt
 by_cases z:na - 1=0
 ·rw [if_pos (by simpa using z)]
  exact wpS_pure (D _ ⟨_,_,rfl,M2.endA c.hA c.hB z⟩)
 ·rw [if_neg (by simpa using z)]
  have y:=Y _ ⟨_,_,_,ac+1,0,rfl,M2,by lia,h2,by lia⟩
  split
  ·exact wpS_pure y.1
  ·exact wpS_pure y.2
theorem Ce {Q:ForInStep S2->SortSt->Prop} (c:MC prog w A s κ r P a b) (M:MH r a b out na nb) (h1:0<na) (lt:R r a (na - 1)<=R r b (nb - 1)) (h2:2<=nb) (hN:na+nb<=N+1) (D:∀ c,HS r a b c->Q (.done c) st) (Y:∀ c,HI r a b N c->Q (.done c) st/\Q (.yield c) st):wpS (model prog w) A E s (hiB a b mg bc na nb out) Q st:=by
 have hb:=M.hb
 refine wpS_bind (aH (by lia) fun p e=>?_)
 have M2:=M.m5 c.hA c.hB (by exact xb0 ‹_›) e fun _=>lt
 by_cases z:nb - 1=1
 ·rw [if_pos (by simpa using z)]
  exact wpS_pure (D _ ⟨_,_,rfl,M2.qj c.hA c.hB z c.hl⟩)
 ·rw [if_neg (by simpa using z)]
  have y:=Y _ ⟨_,_,_,0,bc+1,rfl,M2,h1,by lia,by lia⟩
  split
  ·exact wpS_pure y.1
  ·exact wpS_pure y.2
theorem Dc {Q:ForInStep S2->SortSt->Prop} {x:Nat} (c:MC prog w A s κ r P a b) (hk:kindOf st=κ) (M:MH r a b out na nb) (h1:0<na) (h2:2<=nb) (hN:na+nb<=N+1) (D:∀ c,HS r a b c->Q (.done c) st) (Y:∀ c,HI r a b N c->Q (.done c) st/\Q (.yield c) st):wpS (model prog w) A E s (hiI a b mg x (none,na,nb,out,ac,bc)) Q st:=by
 have ha:=M.ha
 have hb:=M.hb
 refine wpS_bind (aH (show nb - 1<b.size by lia) fun pb eb=>wpS_bind (aH (show na - 1<a.size by lia) fun pa ea=>wpS_bind (oO c.C hk (c.pb.at eb) (c.pa.at ea) ?_)))
 have rb:R r b (nb - 1)=r pb.1:=R_at eb
 have ra:R r a (na - 1)=r pa.1:=R_at ea
 dsimp only
 by_cases hw:r pb.1<r pa.1
 ·rw [if_pos (decide_eq_true hw)]
  exact Cd c M h1 (by lia) h2 hN D Y
 ·rw [if_neg (by simpa using hw)]
  exact Ce c M h1 (by lia) h2 hN D Y
theorem Bq {Q:ForInStep S1->SortSt->Prop} (c:MC prog w A s κ r P a b) (hk:kindOf st=κ) (M:MH r a b out na nb) (h1:0<na) (h2:2<=nb) (hN:na+nb<=N) (D:∀ st',Mg st st'->∀ c,HS r a b c->Q (.done c) st')
  (Y:∀ st',Mg st st'->∀ out na nb mg,MH r a b out na nb->1<=na->2<=nb->na+nb<=N->Q (.yield (none,na,nb,out,mg)) st'):wpS (model prog w) A E s (hiP a b mg (none,na,nb,out,ac,bc)) Q st:=by
 refine wpS_bind (wpS_lift (wpAny_rule ⟨rfl,?_⟩))
 refine wpS_bind (wpS_mono (wpS_forRange (I:=fun _ c st'=>Mg st st'/\∃ na nb out mg ac bc,c=(none,na,nb,out,mg,ac,bc)/\MH r a b out na nb/\1<=na/\2<=nb/\na+nb<=N)
  (Q:=fun c st'=>Mg st st'/\(HS r a b c\/∃ na nb out mg ac bc,c=(none,na,nb,out,mg,ac,bc)/\MH r a b out na nb/\1<=na/\2<=nb/\na+nb<=N)) ?step ?fin ⟨.refl st,_,_,_,_,_,_,rfl,M,h1,h2,hN⟩) ?post)
 case fin =>
  rintro c st' ⟨hm,q⟩
  exact ⟨hm,.inr q⟩
 case step =>
  rintro y c1 st1 _ _ ⟨hm,na,nb,out,mg,ac,bc,rfl,M,h1,h2,hN⟩
  unfold hiG
  dsimp only
  split <;> exact Cm c (hm.kind.trans hk) M h1 h2 hN (fun st' g o rest hM=>⟨hm.trans g,.inl ⟨o,rest,rfl,hM⟩⟩) fun st' g o na nb mg ac bc M h1 h2 hN=>⟨⟨hm.trans g,.inr ⟨_,_,_,_,_,_,rfl,M,h1,h2,hN⟩⟩,hm.trans g,_,_,_,_,_,_,rfl,M,h1,h2,hN⟩
 case post =>
  rintro c st' ⟨hm,⟨o,rest,rfl,hM⟩ | ⟨na,nb,out,mg,ac,bc,rfl,M,h1,h2,hN⟩⟩
  ·exact wpS_pure (D _ hm _ ⟨_,_,rfl,hM⟩)
  ·exact wpS_bind (gC (wpS_pure (Y _ (hm.set _) _ _ _ _ M h1 h2 hN)))
theorem Dg {Q:ForInStep S1->SortSt->Prop} {x:Nat} (c:MC prog w A s κ r P a b) (hk:kindOf st=κ) (M:MH r a b out na nb) (h1:0<na) (h2:2<=nb) (hN:na+nb<=N+1) (D:∀ st',Mg st st'->∀ c,HS r a b c->Q (.done c) st')
  (Y:∀ st',Mg st st'->∀ out na nb mg,MH r a b out na nb->1<=na->2<=nb->na+nb<=N->Q (.yield (none,na,nb,out,mg)) st'):wpS (model prog w) A E s (hiO a b x (none,na,nb,out,mg)) Q st:=by
 have ha:=M.ha
 have hb:=M.hb
 refine wpS_bind (wpS_mono (wpS_forRange (I:=fun y c st'=>st'=st/\HI r a b (N+1 - y) c) (Q:=fun c st'=>st'=st/\(HS r a b c\/HI r a b N c)) ?step ?fin ⟨rfl,_,_,_,_,_,rfl,M,h1,h2,hN⟩) ?post)
 case fin =>
  rintro c st' ⟨rfl,na',nb',o,ac,bc,rfl,M',q1,q2,q3⟩
  exact ⟨rfl,.inr ⟨_,_,_,_,_,rfl,M',q1,q2,by lia⟩⟩
 case step =>
  rintro y c1 st1 _ hy ⟨rfl,na',nb',o,ac,bc,rfl,M',q1,q2,q3⟩
  exact Dc (N:=N - y) c hk M' q1 q2 (by lia) (fun c q=>⟨rfl,.inl q⟩) fun c q=>by
   obtain ⟨na,nb,o,ac,bc,rfl,M,h1,h2,h3⟩:=q
   exact ⟨⟨rfl,.inr ⟨_,_,_,_,_,rfl,M,h1,h2,by walk_at "s4"⟩⟩,rfl,_,_,_,_,_,rfl,M,h1,h2,by lia⟩
 case post =>
  rintro c1 st' ⟨rfl,⟨o,rest,rfl,hM⟩ | ⟨na,nb,o,ac,bc,rfl,M',q1,q2,q3⟩⟩
  ·exact wpS_pure (D _ (.refl _) _ ⟨_,_,rfl,hM⟩)
  ·exact Bq c hk M' q1 q2 q3 D Y
theorem pD {st:SortSt} {a b:Array Keyed} {Q:Array Keyed->SortSt->Prop} (C:Cmp prog w A s κ r P) (hk:kindOf st=κ) (hPa:AllP P a) (hPb:AllP P b) (hA:Up r a 0 a.size) (hB:Up r b 0 b.size) (na:1<=a.size) (nb:1<=b.size)
  (h0:R r b 0<=R r a 0) (hg:∀ j,j<b.size->R r b j<=R r a (a.size - 1)) (h:∀ out st',bV r a b out->Mg st st'->Q out st'):wpS (model prog w) A E s (qW a b) Q st:=by
 have c:MC prog w A s κ r P a b:=⟨C,hPa,hPb,hA,hB,fun i hi=>xa9 h0 (hA 0 i (xaf _) (xas _) hi),hg⟩
 rw [sU]
 refine wpS_bind (wpS_lift (wpAny_rule ⟨rfl,?_⟩))
 refine wpS_bind (aH (by exact xb4 ‹_› xbW) fun y0 e0=>?_)
 have M1:MH r a b #[y0] (a.size - 1) b.size:=MH.start.nO hA hB na e0 fun _=>hg _ (by exact xb4 ‹_› xbW)
 by_cases c1:a.size - 1=0
 ·rw [if_pos (by simpa using c1)]
  exact wpS_pure (h _ _ (M1.endA hA hB c1) (.refl st))
 ·rw [if_neg (by simpa using c1)]
  by_cases c2:b.size=1
  ·rw [if_pos (by simpa using c2)]
   exact wpS_pure (h _ _ (M1.qj hA hB c2 c.hl) (.refl st))
  ·rw [if_neg (by simpa using c2)]
   refine wpS_bind (wpS_get ?_)
   refine wpS_bind (wpS_mono (wpS_forRange (I:=fun x c st'=>Mg st st'/\∃ na nb out mg,c=(none,na,nb,out,mg)/\MH r a b out na nb/\1<=na/\2<=nb/\na+nb<=a.size+b.size - x)
    (Q:=fun c st'=>Mg st st'/\HS r a b c) ?step ?fin ⟨.refl st,_,_,_,_,rfl,M1,by lia,by lia,by lia⟩) ?post)
   case fin =>
    rintro c st' ⟨_,na,nb,out,mg,rfl,M,h1,h2,h3⟩
    lia
   case post =>
    rintro c st' ⟨hm,out,rest,rfl,hM⟩
    exact wpS_pure (h out st' hM hm)
   case step =>
    rintro x c1 st1 _ hx ⟨hm1,na,nb,out,mg,rfl,M,h1,h2,h3⟩
    exact Dg (N:=a.size+b.size - (x+1)) c (hm1.kind.trans hk) M h1 h2 (by lia) (fun st' g c q=>⟨hm1.trans g,q⟩) fun st' g out na nb mg M h1 h2 h3=>⟨hm1.trans g,_,_,_,_,rfl,M,h1,h2,h3⟩
end
def wr (p:Nat) (m:List Keyed) (n:Nat) (xs:Array Keyed):Array Keyed:=(m.zipIdx n).foldl (fun a (q:Keyed × Nat)=>a.setIfInBounds (p+q.2) q.1) xs
theorem vR (p:Nat):∀ (m:List Keyed) (n:Nat) (xs:Array Keyed),p+n+m.length<=xs.size->∀ k:Nat,(wr p m n xs)[k]? = if p+n<=k/\k<p+n+m.length then m[k - (p+n)]? else xs[k]?
 | [],n,xs,h,k=>by
  rw [if_neg (by simp only [List.length_nil]; lia)]; rfl
 | q :: m,n,xs,h,k=>by
  have ih:=vR p m (n+1) (xs.setIfInBounds (p+n) q) (by rw [Array.size_setIfInBounds]; simp only [xaN] at h; lia) k
  have e:wr p (q :: m) n xs=wr p m (n+1) (xs.setIfInBounds (p+n) q):=by unfold wr; rw [List.zipIdx_cons,List.foldl_cons]
  simp only [xaN] at h ⊢
  rw [e,ih]
  by_cases h1:p+(n+1)<=k/\k<p+(n+1)+m.length
  ·rw [if_pos h1,if_pos (by lia),show k - (p+n)=(k - (p+(n+1)))+1 by lia,List.getElem?_cons_succ]
  ·rw [if_neg h1]
   by_cases h2:k=p+n
   ·subst h2
    rw [if_pos (by walk_at "s4"),Nat.sub_self,List.getElem?_cons_zero,Array.getElem?_setIfInBounds_self_of_lt (by lia)]
   ·rw [if_neg (by lia),Array.getElem?_setIfInBounds_ne (by walk_at "s1")]
theorem Bf (h:p+m.length<=xs.size):(wr p m 0 xs).toList=xs.toList.take p++m++xs.toList.drop (p+m.length):=by
 have hl:xs.toList.length=xs.size:=by simp
 apply xbe
 intro k
 have e:=vR p m 0 xs h k
 rw [xbY] at e
 rw [xax,e]
 by_cases h1:k<p
 ·rw [if_neg (by lia),xaZ,xa0 (by rw [xaE]; lia),List.getElem?_take_of_lt h1,xax]
 ·by_cases h2:k<p+m.length
  ·rw [if_pos (by lia),xaZ,xaM (by rw [xaE]; lia),xaE,show min p xs.toList.length=p by lia,xa0 (by lia)]
  ·rw [if_neg (by lia),xaZ,xaM (by rw [xaE]; lia),xaE,show min p xs.toList.length=p by lia,xaM (by lia),List.getElem?_drop,
    show p+m.length+(k - p - m.length)=k by lia,xax]
theorem Ca {p q:Nat} {xs:Array Keyed} (h:p<=q) (h2:q<=xs.size):xs.toList=xs.toList.take p++(xs.extract p q).toList++xs.toList.drop q:=by
 rw [xcd,xbT]
 have e1:xs.toList.take p++(xs.toList.drop p).take (q - p)=xs.toList.take q:=by
  rw [<- xbO p (xs.toList.take q),List.take_take,List.drop_take,Nat.min_eq_left h]
 rw [e1,xbO]
theorem zu {p q:Nat} {m:List Keyed} {xs:Array Keyed} (h:p<=q) (h2:q<=xs.size) (hm:m.Perm (xs.extract p q).toList):(wr p m 0 xs).Perm xs:=by
 have hl:m.length=q - p:=by rw [hm.length_eq]; simp; lia
 rw [xbS,Bf (by lia),show p+m.length=q by lia]
 have e:=Ca (xs:=xs) h h2
 exact (List.Perm.append_right _ (List.Perm.append_left _ hm)).trans (by rw [<- e])
def Runs (r:Value->Int) (xs:Array Keyed):List (Nat × Nat × Nat)->Nat->Nat->Prop
 | [],a,b=>a=b
 | (s,n,_) :: rest,a,b=>s=a/\1<=n/\Up r xs s (s+n)/\Runs r xs rest (s+n) b
section
variable {r:Value->Int} {xs ys:Array Keyed}
theorem Runs.le:∀ {ps:List (Nat × Nat × Nat)} {a b:Nat},Runs r xs ps a b->a+ps.length<=b
 | [],a,b,h=>by simp only [Runs] at h; simp; lia
 | (s,n,p) :: rest,a,b,h=>by
  obtain ⟨rfl,h1,_,h3⟩:=h
  have:=Runs.le h3
  simp only [xaN]; lia
theorem Runs.append:∀ {ps qs:List (Nat × Nat × Nat)} {a b:Nat},Runs r xs (ps++qs) a b↔∃ c,Runs r xs ps a c/\Runs r xs qs c b
 | [],qs,a,b=>by simp [Runs]
 | (s,n,p) :: rest,qs,a,b=>by
  simp only [List.cons_append,Runs]
  constructor
  ·rintro ⟨h1,h2,h3,h4⟩
   obtain ⟨c,h5,h6⟩:=Runs.append.mp h4
   exact ⟨c,⟨h1,h2,h3,h5⟩,h6⟩
  ·rintro ⟨c,⟨h1,h2,h3,h5⟩,h6⟩
   exact ⟨h1,h2,h3,Runs.append.mpr ⟨c,h5,h6⟩⟩
theorem Up.congr (h:Up r xs a b) (e:∀ k,a<=k->k<b->ys[k]? = xs[k]?):Up r ys a b:=fun i j h1 h2 h3=>by
 rw [cL (e i h1 (by lia)),cL (e j (by lia) h3)]; exact h i j h1 h2 h3
theorem Runs.congr:∀ {ps:List (Nat × Nat × Nat)} {a b:Nat},Runs r xs ps a b->(∀ k,a<=k->k<b->ys[k]? = xs[k]?)->Runs r ys ps a b
 | [],a,b,h,_=>h
 | (s,n,p) :: rest,a,b,h,e=>by
  obtain ⟨rfl,h1,h2,h3⟩:=h
  have l:=h3.le
  exact ⟨rfl,h1,h2.congr fun k u v=>e k u (by lia),Runs.congr h3 fun k u v=>e k (by walk_at "s4") v⟩
theorem Up.glue (h1:Up r xs a b) (h2:Up r xs b c) (h:∀ i j,a<=i->i<b->b<=j->j<c->R r xs i<=R r xs j):Up r xs a c:=fun i j u v w=>by
 by_cases hj:j<b
 ·exact h1 i j u v hj
 ·by_cases hi:i<b
  ·exact h i j u hi (by lia) w
  ·exact h2 i j (by lia) v w
end
section
variable {prog:Program} {w:World} {A:Around} {E:Value->Shared->Prop} {s:Shared} {κ:SortKind} {r:Value->Int} {P:Value->Prop}
theorem AllP.extract (h:AllP P xs) (i j:Nat):AllP P (xs.extract i j):=fun p hp=>h p (by
 rw [xcd,xbT] at hp
 exact xce (xbR hp))
theorem dh (h:i+k<j) (hj:j<=xs.size):R r (xs.extract i j) k=R r xs (i+k):=by
 apply cL
 rw [xbK,if_pos (by lia)]
theorem Up.extract (h:Up r xs i j) (hij:i<=j) (hj:j<=xs.size):Up r (xs.extract i j) 0 (xs.extract i j).size:=fun a b _ h2 h3=>by
 have e:(xs.extract i j).size=j - i:=by simp only [xbk]; lia
 rw [e] at h3
 rw [dh (by lia) hj,dh (by lia) hj]
 exact h _ _ (by lia) (by lia) (by lia)
theorem uv (hz:sa+na+nb<=xs.size) (hk:k<na) (hnb:nb'<=nb) (hA:Up r xs sa (sa+na)) (hB:Up r xs (sa+na) (sa+na+nb))
  (lo1:∀ i,i<k->R r xs (sa+i)<=R r xs (sa+na)) (lo2:R r xs (sa+na)<R r xs (sa+k)) (hi1:∀ i,i<nb'->R r xs (sa+na+i)<R r xs (sa+na - 1)) (hi2:∀ i,nb'<=i->i<nb->R r xs (sa+na - 1)<=R r xs (sa+na+i))
  (hm:bV r (xs.extract (sa+k) (sa+na)) (xs.extract (sa+na) (sa+na+nb')) m) :
  Up r (wr (sa+k) m.toList 0 xs) sa (sa+na+nb)/\(wr (sa+k) m.toList 0 xs).Perm xs/\∀ j,j<sa\/sa+na+nb<=j->(wr (sa+k) m.toList 0 xs)[j]? = xs[j]? := by
 obtain ⟨mp,mu⟩:=hm
 have eab:(xs.extract (sa+k) (sa+na)).toList++(xs.extract (sa+na) (sa+na+nb')).toList=(xs.extract (sa+k) (sa+na+nb')).toList:=by
  rw [<- Array.toList_append,Array.extract_append_extract,show min (sa+k) (sa+na)=sa+k by lia,show max (sa+na) (sa+na+nb')=sa+na+nb' by lia]
 rw [eab] at mp
 have ml:m.toList.length=na+nb' - k:=by rw [mp.length_eq]; simp; lia
 have hw:sa+k+m.toList.length<=xs.size:=by lia
 have get:=vR (sa+k) m.toList 0 xs (by lia)
 rw [xbY,ml] at get
 -- every merged item is one of the window's
 have mem:∀ (j:Nat) (p:Keyed),m.toList[j]? = some p->∃ i,sa+k<=i/\i<sa+na+nb'/\r p.1=R r xs i:=fun j p e=>by
  have hp:p∈(xs.extract (sa+k) (sa+na+nb')).toList:=mp.mem_iff.mp (xaC e)
  obtain ⟨i,hi⟩:=List.getElem?_of_mem hp
  rw [xax,xbK] at hi
  split at hi
  ·exact ⟨sa+k+i,by lia,by lia,(R_at hi).symm⟩
  ·cases hi
 have low:∀ i,sa+k<=i->i<sa+na+nb'->R r xs (sa+na)<=R r xs i:=fun i h1 h2=>by
  by_cases h3:i<sa+na
  ·exact xa9 (xbm lo2) (hA (sa+k) i (by lia) h1 h3)
  ·exact hB (sa+na) i (xaf _) (by lia) (by lia)
 have high:∀ i,sa+k<=i->i<sa+na+nb'->R r xs i<=R r xs (sa+na - 1):=fun i h1 h2=>by
  by_cases h3:i<sa+na
  ·exact hA i (sa+na - 1) (by lia) (by lia) (by lia)
  ·have:=hi1 (i - (sa+na)) (by lia)
   rw [show sa+na+(i - (sa+na))=i by lia] at this
   lia
 have Rin:∀ j,j<na+nb' - k->∃ i,sa+k<=i/\i<sa+na+nb'/\R r (wr (sa+k) m.toList 0 xs) (sa+k+j)=R r xs i:=fun j hj=>by
  have e:=get (sa+k+j)
  rw [if_pos (by lia),show sa+k+j - (sa+k)=j by lia] at e
  have hj':j<m.toList.length:=by lia
  obtain ⟨i,h1,h2,h3⟩:=mem j m.toList[j] (xam hj')
  rw [xam hj'] at e
  exact ⟨i,h1,h2,(R_at e).trans h3⟩
 have Rout:∀ j,j<sa+k\/sa+na+nb'<=j->(wr (sa+k) m.toList 0 xs)[j]? = xs[j]? := fun j hj=>by
  have e:=get j
  rw [if_neg (by lia)] at e
  exact e
 refine ⟨?_,zu (by lia) (by lia) mp,fun j hj=>Rout j (by lia)⟩
 have U1:Up r (wr (sa+k) m.toList 0 xs) sa (sa+k):=Up.congr (xs:=xs) (fun i j h1 h2 h3=>hA i j h1 h2 (by lia)) fun j h1 h2=>Rout j (.inl h2)
 have U2:Up r (wr (sa+k) m.toList 0 xs) (sa+k) (sa+na+nb'):=fun i j h1 h2 h3=>by
  have ei:=get i
  have ej:=get j
  rw [if_pos (by lia)] at ei ej
  have li:i - (sa+k)<m.toList.length:=by lia
  have lj:j - (sa+k)<m.toList.length:=by lia
  rw [xam li] at ei
  rw [xam lj] at ej
  rw [R_at ei,R_at ej]
  by_cases hij:i=j
  ·subst hij; exact xbd _
  ·exact (xaQ.mp mu) _ _ li lj (by lia)
 have U3:Up r (wr (sa+k) m.toList 0 xs) (sa+na+nb') (sa+na+nb):=Up.congr (xs:=xs) (fun i j h1 h2 h3=>hB i j (by lia) h2 h3) fun j h1 h2=>Rout j (.inr h1)
 refine (U1.glue U2 fun i j h1 h2 h3 h4=>?_).glue U3 fun i j h1 h2 h3 h4=>?_
 ·obtain ⟨q,q1,q2,q3⟩:=Rin (j - (sa+k)) (by lia)
  rw [show sa+k+(j - (sa+k))=j by lia] at q3
  rw [q3,cL (Rout i (.inl h2))]
  have:=lo1 (i - sa) (by lia)
  rw [show sa+(i - sa)=i by lia] at this
  exact xa9 this (low q q1 q2)
 ·have e2:=hi2 (j - (sa+na)) (by lia) (by lia)
  rw [show sa+na+(j - (sa+na))=j by lia] at e2
  rw [cL (Rout j (.inr h3))]
  by_cases hi:i<sa+k
  ·rw [cL (Rout i (.inl hi))]
   have:=lo1 (i - sa) (by lia)
   rw [show sa+(i - sa)=i by lia] at this
   have:=low (sa+na - 1) (by lia) (by lia)
   lia
  ·obtain ⟨q,q1,q2,q3⟩:=Rin (i - (sa+k)) (by lia)
   rw [show sa+k+(i - (sa+k))=i by lia] at q3
   rw [q3]
   exact xa9 (high q q1 q2) e2
structure St (r:Value->Int) (κ:SortKind) (a₀:Array Keyed) (st:SortSt) (ps:List (Nat × Nat × Nat)) (lo:Nat):Prop where
 kind:kindOf st=κ
 failed:failedOf st=none
 perm:(arrOf st).Perm a₀
 pend:pendingOf st=ps.toArray
 runs:Runs r (arrOf st) ps 0 lo
theorem St.size {st:SortSt} {ps:List (Nat × Nat × Nat)} {lo:Nat} (h:St r κ a₀ st ps lo):(arrOf st).size=a₀.size:=h.perm.size_eq
theorem xZ {ps:List (Nat × Nat × Nat)} (h:i+1<ps.length):∃ pre x y post,ps=pre++x :: y :: post/\pre.length=i:=by
 refine ⟨ps.take i,ps[i],ps[i+1],ps.drop (i+2),?_,by rw [xaE]; lia⟩
 rw [<- xaI (by lia),<- xaI (by lia),xbO]
theorem jw {st:SortSt} {ps:List (Nat × Nat × Nat)} {lo i:Nat} (C:Cmp prog w A s κ r P) (hP:AllP P a₀) (H:St r κ a₀ st ps lo) (hlo:lo<=a₀.size) (hi:i+1<ps.length)
  (h:∀ st' ps',St r κ a₀ st' ps' lo->ps'.length+1=ps.length->ps'≠[]->(∀ k,lo<=k->(arrOf st')[k]? = (arrOf st)[k]?)->Q true st'):wpS (model prog w) A E s (mergeAt' i) Q st:=by
 obtain ⟨pre,⟨sa,na,pa⟩,⟨sb,nb,pb⟩,post,rfl,hpre⟩:=xZ hi
 have hz:=H.size
 have hP':AllP P (arrOf st):=hP.perm H.perm
 obtain ⟨c,hr1,hr2⟩:=Runs.append.mp H.runs
 obtain ⟨rfl,n1,u1,rfl,n2,u2,hr3⟩:=hr2
 have le3:=hr3.le
 have le1:=hr1.le
 -- the new pending list
 have epend:((pendingOf st).setIfInBounds i (sa,na+nb,pa)).eraseIdxIfInBounds (i+1)=(pre++(sa,na+nb,pa) :: post).toArray:=by
  rw [H.pend]
  apply xb8.mp
  simp [<- hpre,List.eraseIdx_append_of_length_le]
 have new:∀ (xs:Array Keyed) (g:Nat),xs.Perm (arrOf st)->(∀ j,j<sa\/sa+na+nb<=j->xs[j]? = (arrOf st)[j]?)->Up r xs sa (sa+(na+nb)) ->
   St r κ a₀ (SortSt.mk' (kindOf st) xs (pre++(sa,na+nb,pa) :: post).toArray g (failedOf st)) (pre++(sa,na+nb,pa) :: post) lo:=fun xs g hp ho hu =>
  ⟨H.kind,H.failed,hp.trans H.perm,rfl,Runs.append.mpr ⟨sa,hr1.congr fun k _ hk=>ho k (.inl hk),rfl,by lia,hu,by
   rw [show sa+(na+nb)=sa+na+nb by lia]
   exact hr3.congr fun k hk _=>ho k (.inr hk)⟩⟩
 have len:(pre++(sa,na+nb,pa) :: post).length+1=(pre++(sa,na,pa) :: (sa+na,nb,pb) :: post).length:=by simp; lia
 have e0:(pendingOf st)[i]? = some (sa,na,pa):=by rw [H.pend,<- hpre]; simp
 have e1:(pendingOf st)[i+1]? = some (sa+na,nb,pb):=by rw [H.pend,<- hpre]; simp
 refine wpS_bind (wpS_get ?_)
 rw [e0,e1]
 dsimp only
 refine wpS_bind (wpS_modify (f:=fun _=>SortSt.mk' (kindOf st) (arrOf st) (((pendingOf st).setIfInBounds i (sa,na+nb,pa)).eraseIdxIfInBounds (i+1)) (gallopOf st) (failedOf st)) ?_)
 rw [epend]
 refine wpS_bind (aH (xs:=arrOf st) (by lia) fun kb ekb=>wpS_bind (cJ (arr:=arrOf st) C H.kind hP' (hP'.at ekb) (by lia) (by lia) u1 fun k hk1 hk2 hk3=>?_))
 have rkb:=R_at (r:=r) ekb
 dsimp only
 by_cases z:na - k=0
 ·rw [if_pos (by simpa using z)]
  refine wpS_pure (h _ _ (new (arrOf st) (gallopOf st) (Array.Perm.refl _) (fun _ _=>rfl) ?_) len (by simp) fun _ _=>rfl)
  rw [show sa+(na+nb)=sa+na+nb by lia]
  refine u1.glue u2 fun i j h1 h2 h3 h4=>?_
  have:=yg (hk2 (i - sa) (by lia))
  rw [show sa+(i - sa)=i by lia] at this
  have:=u2 (sa+na) j (xaf _) h3 h4
  lia
 ·rw [if_neg (by simpa using z)]
  refine wpS_bind (aH (xs:=arrOf st) (by lia) fun ka eka=>wpS_bind (cJ (arr:=arrOf st) C H.kind hP' (hP'.at eka) (by lia) (by lia) u2 fun l hl1 hl2 hl3=>?_))
  have rka:=R_at (r:=r) eka
  rw [show sa+k+(na - k) - 1=sa+na - 1 by lia] at rka
  dsimp only
  by_cases z2:l=0
  ·rw [if_pos (by simpa using z2)]
   refine wpS_pure (h _ _ (new (arrOf st) (gallopOf st) (Array.Perm.refl _) (fun _ _=>rfl) ?_) len (by simp) fun _ _=>rfl)
   rw [show sa+(na+nb)=sa+na+nb by lia]
   refine u1.glue u2 fun i j h1 h2 h3 h4=>?_
   have:=rE (hl3 (j - (sa+na)) (by lia) (by lia))
   rw [show sa+na+(j - (sa+na))=j by lia] at this
   have:=u1 i (sa+na - 1) h1 (by lia) (by lia)
   lia
  ·rw [if_neg (by simpa using z2)]
   have lo1:∀ i,i<k->R r (arrOf st) (sa+i)<=R r (arrOf st) (sa+na):=fun i hi=>by have:=yg (hk2 i hi); lia
   have lo2:R r (arrOf st) (sa+na)<R r (arrOf st) (sa+k):=by have:=vU (hk3 k (xaf _) (by lia)); lia
   have hi1:∀ i,i<l->R r (arrOf st) (sa+na+i)<R r (arrOf st) (sa+na - 1):=fun i hi=>by have:=zY (hl2 i hi); lia
   have hi2:∀ i,l<=i->i<nb->R r (arrOf st) (sa+na - 1)<=R r (arrOf st) (sa+na+i):=fun i h1 h2=>by have:=rE (hl3 i h1 h2); lia
   have sx:((arrOf st).extract (sa+k) (sa+na)).size=na - k:=by simp only [xbk]; lia
   have sy:((arrOf st).extract (sa+na) (sa+na+l)).size=l:=by simp only [xbk]; lia
   have ux:Up r ((arrOf st).extract (sa+k) (sa+na)) 0 ((arrOf st).extract (sa+k) (sa+na)).size:=Up.extract (fun i j h1 h2 h3=>u1 i j (by lia) h2 h3) (by lia) (by lia)
   have uy:Up r ((arrOf st).extract (sa+na) (sa+na+l)) 0 ((arrOf st).extract (sa+na) (sa+na+l)).size:=Up.extract (fun i j h1 h2 h3=>u2 i j h1 h2 (by lia)) (by lia) (by lia)
   have h00:R r ((arrOf st).extract (sa+na) (sa+na+l)) 0<=R r ((arrOf st).extract (sa+k) (sa+na)) 0:=by
    rw [dh (by lia) (by lia),dh (by lia) (by lia)]
    exact xbm lo2
   have hgg:∀ j,j<((arrOf st).extract (sa+na) (sa+na+l)).size->R r ((arrOf st).extract (sa+na) (sa+na+l)) j<=R r ((arrOf st).extract (sa+k) (sa+na)) (((arrOf st).extract (sa+k) (sa+na)).size - 1):=fun j hj=>by
    rw [sx,dh (by lia) (by lia),dh (by lia) (by lia),show sa+k+(na - k - 1)=sa+na - 1 by lia]
    exact xbm (hi1 j (by lia))
   have fin:∀ out st',bV r ((arrOf st).extract (sa+k) (sa+na)) ((arrOf st).extract (sa+na) (sa+na+l)) out->Mg (SortSt.mk' (kindOf st) (arrOf st) (pre++(sa,na+nb,pa) :: post).toArray (gallopOf st) (failedOf st)) st' ->
     Q true (SortSt.mk' (kindOf st') (wr (sa+k) out.toList 0 (arrOf st')) (pendingOf st') (gallopOf st') (failedOf st')):=fun out st' hm hg=>by
    obtain ⟨g,rfl⟩:=hg
    obtain ⟨m1,m2,m3⟩:=uv (by lia) (by lia) hl1 u1 u2 lo1 lo2 hi1 hi2 hm
    exact h _ _ (new _ g m2 m3 (by rw [show sa+(na+nb)=sa+na+nb by lia]; exact m1)) len (by simp) fun k hk=>m3 k (.inr (by lia))
   have fin2:∀ out st',bV r ((arrOf st).extract (sa+k) (sa+na)) ((arrOf st).extract (sa+na) (sa+na+l)) out->Mg (SortSt.mk' (kindOf st) (arrOf st) (pre++(sa,na+nb,pa) :: post).toArray (gallopOf st) (failedOf st)) st' ->
     failedOf st'=none:=fun out st' _ hg=>by
    obtain ⟨g,rfl⟩:=hg
    exact H.failed
   by_cases z3:na - k<=l
   ·rw [if_pos z3]
    refine wpS_bind (pI (a:=(arrOf st).extract (sa+k) (sa+na)) (b:=(arrOf st).extract (sa+na) (sa+na+l)) C H.kind (hP'.extract _ _) (hP'.extract _ _) ux uy (by lia) (by lia) h00 hgg fun out st' hm hg=>?_)
    refine wpS_bind (wpS_modify (wpS_bind (wpS_get ?_)))
    have f:=fin out st' hm hg
    have f2:=fin2 out st' hm hg
    refine wpS_pure ?_
    show Q (failedOf st').isNone _
    rw [f2]
    exact f
   ·rw [if_neg z3]
    refine wpS_bind (pD (a:=(arrOf st).extract (sa+k) (sa+na)) (b:=(arrOf st).extract (sa+na) (sa+na+l)) C H.kind (hP'.extract _ _) (hP'.extract _ _) ux uy (by lia) (by lia) h00 hgg fun out st' hm hg=>?_)
    refine wpS_bind (wpS_modify (wpS_bind (wpS_get ?_)))
    have f:=fin out st' hm hg
    have f2:=fin2 out st' hm hg
    refine wpS_pure ?_
    show Q (failedOf st').isNone _
    rw [f2]
    exact f
end
section
variable {prog:Program} {w:World} {A:Around} {E:Value->Shared->Prop} {s:Shared} {κ:SortKind} {r:Value->Int} {P:Value->Prop}
theorem Runs.modify (hf:∀ x,(f x).1=x.1/\(f x).2.1=x.2.1):∀ {ps:List (Nat × Nat × Nat)} {i a b:Nat},Runs r xs ps a b->Runs r xs (ps.modify i f) a b
 | [],_,_,_,h=>by simpa using h
 | (s,n,p) :: rest,0,a,b,h=>by
  obtain ⟨h1,h2⟩:=hf (s,n,p)
  rw [List.modify_zero_cons]
  have e:f (s,n,p)=(s,n,(f (s,n,p)).2.2):=Prod.ext h1 (Prod.ext h2 rfl)
  rw [e]
  exact h
 | (s,n,p) :: rest,i+1,a,b,h=>by
  rw [List.modify_succ_cons]
  obtain ⟨h1,h2,h3,h4⟩:=h
  exact ⟨h1,h2,h3,Runs.modify hf h4⟩
theorem St.win {st st':SortSt} {ps:List (Nat × Nat × Nat)} {lo hi:Nat} (H:St r κ a₀ st ps lo) (hw:Win lo hi st st'):St r κ a₀ st' ps lo :=
 ⟨hw.kind.trans H.kind,hw.failed.trans H.failed,hw.perm.trans H.perm,hw.pend.trans H.pend,H.runs.congr fun k _ hk=>hw.out k (.inl hk)⟩
theorem wpS_sortRuns {st:SortSt} (C:Cmp prog w A s κ r P) (hk:kindOf st=κ) (hP:AllP P (arrOf st)) (hp:pendingOf st = #[]) (hf:failedOf st=none)
  (h:∀ st',(arrOf st').Perm (arrOf st)->failedOf st'=none->Up r (arrOf st') 0 (arrOf st).size->Q () st'):wpS (model prog w) A E s sortRuns' Q st:=by
 rw [sortRuns'_eq]
 refine wpS_bind (wpS_get ?_)
 dsimp only
 generalize ha:arrOf st=a₀ at *
 have H0:St r κ a₀ st [] 0:=⟨hk,hf,by rw [ha],by rw [hp],rfl⟩
 refine wpS_bind (wpS_mono (wpS_forRange (I:=fun x c st'=>∃ ps lo,c=(none,lo)/\St r κ a₀ st' ps lo/\lo<=a₀.size/\x<=lo)
  (Q:=fun c st'=>∃ ps,c=(none,a₀.size)/\St r κ a₀ st' ps a₀.size) ?step ?fin ⟨[],0,rfl,H0,xas _,xaf _⟩) ?post)
 case fin =>
  rintro c st' ⟨ps,lo,rfl,H,h1,h2⟩
  have:lo=a₀.size:=by lia
  subst this
  exact ⟨ps,rfl,H⟩
 case post =>
  rintro c st' ⟨ps,rfl,H⟩
  dsimp only
  have l0:=H.runs.le
  refine wpS_bind (wpS_mono (wpS_forRange (I:=fun y c st'=>c=(none,())/\∃ ps',St r κ a₀ st' ps' a₀.size/\ps'.length+y<=a₀.size)
   (Q:=fun c st'=>c=(none,())/\∃ ps',St r κ a₀ st' ps' a₀.size/\ps'.length<=1) ?step3 ?fin3 ⟨rfl,ps,H,by lia⟩) ?post3)
  case fin3 =>
   rintro c st' ⟨rfl,ps',H',hl⟩
   exact ⟨rfl,ps',H',by lia⟩
  case post3 =>
   rintro c st' ⟨rfl,ps',H',hl⟩
   refine wpS_pure (h st' H'.perm H'.failed ?_)
   have q:=H'.runs
   match ps',hl,q with
   | [],_,q =>
    have q:0=a₀.size:=q
    intro i j _ _ hj
    lia
   | [(s',n',p')],_,q =>
    obtain ⟨rfl,_,hu,e⟩:=q
    have e:0+n'=a₀.size:=e
    rw [<- e]
    exact hu
  case step3 =>
   rintro y c st1 _ hy ⟨rfl,ps',H',hl⟩
   refine wpS_bind (wpS_get ?_)
   have ep:(pendingOf st1).size=ps'.length:=by rw [H'.pend]; simp
   by_cases z:(pendingOf st1).size<=1
   ·rw [if_pos z]
    exact wpS_pure ⟨rfl,ps',H',by lia⟩
   ·rw [if_neg z]
    refine wpS_bind (jw C hP H' (xaf _) (by (repeat' split) <;> lia) fun st2 ps2 H2 hlen _ _=>?_)
    rw [if_neg (by simp)]
    exact wpS_pure ⟨rfl,ps2,H2,by lia⟩
 case step =>
  rintro x c st1 _ hx ⟨ps,lo,rfl,H,h1,h2⟩
  dsimp only
  by_cases z:lo >= a₀.size
  ·rw [if_pos z]
   have:lo=a₀.size:=by lia
   subst this
   exact wpS_pure ⟨ps,rfl,H⟩
  ·rw [if_neg z]
   have hz:=H.size
   refine wpS_bind (wpS_countRun C H.kind (hP.perm H.perm) (by lia) (by lia) fun m st2 hw hm1 hm2 hu=>?_)
   have H2:=H.win hw
   dsimp only
   refine Aq (K:=?K) ?pk fun key=>?main
   case main =>
    by_cases z2:m<minRun' a₀.size a₀.size 0
    ·rw [if_pos z2]
     refine wpS_bind (wpS_lift (wpAny_rule ⟨rfl,?_⟩))
     refine wpS_bind (wpS_binarySort C H2.kind (hP.perm H2.perm) (by clear key; have:=H2.size; lia) (by clear key; lia) hu fun st3 hw3 hu3=>?_)
     have H3:=H2.win hw3
     rw [if_neg (by simp)]
     have b1:1<=min (a₀.size - lo) (minRun' a₀.size a₀.size 0):=by clear key; lia
     have b2:lo+min (a₀.size - lo) (minRun' a₀.size a₀.size 0)<=a₀.size:=by clear key; lia
     clear hw3
     generalize min (a₀.size - lo) (minRun' a₀.size a₀.size 0)=nn at *
     revert nn st3
     exact key
    ·rw [if_neg z2]
     exact key _ H2 _ hu hm1 (by lia)
   intro st3 H3 nn hu3 b1 b2
   refine wpS_bind (wpS_get ?_)
   have push:∀ (st':SortSt) (ps':List (Nat × Nat × Nat)),St r κ a₀ st' ps' lo->Up r (arrOf st') lo (lo+nn)->∃ ps lo',((none:Option Unit),lo+nn)=(none,lo')/\St r κ a₀ (setPending st' ((pendingOf st').push (lo,nn,0))) ps lo'/\lo'<=a₀.size/\x+1<=lo':=fun st' ps' G u =>
    ⟨ps'++[(lo,nn,0)],lo+nn,rfl,⟨G.kind,G.failed,G.perm,by show (pendingOf st').push _=_; rw [G.pend]; simp,Runs.append.mpr ⟨lo,G.runs,rfl,b1,u,rfl⟩⟩,b2,by lia⟩
   cases hb:(pendingOf st3).back? with
   | none =>
    dsimp only
    exact wpS_bind (wpS_modify (wpS_pure (push st3 ps H3 hu3)))
   | some t =>
    obtain ⟨s1,n1,p1⟩:=t
    dsimp only
    generalize power' a₀.size (2 * s1+n1) (2 * s1+n1+n1+nn) a₀.size=pw
    refine wpS_bind (wpS_mono (wpS_forRange (I:=fun y c st'=>c=(none,())/\∃ ps',St r κ a₀ st' ps' lo/\Up r (arrOf st') lo (lo+nn))
     (Q:=fun c st'=>c=(none,())/\∃ ps',St r κ a₀ st' ps' lo/\Up r (arrOf st') lo (lo+nn)) ?_ (fun _ _ q=>q) ⟨rfl,ps,H3,hu3⟩) ?_)
    ·rintro y c st4 _ hy ⟨rfl,ps',H4,hu4⟩
     refine wpS_bind (wpS_get ?_)
     have ep:(pendingOf st4).size=ps'.length:=by rw [H4.pend]; simp
     by_cases z3:(pendingOf st4).size>1
     ·rw [if_pos z3]
      have e4:(pendingOf st4)[(pendingOf st4).size - 2]? = some ((pendingOf st4)[(pendingOf st4).size - 2]'(by lia)):=getElem?_pos _ _ (by lia)
      rw [e4]
      generalize (pendingOf st4)[(pendingOf st4).size - 2]'(by lia)=tt
      obtain ⟨t1,t2,older⟩:=tt
      dsimp only
      by_cases z4:older<=pw
      ·rw [if_pos z4]
       exact wpS_pure ⟨rfl,ps',H4,hu4⟩
      ·rw [if_neg z4]
       refine wpS_bind (jw C hP H4 h1 (by lia) fun st5 ps5 H5 hlen _ hout=>?_)
       rw [if_neg (by simp)]
       exact wpS_pure ⟨rfl,ps5,H5,hu4.congr fun k hk _=>hout k hk⟩
     ·rw [if_neg z3]
      exact wpS_pure ⟨rfl,ps',H4,hu4⟩
    ·rintro c st4 ⟨rfl,ps',H4,hu4⟩
     dsimp only
     refine wpS_bind (wpS_modify (wpS_bind (wpS_modify (wpS_pure ?_))))
     refine push _ (ps'.modify (ps'.length - 1) fun x=>(x.1,x.2.1,pw)) ⟨H4.kind,H4.failed,H4.perm,?_,Runs.modify (f:=fun x=>(x.1,x.2.1,pw)) (fun _=>⟨rfl,rfl⟩) H4.runs⟩ hu4
     show (pendingOf st4).modify ((pendingOf st4).size - 1) (fun x=>(x.1,x.2.1,pw))=_
     rw [H4.pend]
     simp
end
section
variable {prog:Program} {w:World} {A:Around} {E:Value->Shared->Prop} {s:Shared} {κ:SortKind} {r:Value->Int} {P:Value->Prop}
def cM (h:Heap) (a:Addr) (vs:List Value):Heap:=((h.update a (Obj.mapSeq fun _=>#[])).push (seqObj "tuple" vs.toArray 0)).push (seqObj "list" #[] 0)
theorem fG (hb:b≠a) (hlt:b<h.objs.size):(cM h a vs).get? b=h.get? b:=by
 unfold cM
 rw [xby _ _ _ (by rw [size_push',xbD]; exact xaw (xaO hlt)),
  xby _ _ _ (by rw [xbD]; exact xaw hlt),Heap.get?_update_ne _ _ _ _ hb]
theorem pZ (hp:xs.Perm (pairsOf vs)) (hs:Up r xs 0 vs.length):(xs.map (·.2)).toList.Perm vs/\(xs.map (·.2)).toList.Pairwise fun x y=>r x<=r y:=by
 have hl:xs.toList.Perm (vs.zip vs):=by rw [<- pairsOf_toList]; exact xbS.mp hp
 have hmem:∀ p,p∈xs.toList->p.1=p.2:=fun p hp'=>(mem_zip_self (hl.mem_iff.mp hp')).1
 have e:(xs.map (·.2)).toList=xs.toList.map (·.1):=by
  rw [Array.toList_map]; exact xch fun p hp'=>(hmem p hp').symm
 have hsz:xs.size=vs.length:=by rw [hp.size_eq,pairsOf_size]
 rw [e]
 refine ⟨?_,?_⟩
 ·have h1:=hl.map (·.1)
  rwa [xb9 (xaf _)] at h1
 ·rw [xaQ]
  intro i j hi hj hij
  have hi':i<xs.size:=by simpa using hi
  have hj':j<xs.size:=by simpa using hj
  have h1:=hs i j (xas _) (xaF hij) (by lia)
  rw [CG hi',CG hj'] at h1
  simpa using h1
theorem dX {F:PySem.Fin->Shared->Prop} (ho:s.heap.get? a=some (seqObj "list" vs.toArray n)) (hsz:vs.length<=sizeLine) (hP:∀ v∈vs,P v)
  (hk:2<=vs.length->∀ (Q:SortKind->Shared->Prop),Q κ { s with heap:=cM s.heap a vs }->wpAny (model prog w) A (keyKind' vs.toArray) Q E { s with heap:=cM s.heap a vs })
  (C:2<=vs.length->Cmp prog w A { s with heap:=cM s.heap a vs } κ r P)
  (h:∀ out:Array Value,out.toList.Perm vs->(out.toList.Pairwise fun x y=>r x<=r y)->F (.done (.ret .none)) { s with heap:=sortedHeap s.heap a vs out }) :
  wpAny (model prog w) A (Builtin.«list.sort» ⟨[.ref a],[]⟩) F E s:=by
 rw [list_sort_plain]
 have ha:a<s.heap.objs.size:=xan ho
 refine xaa (listItems_at ho rfl ?_)
 refine xaa (listUpdate_at ho rfl ?_ (by simpa using hsz) (xas _))
 obtain ⟨e1,ho1⟩:∃ e1,(s.heap.update a (Obj.mapSeq fun _=>#[])).get? a=some (seqObj "list" #[] e1):=⟨_,get?_update_seq ho (fun _=>#[])⟩
 refine xaa (seqEpoch_at ho1 rfl ?_)
 refine xaa (wpAny_newTuple ?_ (by simpa using hsz))
 refine xaa (wpAny_newList ?_ (xas _))
 refine wpAny_holding ?_
 have ho6:(cM s.heap a vs).get? a=some (seqObj "list" #[] e1):=by
  unfold cM
  rw [xby _ _ _ (by rw [size_push',xbD]; exact xaw (xaO ha)),xby _ _ _ (by rw [xbD]; exact xaw ha)]
  exact ho1
 show wpAny (model prog w) A _ F E { s with heap:=cM s.heap a vs }
 dsimp only
 have hvz:vs.toArray.size=vs.length:=by simp
 have fin:∀ st':SortSt,(arrOf st').Perm (pairsOf vs)->Up r (arrOf st') 0 vs.length->F (.done (.ret .none)) { s with heap:=sortedHeap s.heap a vs ((arrOf st').map (·.2)) }:=by
  intro st' hp hs
  obtain ⟨h1,h2⟩:=pZ hp hs
  exact h _ h1 h2
 by_cases h2:vs.toArray.size<2
 ·rw [if_pos h2,if_pos h2]
  refine xaa (xac ?_)
  rw [StateT.run_pure]
  refine xaa (xac ?_)
  dsimp only
  refine xaa (seqEpoch_at ho6 rfl ?_)
  refine xaa (listUpdate_at ho6 rfl ?_ (xas _) (by rw [Array.size_map]; show (pairsOf vs).size<=_; rw [pairsOf_size]; lia))
  simp only [bne_self_eq_false,xao,if_false]
  refine xac (fin (SortSt.mk' general' (vs.toArray.zip vs.toArray) #[] 7 none) (Array.Perm.refl _) ?_)
  intro i j _ hij hj
  have:i=j:=by lia
  subst this; exact xbd _
 ·rw [if_neg h2,if_neg h2]
  refine xaa (hk (by lia) _ ?_)
  refine xaa (xba (wpS_sortRuns (st:=SortSt.mk' κ (vs.toArray.zip vs.toArray) #[] 7 none)
   (Q:=fun _ st'=>(arrOf st').Perm (pairsOf vs)/\failedOf st'=none/\Up r (arrOf st') 0 vs.length)
   (C (by lia)) rfl (fun p hp=>?_) rfl rfl fun st' a1 a2 a3=>⟨a1,a2,?_⟩) ?_ fun _ _ e=>e)
  ·have hp':p∈(pairsOf vs).toList:=hp
   rw [pairsOf_toList] at hp'
   exact hP _ (mem_zip_self hp').2
  ·have e:(arrOf (SortSt.mk' κ (vs.toArray.zip vs.toArray) #[] 7 none)).size=vs.length:=pairsOf_size vs
   rw [e] at a3
   exact a3
  ·rintro ⟨⟨⟩,st'⟩ s' ⟨rfl,hp,hf,hs⟩
   dsimp only
   refine xaa (seqEpoch_at ho6 rfl ?_)
   refine xaa (listUpdate_at ho6 rfl ?_ (xas _) (by refine xaA (xcg ((Array.size_map ..).trans (hp.size_eq.trans (pairsOf_size _)))) ?_; lia))
   rw [hf]
   simp only [bne_self_eq_false,xao,if_false]
   exact xac (fin st' hp hs)
def fC (h:Heap) (vs:List Value):Heap:=((h.push (seqObj "list" #[] 0)).update h.objs.size (Obj.mapSeq (· ++ vs.toArray))).push (seqObj "list" vs.toArray 0)
theorem iZ (hb:h.get? b=some o):(cM (fC h vs) (h.objs.size+1) vs).get? b=some o:=by
 have hlt:b<h.objs.size:=xan hb
 have e:(fC h vs).get? b=some o:=by
  unfold fC
  rw [xby _ _ _ (by rw [xbD,size_push']; exact xaw (xaO hlt)),Heap.get?_update_ne _ _ _ _ (xaw hlt),xby _ _ _ (xaw hlt)]
  exact hb
 rw [fG (xaw (xaO hlt)) (xan e)]
 exact e
theorem uh (hl:s.heap.IsList l vs.toArray) (hsz:vs.length<=sizeLine) (hP:∀ v∈vs,P v)
  (hk:2<=vs.length->∀ (A':Around) (E':Value->Shared->Prop) (s':Shared),(∀ b o,s.heap.get? b=some o->s'.heap.get? b=some o)->∀ (Q:SortKind->Shared->Prop),Q κ s'->wpAny (model prog w) A' (keyKind' vs.toArray) Q E' s')
  (C:2<=vs.length->∀ (s':Shared),(∀ b o,s.heap.get? b=some o->s'.heap.get? b=some o)->Cmp prog w A.in1.in1 s' κ r P)
  (h:∀ (h':Heap) (out:List Value) (n:Nat),out.Perm vs->(out.Pairwise fun x y=>r x<=r y)->(∀ b o,s.heap.get? b=some o->h'.get? b=some o)->h'.get? (s.heap.objs.size+1)=some (seqObj "list" out.toArray n)->Q (.ref (s.heap.objs.size+1)) { s with heap:=h' }) :
  wpAny (model prog w) A (call (.builtin "sorted") [.ref l]) Q E s:=by
 refine Calls.call_function_entry kind_sorted plain_sorted entry_sorted (args_sorted1 _) ?_
 unfold Builtin.«sorted»
 refine xaa (m:=checkCount "sorted" 1 1 _) (xac ?_)
 refine xaa (collect_list hl ?_ hsz)
 refine xaa (wpAny_newList ?_ (by simpa using hsz))
 have hsz2:((s.heap.push (seqObj "list" #[] 0)).update s.heap.objs.size (Obj.mapSeq (· ++ vs.toArray))).objs.size=s.heap.objs.size+1:=by
  rw [xbD,size_push']
 have hoL:(fC s.heap vs).get? (s.heap.objs.size+1)=some (seqObj "list" vs.toArray 0):=by
  unfold fC
  rw [<- hsz2]; exact xaq _ rfl
 show wpAny _ _ _ _ _ { s with heap:=fC s.heap vs }
 rw [hsz2]
 refine xaa (wpAny_holding (wpAny_call_entry slot_list_sort ⟨_,hoL,rfl⟩ entry_list_sort (dX (r:=r) (s:={ s with heap:=fC s.heap vs }) hoL hsz hP
  (fun h2=>hk h2 _ _ _ fun b o e=>iZ e) (fun h2=>?_) fun out a1 a2=>⟨_,rfl,?_⟩) (args_list_sort _)))
 ·exact C h2 _ fun b o e=>iZ e
 ·obtain ⟨n,e⟩:=sortedAll_at s.heap vs out
  refine xac ⟨_,rfl,h (sortedAll s.heap vs out) out.toList n a1 a2 (fun b o e=>sortedAll_old e) (by rw [xbQ]; exact e)⟩
end
end Tim
namespace L2
open PySem PySem.Spec PyProof.Rows
def lt1:Key->Key->Bool
 | .inl i,.inl j=>decide (i<j)
 | .inr x,.inr y=>ltS x y
 | _,_=>false
def ltK:List Key->List Key->Bool
 | a :: as,b :: bs=>if a=b then ltK as bs else lt1 a b
 | _,_=>false
def isI:Key->Bool
 | .inl _=>true
 | .inr _=>false
def shOf (k:List Key):List Bool:=k.map isI
theorem vI (x:Str):ltS x x=false:=by unfold ltS; simp [List.lt_irrefl]
theorem yD (h:ltS x y=true) (g:ltS y z=true):ltS x z=true:=by
 unfold ltS at *
 simp only [decide_eq_true_eq] at *
 exact List.lt_trans h g
theorem um {x y:Str} (h:x.cps.toList=y.cps.toList):x=y:=by
 cases x; cases y
 simp only at h
 rw [xb8.mp h]
theorem uI {x y:Str} (h:ltS x y=false) (g:ltS y x=false):x=y:=by
 unfold ltS at *
 simp only [decide_eq_false_iff_not] at *
 apply um
 exact List.le_antisymm (List.not_lt.mp g) (List.not_lt.mp h)
theorem zX (a:Key):lt1 a a=false:=by cases a with | inl i=>simp [lt1] | inr x=>exact vI x
theorem CK (h:lt1 a b=true) (g:lt1 b c=true):lt1 a c=true:=by
 cases a <;> cases b <;> cases c <;> simp only [lt1,decide_eq_true_eq] at * <;> first | lia | contradiction | exact yD h g
theorem Ab (e:isI a=isI b) (h:lt1 a b=false) (g:lt1 b a=false):a=b:=by
 cases a <;> cases b <;> simp only [lt1,isI,decide_eq_false_iff_not] at *
 ·congr 1; lia
 ·cases e
 ·cases e
 ·congr 1; exact uI h g
theorem pN:∀ a:List Key,ltK a a=false
 | []=>rfl
 | a :: as=>by unfold ltK; rw [if_pos rfl]; exact pN as
theorem qp:∀ {a b c:List Key},ltK a b=true->ltK b c=true->ltK a c=true
 | [],_,_,h,_=>by simp [ltK] at h
 | _ :: _,[],_,h,_=>by simp [ltK] at h
 | _ :: _,_ :: _,[],_,g=>by simp [ltK] at g
 | a :: as,b :: bs,c :: cs,h,g=>by
  unfold ltK at h g ⊢
  by_cases e1:a=b
  ·subst e1
   rw [if_pos rfl] at h
   by_cases e2:a=c
   ·subst e2
    rw [if_pos rfl] at g ⊢
    exact qp h g
   ·rw [if_neg e2] at g ⊢
    exact g
  ·rw [if_neg e1] at h
   by_cases e2:b=c
   ·subst e2
    rw [if_neg e1]
    exact h
   ·rw [if_neg e2] at g
    have t:=CK h g
    have ne:a≠c:=fun e=>by subst e; rw [zX] at t; cases t
    rw [if_neg ne]
    exact t
theorem ji:∀ {a b:List Key},shOf a=shOf b->ltK a b=false->ltK b a=false->a=b
 | [],[],_,_,_=>rfl
 | [],_ :: _,e,_,_=>by simp [shOf] at e
 | _ :: _,[],e,_,_=>by simp [shOf] at e
 | a :: as,b :: bs,e,h,g=>by
  simp only [shOf,xat,List.cons.injEq] at e
  unfold ltK at h g
  by_cases e1:a=b
  ·subst e1
   rw [if_pos rfl] at h g
   rw [ji (show shOf as=shOf bs from e.2) h g]
  ·rw [if_neg e1] at h
   rw [if_neg (Ne.symm e1)] at g
   exact absurd (Ab e.1 h g) e1
theorem count_le (p q:α->Bool):∀ (l:List α),(∀ x∈l,p x=true->q x=true)->l.countP p<=l.countP q
 | [],_=>xaf _
 | x :: l,h=>by
  have ih:=count_le p q l fun y hy=>h y (xab _ hy)
  have h1:=h x xad
  rw [xca,xca]
  cases hp:p x <;> cases hq:q x <;> simp_all <;> lia
theorem mj (p q:α->Bool) (a:α) (ha:p a=false) (hb:q a=true):∀ (l:List α),a∈l->(∀ x∈l,p x=true->q x=true)->l.countP p<l.countP q
 | [],m,_=>by cases m
 | x :: l,m,h=>by
  rw [xca,xca]
  rcases xak.mp m with rfl | m
  ·have:=count_le p q l fun y hy=>h y (xab _ hy)
   rw [ha,hb]; simp; lia
  ·have ih:=mj p q a ha hb l m fun y hy=>h y (xab _ hy)
   have h1:=h x xad
   cases hp:p x <;> cases hq:q x <;> simp_all <;> lia
def rkK (L:List (List Key)) (k:List Key):Int:=(L.countP fun j=>ltK j k:Nat)
theorem vM (e:shOf a=shOf b) (ma:a∈L):decide (rkK L a<rkK L b)=ltK a b:=by
 unfold rkK
 cases h:ltK a b with
 | true =>
  have:=mj (fun j=>ltK j a) (fun j=>ltK j b) a (pN a) h L ma fun x _ hx=>qp hx h
  exact decide_eq_true (by lia)
 | false =>
  apply decide_eq_false
  cases g:ltK b a with
  | false=>rw [ji e h g]; lia
  | true =>
   have:=count_le (fun j=>ltK j b) (fun j=>ltK j a) L fun x _ hx=>qp hx g
   lia
def unV:V->Option Key
 | .int i=>some (.inl i)
 | .str x=>some (.inr x)
 | _=>none
theorem El (k:Key):unV (kV k)=some k:=by cases k <;> rfl
theorem za:∀ k:List Key,(k.map kV).filterMap unV=k
 | []=>rfl
 | a :: as=>by rw [xat,xbC,El,za as]
def jN (H:Hp):Value->List Key
 | .ref b=>match H b with
  | some (.tup xs)=>xs.filterMap unV
  | _=>[]
 | _=>[]
theorem b_ (h:H b=some (.tup (k.map kV))):jN H (.ref b)=k:=by
 simp only [jN,h]; exact za k
section
variable {prog:Program} {w:World} {A:Around} {E:Value->Shared->Prop} {s:Shared} {Q:Bool->Shared->Prop}
theorem Dd (ru:RelV (kV a) u) (rv:RelV (kV b) v) (e:isI a=isI b) (q:Q (lt1 a b) s):wpAny (model prog w) A (oneLt' false u v) Q E s:=by
 refine PySem.W.kat_one u v ?_
 cases a with
 | inl i =>
  cases b with
  | inr x=>cases e
  | inl j =>
   obtain ⟨t,rfl⟩:=ru
   obtain ⟨t',rfl⟩:=rv
   exact lt_int q
 | inr x =>
  cases b with
  | inl j=>cases e
  | inr y =>
   obtain ⟨t,rfl⟩:=ru
   obtain ⟨t',rfl⟩:=rv
   exact PySem.P.lt_str q
theorem Di (ru:RelV (kV a) u) (rv:RelV (kV b) v) (e:isI a=isI b) (q:Q (decide (a=b)) s):wpAny (model prog w) A (eqBool u v) Q E s:=by
 cases a with
 | inl i =>
  cases b with
  | inr x=>cases e
  | inl j =>
   obtain ⟨t,rfl⟩:=ru
   obtain ⟨t',rfl⟩:=rv
   refine wpAny_eqBool_int ?_
   rw [<- key_ll]; exact q
 | inr x =>
  cases b with
  | inl j=>cases e
  | inr y =>
   obtain ⟨t,rfl⟩:=ru
   obtain ⟨t',rfl⟩:=rv
   refine wpAny_eqBool_str ?_
   rw [<- key_rr]; exact q
theorem xx (k m:List Key) (us vs:List Value) (i:Nat) (ha:Vals (k.map kV) us) (hb:Vals (m.map kV) vs) (e:shOf k=shOf m) (hf:fin=false) (q:Q (ltK k m) s) :
  PySem.W.KatLex prog w A true fin Q (us.zip vs) i s:=by
 induction k generalizing m us vs i with
 | nil =>
  cases m with
  | cons b m=>simp [shOf] at e
  | nil =>
   rw [Paired.n0 ha,Paired.n0 hb]
   subst hf
   exact PySem.W.kat_nil q
 | cons a k ih =>
  cases m with
  | nil=>simp [shOf] at e
  | cons b m =>
   obtain ⟨u,us,rfl,ra,rk⟩:=Paired.c ha
   obtain ⟨v,vs,rfl,rb,rm⟩:=Paired.c hb
   simp only [shOf,xat,List.cons.injEq] at e
   rw [xa4]
   refine PySem.W.kat_cons (Di ra rb e.1 (PySem.W.kat_go (fun h=>PySem.W.kat_yes ?_) (fun h=>PySem.W.kat_no ?_)))
   ·have h:=of_decide_eq_true h
    subst h
    unfold ltK at q
    rw [if_pos rfl] at q
    exact ih m _ _ (i+1) rk rm e.2 q
   ·have h:=of_decide_eq_false h
    unfold ltK at q
    rw [if_neg h] at q
    by_cases h0:i=0
    ·subst h0
     cases a with
     | inr x =>
      cases b with
      | inl j=>cases e.1
      | inr y =>
       obtain ⟨t,rfl⟩:=ra
       obtain ⟨t',rfl⟩:=rb
       exact oneLt_str q
     | inl i =>
      cases b with
      | inr x=>cases e.1
      | inl j =>
       obtain ⟨t,rfl⟩:=ra
       obtain ⟨t',rfl⟩:=rb
       exact oneLt_int q
    ·rw [show (true && i == 0)=false by simp [h0]]
     exact Dd ra rb e.1 q
end
section
variable {X:Cx} {pins:List (Addr × Obj)} {σ:St} {H:Hp} {s:Shared}
theorem Inv.tup (I:Inv X pins σ H s) (h:H b=some (.tup xs)):∃ its:List Value,Vals xs its/\IsTup s.heap b its.toArray:=(I.hok b _ h).2
theorem qY (I:Inv X pins σ H s) (kp:∀ b o,s.heap.get? b=some o->s'.heap.get? b=some o) :
  Tim.Cmp X.prog X.w A s' (tuples' true) (fun v=>rkK L (jN H v)) (fun v=>∃ b k,v=.ref b/\H b=some (.tup (k.map kV))/\shOf k=b0 :: sh/\k∈L):=by
 rintro x y ⟨b,k,rfl,hb,hk,mk⟩ ⟨c,m,rfl,hc,hm,mm⟩ Q E q
 obtain ⟨us,ru,o,e1,c1,n1,d1⟩:=I.tup hb
 obtain ⟨vs,rv,o',e2,c2,n2,d2⟩:=I.tup hc
 have sh':shOf k=shOf m:=hk.trans hm.symm
 simp only [b_ hb,b_ hc] at q
 rw [vM sh' mk] at q
 refine PySem.W.kat_lt (kp _ _ e1) d1 (kp _ _ e2) d2 (xx k m us vs 0 ru rv sh' ?_ q)
 ·have h1:=ru.length
  have h2:=rv.length
  have h3:k.length=m.length:=by
   have:=congrArg List.length sh'
   simpa [shOf] using this
  simp only [xag] at h1 h2
  exact decide_eq_false (by simp only [xaz]; lia)
theorem kat_tups (I:Inv X pins σ H s) {s':Shared} (kp:∀ b o,s.heap.get? b=some o->s'.heap.get? b=some o) {b0:Bool} {sh:List Bool} {ys:List V} {ks:List (List Key)} {vs:List Value} (ht:cj H ys ks) (hv:Vals ys vs) (hs:∀ k∈ks,shOf k=b0 :: sh) :
  ∃ fs:List Value,PySem.W.KatTups s'.heap vs fs/\fs.length=vs.length/\∀ f∈fs,(b0=true->∃ i t,f=Value.int i t)/\(b0=false->∃ x t,f=Value.str x t):=by
 induction ys generalizing ks vs with
 | nil =>
  rw [Paired.n0 hv]
  exact ⟨[],.nil,rfl,by simp⟩
 | cons y ys ih =>
  obtain ⟨k,ks,rfl,⟨b,rfl,hb⟩,t⟩:=Paired.c ht
  obtain ⟨v,vs,rfl,rfl,rs⟩:=Paired.c hv
  obtain ⟨fs,f1,f2,f3⟩:=ih t rs fun j hj=>hs j (xab _ hj)
  have hk:=hs k xad
  obtain ⟨us,ru,o,e1,c1,n1,d1⟩:=I.tup hb
  cases k with
  | nil=>simp [shOf] at hk
  | cons a k =>
   obtain ⟨u,us,rfl,ra,rr⟩:=Paired.c ru
   simp only [shOf,xat,List.cons.injEq] at hk
   refine ⟨u :: fs,.cons (kp _ _ e1) c1 d1 rfl f1,by simp [f2],fun f hf=>?_⟩
   rcases xak.mp hf with rfl | hf
   ·cases a with
    | inr x =>
     obtain ⟨tk,rfl⟩:=ra
     exact ⟨(fun z=>by rw [<- hk.1] at z; cases z),fun _=>⟨_,_,rfl⟩⟩
    | inl i =>
     obtain ⟨tk,rfl⟩:=ra
     exact ⟨fun _=>⟨_,_,rfl⟩,fun z=>by rw [<- hk.1] at z; cases z⟩
   ·exact f3 f hf
end
theorem cj.keys (h:cj H ys ks) (hv:Vals ys vs):vs.map (jN H)=ks/\∀ v∈vs,∃ b k,v=.ref b/\H b=some (.tup (k.map kV))/\k∈ks:=by
 induction ys generalizing ks vs with
 | nil=>rw [Paired.n0 hv,show ks=[] from Paired.n0 h]; exact ⟨rfl,by simp⟩
 | cons y ys ih =>
  obtain ⟨k,ks,rfl,⟨b,rfl,g⟩,t⟩:=Paired.c h
  obtain ⟨v,vs,rfl,rfl,rs⟩:=Paired.c hv
  obtain ⟨e,m⟩:=ih t rs
  refine ⟨by rw [xat,b_ g,e],fun v hv=>?_⟩
  rcases xak.mp hv with rfl | hv
  ·exact ⟨b,k,rfl,g,xad⟩
  ·obtain ⟨b',k',e1,e2,e3⟩:=m v hv
   exact ⟨b',k',e1,e2,xab _ e3⟩
theorem cj.of {H:Hp} {ks:List (List Key)} (vs:List Value) (h:∀ v∈vs,∃ b k,v=Value.ref b/\H b=some (.tup (k.map kV))/\k∈ks):∃ zs,cj H zs (vs.map (jN H))/\Vals zs vs:=by
 induction vs with
 | nil=>exact ⟨[],.nil,.nil⟩
 | cons v vs ih =>
  obtain ⟨zs,a,c⟩:=ih fun u hu=>h u (xab _ hu)
  obtain ⟨b,k,rfl,e,_⟩:=h v xad
  exact ⟨.ref b :: zs,.cons ⟨b,rfl,by rw [b_ e]; exact e⟩ a,.cons rfl c⟩
end L2
namespace Tim
open PySem PyProof.Rows
section
variable {prog:Program} {w:World} {A:Around} {E:Value->Shared->Prop} {s:Shared} {κ:SortKind} {r:Value->Int} {P:Value->Prop}
theorem oU {T:String} {r d:Addr} {n:Nat} {P:Nat->Value->Prop} {OK:Heap->Prop} {R:Result->Shared->Prop} (K:PySem.W.KdlSrc prog w T r d n P OK) (hh:A.handled=none) (hok:OK s.heap) (hn:n<=sizeLine)
  (hR:∀ h' tk acc c,(∀ b o,s.heap.get? b=some o->h'.get? b=some o)->h'.get? s.heap.objs.size=some { cls:=.type "list",data:=.seq acc c }->ItemsOf P acc n->R (.ok (.ret (.ref s.heap.objs.size))) { s with heap:=h',toks:=tk }) :
  codeAny (model prog w) A (.builtin "proto.collect" ⟨[.ref r],[]⟩) R s:=by
 have hth:=K.there _ hok
 have hS:(s.heap.push { cls:=.type "list",data:=.seq ([]:List Value).toArray }).get? s.heap.objs.size=some { cls:=.type "list",data:=.seq ([]:List Value).toArray }:=xaq _ rfl
 refine codeAny_builtin F.entry_proto_collect ?_
 rw [Around.under_plainId F.plain_proto_collect _]
 show wpAny _ A.in1 (newList [] >>= fun l=>again (.builtin "list.__iadd__" ⟨[l,.ref r],[]⟩)) _ _ s
 refine xaa (wpAny_newObj_type ?_)
 refine xac ⟨plainId_quiet F.plain_list_iadd _,codeAny_builtin F.entry_list_iadd ?_⟩
 rw [Around.under_plainId F.plain_list_iadd _]
 show wpAny _ A.in1 (Builtin.List.listExtendWith (.ref s.heap.objs.size) (.ref r) (.ref s.heap.objs.size)) _ _ _
 exact PySem.W.kdl_extend (R:=R) (s:={ s with heap:=s.heap.push { cls:=.type "list",data:=.seq ([]:List Value).toArray } }) K hh (K.keep _ _ hok fun b _ o e=>xae _ e) s.heap.objs.size (xbX hth.1) (xbX hth.2) _ 0 hS
  (fun h' tk acc' c' kp eo ia=>hR h' tk acc' c' (fun b o e=>kp b o (xaw (xan e)) (xae _ e)) eo ia) hn
theorem pB {T:String} {r d:Addr} {n:Nat} {P:Nat->Value->Prop} {OK:Heap->Prop} {Q:List Value->Shared->Prop} (K:PySem.W.KdlSrc prog w T r d n P OK) (hh:A.handled=none) (hok:OK s.heap) (hn:n<=sizeLine)
  (hQ:∀ h' tk acc,(∀ b o,s.heap.get? b=some o->h'.get? b=some o)->s.heap.objs.size<=h'.objs.size->ItemsOf P acc n->Q acc.toList { s with heap:=h',toks:=tk }):wpAny (model prog w) A (collect (.ref r)) Q E s:=by
 unfold collect
 refine xaa (wpAny_runValue (oU K hh hok hn fun h' tk acc c kp eo ia=>?_))
 show wpAny _ A (load s.heap.objs.size >>= _) _ _ { s with heap:=h',toks:=tk }
 refine xaa (wpAny_load eo ?_)
 exact xac (hQ h' tk acc kp (xaF (xan eo)) ia)
theorem sH {R:List Value->Prop}
  (hcol:∀ (A':Around) (E':Value->Shared->Prop) (Q':List Value->Shared->Prop),A'.handled=A.handled->(∀ vs h1 tk,R vs->(∀ b o,s.heap.get? b=some o->h1.get? b=some o)->s.heap.objs.size<=h1.objs.size->Q' vs { s with heap:=h1,toks:=tk })->wpAny (model prog w) A' (collect v) Q' E' s)
  (hsz:∀ vs,R vs->vs.length<=sizeLine) (hP:∀ vs,R vs->∀ v∈vs,P v)
  (hk:∀ vs,R vs->2<=vs.length->∀ (A':Around) (E':Value->Shared->Prop) (s':Shared),(∀ b o,s.heap.get? b=some o->s'.heap.get? b=some o)->∀ (Q:SortKind->Shared->Prop),Q κ s'->wpAny (model prog w) A' (keyKind' vs.toArray) Q E' s')
  (C:∀ (s':Shared),(∀ b o,s.heap.get? b=some o->s'.heap.get? b=some o)->Cmp prog w A.in1.in1 s' κ r P)
  (h:∀ (vs:List Value) (h':Heap) (a:Addr) (out:List Value) (n tk:Nat),R vs->out.Perm vs->(out.Pairwise fun x y=>r x<=r y)->(∀ b o,s.heap.get? b=some o->h'.get? b=some o)->s.heap.objs.size<=a->h'.get? a=some (seqObj "list" out.toArray n)->Q (.ref a) { s with heap:=h',toks:=tk }) :
  wpAny (model prog w) A (call (.builtin "sorted") [v]) Q E s:=by
 refine Calls.call_function_entry kind_sorted plain_sorted entry_sorted (args_sorted1 _) ?_
 unfold Builtin.«sorted»
 refine xaa (m:=checkCount "sorted" 1 1 _) (xac ?_)
 refine xaa (hcol _ _ _ rfl fun vs h1 tk hR kp hz=>?_)
 have hsz':=hsz vs hR
 refine xaa (wpAny_newList ?_ (by simpa using hsz'))
 have hoL:(h1.push (seqObj "list" vs.toArray 0)).get? h1.objs.size=some (seqObj "list" vs.toArray 0):=xaq _ rfl
 have old:∀ b o,s.heap.get? b=some o->(cM (h1.push (seqObj "list" vs.toArray 0)) h1.objs.size vs).get? b=some o:=fun b o e=>by
  have hlt:b<h1.objs.size:=xan (kp b o e)
  rw [fG (xaw hlt) (by rw [size_push']; exact xaO hlt)]
  exact xae _ (kp b o e)
 show wpAny _ _ _ _ _ { s with heap:=h1.push (seqObj "list" vs.toArray 0),toks:=tk }
 refine xaa (wpAny_holding (wpAny_call_entry slot_list_sort ⟨_,hoL,rfl⟩ entry_list_sort (dX (r:=r) (s:={ s with heap:=h1.push (seqObj "list" vs.toArray 0),toks:=tk }) hoL hsz' (hP vs hR)
  (fun h2=>hk vs hR h2 _ _ _ old) (fun h2=>C _ old) fun out a1 a2=>⟨_,rfl,?_⟩) (args_list_sort _)))
 obtain ⟨n,e⟩:=sortedHeap_at (out:=out) hoL
 refine xac ⟨_,rfl,h vs _ h1.objs.size out.toList n tk hR a1 a2 (fun b o e=>?_) hz (by rw [xbQ]; exact e)⟩
 have hlt:b<h1.objs.size:=xan (kp b o e)
 rw [sortedHeap_old (xaw hlt) (by rw [size_push']; exact xaO hlt)]
 exact xae _ (kp b o e)
end
end Tim
namespace L2
open PySem PySem.Spec PyProof.Rows
end L2
namespace L2.Q
open PySem PySem.Spec PyProof.Rows
inductive D where
 | non | bl (b:Bool) | int (i:Int) | str (x:Str)
 | list (xs:List D) | tup (xs:List D) | dK (kvs:List (Key × D)) | dT (kvs:List (List Key × D))
mutual
/-- nothing in it can be changed -/
def D.flat:D->Bool
 | .list _=>false
 | .dK _=>false
 | .dT _=>false
 | .tup xs=>flats xs
 | _=>true
def flats:List D->Bool
 | []=>true
 | x :: xs=>x.flat && flats xs
end
theorem iV:∀ {xs:List D},flats xs=true↔∀ x∈xs,x.flat=true
 | []=>by simp [flats]
 | x :: xs=>by simp [flats,iV (xs:=xs)]
theorem dO:flats (xs++ys)=(flats xs && flats ys):=by
 induction xs with
 | nil=>simp [flats]
 | cons x xs ih=>simp [flats,ih,Bool.and_assoc]
def kOk:Key->Bool
 | .inl _=>true
 | .inr x=>decide (x.length<=sizeLine)
def KsOk (kvs:List (Key × D)):Prop:=kvs.length<=sizeLine/\∀ p∈kvs,kOk p.1=true
def KtOk (kvs:List (List Key × D)):Prop:=kvs.length<=sizeLine/\∀ p∈kvs,p.1.length<=sizeLine/\∀ k∈p.1,kOk k=true
mutual
inductive Rep (K:PySem.W.Frag) (H:Hp):D->V->Prop
 | non:Rep K H .non .non
 | bl (b:Bool):Rep K H (.bl b) (.bl b)
 | int (i:Int):Rep K H (.int i) (.int i)
 | str {x:Str}:x.length<=sizeLine->Rep K H (.str x) (.str x)
 | list {a:Addr} {vs:List V} {ds:List D}:vs.length<=sizeLine->SqL K H a vs->Reps K H ds vs->Rep K H (.list ds) (.ref a)
 | tup {a:Addr} {vs:List V} {ds:List D}:vs.length<=sizeLine->H a=some (.tup vs)->Reps K H ds vs->Rep K H (.tup ds) (.ref a)
 | dK {a:Addr} {vs:List V} {kvs:List (Key × D)}:KsOk kvs->H a=some (.dK ((kvs.map (·.1)).zip vs))->Reps K H (kvs.map (·.2)) vs->Rep K H (.dK kvs) (.ref a)
 | dT {a:Addr} {vs:List V} {kvs:List (List Key × D)}:KtOk kvs->H a=some (.dT ((kvs.map (·.1)).zip vs))->Reps K H (kvs.map (·.2)) vs->Rep K H (.dT kvs) (.ref a)
inductive Reps (K:PySem.W.Frag) (H:Hp):List D->List V->Prop
 | nil:Reps K H [] []
 | cons {d:D} {v:V} {ds:List D} {vs:List V}:Rep K H d v->Reps K H ds vs->Reps K H (d :: ds) (v :: vs)
end
theorem Rep.ind {K:PySem.W.Frag} {H:Hp} {m1:D->V->Prop} {m2:List D->List V->Prop} (h0:m1 .non .non) (hb:∀ b,m1 (.bl b) (.bl b)) (hi:∀ i,m1 (.int i) (.int i)) (hs:∀ x,x.length<=sizeLine->m1 (.str x) (.str x))
  (hl:∀ a vs ds,vs.length<=sizeLine->SqL K H a vs->Reps K H ds vs->m2 ds vs->m1 (.list ds) (.ref a)) (ht:∀ a vs ds,vs.length<=sizeLine->H a=some (.tup vs)->Reps K H ds vs->m2 ds vs->m1 (.tup ds) (.ref a))
  (hk:∀ a vs kvs,KsOk kvs->H a=some (.dK ((kvs.map (·.1)).zip vs))->Reps K H (kvs.map (·.2)) vs->m2 (kvs.map (·.2)) vs->m1 (.dK kvs) (.ref a)) (hT:∀ a vs kvs,KtOk kvs->H a=some (.dT ((kvs.map (·.1)).zip vs))->Reps K H (kvs.map (·.2)) vs->m2 (kvs.map (·.2)) vs->m1 (.dT kvs) (.ref a))
  (hn:m2 [] []) (hc:∀ d v ds vs,Rep K H d v->Reps K H ds vs->m1 d v->m2 ds vs->m2 (d :: ds) (v :: vs)):(∀ {d v},Rep K H d v->m1 d v)/\∀ {ds vs},Reps K H ds vs->m2 ds vs :=
 ⟨fun r=>Rep.rec (motive_1:=fun d v _=>m1 d v) (motive_2:=fun ds vs _=>m2 ds vs) h0 hb hi (fun h=>hs _ h) (fun z s r ih=>hl _ _ _ z s r ih) (fun z s r ih=>ht _ _ _ z s r ih) (fun z s r ih=>hk _ _ _ z s r ih) (fun z s r ih=>hT _ _ _ z s r ih) hn (fun r s a b=>hc _ _ _ _ r s a b) r,
  fun r=>Reps.rec (motive_1:=fun d v _=>m1 d v) (motive_2:=fun ds vs _=>m2 ds vs) h0 hb hi (fun h=>hs _ h) (fun z s r ih=>hl _ _ _ z s r ih) (fun z s r ih=>ht _ _ _ z s r ih) (fun z s r ih=>hk _ _ _ z s r ih) (fun z s r ih=>hT _ _ _ z s r ih) hn (fun r s a b=>hc _ _ _ _ r s a b) r⟩
theorem Rep.B_ {K:PySem.W.Frag} (s:Same H H'):(∀ {d:D} {v:V},Rep K H d v->Rep K H' d v)/\∀ {ds:List D} {vs:List V},Reps K H ds vs->Reps K H' ds vs :=
 Rep.ind .non .bl .int (fun _ h=>.str h) (fun _ _ _ z h _ ih=>.list z (s.lst h) ih) (fun _ _ _ z h _ ih=>.tup z (s _ _ h) ih) (fun _ _ _ kk h _ ih=>.dK kk (s _ _ h) ih) (fun _ _ _ kk h _ ih=>.dT kk (s _ _ h) ih) .nil fun _ _ _ _ _ _ a b=>.cons a b
theorem Rep.same {K:PySem.W.Frag} (s:Same H H') (r:Rep K H d v):Rep K H' d v:=(Rep.B_ s).1 r
theorem Reps.same {K:PySem.W.Frag} (s:Same H H') (r:Reps K H ds vs):Reps K H' ds vs:=(Rep.B_ s).2 r
theorem Reps.ind {K:PySem.W.Frag} {H:Hp} {m:List D->List V->Prop} (hn:m [] []) (hc:∀ d v ds vs,Rep K H d v->Reps K H ds vs->m ds vs->m (d :: ds) (v :: vs)):∀ {ds vs},Reps K H ds vs->m ds vs :=
 fun r=>(Rep.ind (m1:=fun _ _=>True) (m2:=m) trivial (fun _=>trivial) (fun _=>trivial) (fun _ _=>trivial) (fun _ _ _ _ _ _ _=>trivial) (fun _ _ _ _ _ _ _=>trivial) (fun _ _ _ _ _ _ _=>trivial) (fun _ _ _ _ _ _ _=>trivial) hn fun d v ds vs r s _ b=>hc d v ds vs r s b).2 r
theorem Reps.length {K:PySem.W.Frag} (r:Reps K H ds vs):ds.length=vs.length :=
 Reps.ind (m:=fun ds vs=>ds.length=vs.length) rfl (fun _ _ _ _ _ _ ih=>by rw [xaN,xaN,ih]) r
theorem Reps.append {K:PySem.W.Frag} (r:Reps K H ds vs) (t:Reps K H es ws):Reps K H (ds++es) (vs++ws) :=
 Reps.ind (m:=fun ds vs=>Reps K H (ds++es) (vs++ws)) t (fun _ _ _ _ h _ ih=>.cons h ih) r
theorem Reps.get {K:PySem.W.Frag} {H:Hp} {ds:List D} {vs:List V} {i:Nat} {d:D} (r:Reps K H ds vs) (e:ds[i]? = some d):∃ v,vs[i]? = some v/\Rep K H d v :=
 Reps.ind (m:=fun ds vs=>∀ i d,ds[i]? = some d->∃ v,vs[i]? = some v/\Rep K H d v) (fun i d e=>by simp at e) (fun _ _ _ _ h _ ih i d e=>by
  cases i with
  | zero=>simp at e; subst e; exact ⟨_,rfl,h⟩
  | succ i =>
   obtain ⟨v,e1,r⟩:=ih i d (by simpa using e)
   exact ⟨v,by simpa using e1,r⟩) r i d e
theorem Reps.getV {K:PySem.W.Frag} {H:Hp} {ds:List D} {vs:List V} {i:Nat} {v:V} (r:Reps K H ds vs) (e:vs[i]? = some v):∃ d,ds[i]? = some d/\Rep K H d v :=
 Reps.ind (m:=fun ds vs=>∀ i v,vs[i]? = some v->∃ d,ds[i]? = some d/\Rep K H d v) (fun i d e=>by simp at e) (fun _ _ _ _ h _ ih i d e=>by
  cases i with
  | zero=>simp at e; subst e; exact ⟨_,rfl,h⟩
  | succ i =>
   obtain ⟨v,e1,r⟩:=ih i d (by simpa using e)
   exact ⟨v,by simpa using e1,r⟩) r i v e
theorem Reps.drop {K:PySem.W.Frag} (n:Nat) (r:Reps K H ds vs):Reps K H (ds.drop n) (vs.drop n) :=
 Reps.ind (m:=fun ds vs=>∀ n,Reps K H (ds.drop n) (vs.drop n)) (fun n=>by rw [List.drop_nil,List.drop_nil]; exact .nil) (fun _ _ _ _ h hs ih n=>by
  cases n with
  | zero=>exact .cons h hs
  | succ n=>exact ih n) r n
theorem Reps.n0 {K:PySem.W.Frag} (h:Reps K H [] vs):vs=[]:=by cases h; rfl
theorem Reps.c {K:PySem.W.Frag} (h:Reps K H (d :: ds) vs):∃ u us,vs=u :: us/\Rep K H d u/\Reps K H ds us:=by
 cases h with
 | cons r rs=>exact ⟨_,_,rfl,r,rs⟩
theorem Reps.take {K:PySem.W.Frag} (n:Nat) (r:Reps K H ds vs):Reps K H (ds.take n) (vs.take n) :=
 Reps.ind (m:=fun ds vs=>∀ n,Reps K H (ds.take n) (vs.take n)) (fun n=>by rw [List.take_nil,List.take_nil]; exact .nil) (fun _ _ _ _ h hs ih n=>by
  cases n with
  | zero=>exact .nil
  | succ n=>exact .cons h (ih n)) r n
mutual
/-- what is owned: a tree whose lists and dicts stand at As,nobody else's; its leaves shared (fl: and flat) -/
inductive RepO (K:PySem.W.Frag) (Hs H:Hp) (fl:Bool):D->V->List Addr->Prop
 | sh {d:D} {v:V}:(fl=true->d.flat=true)->Rep K Hs d v->RepO K Hs H fl d v []
 | list {a:Addr} {vs:List V} {ds:List D} {As:List Addr}:vs.length<=sizeLine->H a=some (.lst vs)->aA K Hs H fl ds vs As->RepO K Hs H fl (.list ds) (.ref a) (a :: As)
 | tup {a:Addr} {vs:List V} {ds:List D} {As:List Addr}:vs.length<=sizeLine->Hs a=some (.tup vs)->flats ds=false->aA K Hs H fl ds vs As->RepO K Hs H fl (.tup ds) (.ref a) As
 | dK {a:Addr} {vs:List V} {kvs:List (Key × D)} {As:List Addr}:KsOk kvs->H a=some (.dK ((kvs.map (·.1)).zip vs))->aA K Hs H fl (kvs.map (·.2)) vs As->RepO K Hs H fl (.dK kvs) (.ref a) (a :: As)
 | dT {a:Addr} {vs:List V} {kvs:List (List Key × D)} {As:List Addr}:KtOk kvs->H a=some (.dT ((kvs.map (·.1)).zip vs))->aA K Hs H fl (kvs.map (·.2)) vs As->RepO K Hs H fl (.dT kvs) (.ref a) (a :: As)
inductive aA (K:PySem.W.Frag) (Hs H:Hp) (fl:Bool):List D->List V->List Addr->Prop
 | nil:aA K Hs H fl [] [] []
 | cons {d:D} {v:V} {ds:List D} {vs:List V} {As Bs:List Addr}:RepO K Hs H fl d v As->aA K Hs H fl ds vs Bs->aA K Hs H fl (d :: ds) (v :: vs) (As++Bs)
end
def Own (H:Hp) (a:Addr):Prop:=(∃ vs,H a=some (.lst vs))\/(∃ kvs,H a=some (.dK kvs))\/∃ kvs,H a=some (.dT kvs)
section
variable {K:PySem.W.Frag} {Hs Hs' H H':Hp} {fl:Bool}
theorem Own.ne (h:Own H a):H a≠none:=by
 rcases h with ⟨_,e⟩ | ⟨_,e⟩ | ⟨_,e⟩ <;> rw [e] <;> exact fun z=>nomatch z
theorem Own.yS (h:Own H a):H a≠some (.tup vs):=by
 rcases h with ⟨_,e⟩ | ⟨_,e⟩ | ⟨_,e⟩ <;> rw [e] <;> exact fun z=>nomatch z
theorem RepO.ind {m1:D->V->List Addr->Prop} {m2:List D->List V->List Addr->Prop} (hs:∀ d v,(fl=true->d.flat=true)->Rep K Hs d v->m1 d v [])
  (hl:∀ a vs ds As,vs.length<=sizeLine->H a=some (.lst vs)->aA K Hs H fl ds vs As->m2 ds vs As->m1 (.list ds) (.ref a) (a :: As)) (ht:∀ a vs ds As,vs.length<=sizeLine->Hs a=some (.tup vs)->flats ds=false->aA K Hs H fl ds vs As->m2 ds vs As->m1 (.tup ds) (.ref a) As)
  (hk:∀ a vs kvs As,KsOk kvs->H a=some (.dK ((kvs.map (·.1)).zip vs))->aA K Hs H fl (kvs.map (·.2)) vs As->m2 (kvs.map (·.2)) vs As->m1 (.dK kvs) (.ref a) (a :: As)) (hT:∀ a vs kvs As,KtOk kvs->H a=some (.dT ((kvs.map (·.1)).zip vs))->aA K Hs H fl (kvs.map (·.2)) vs As->m2 (kvs.map (·.2)) vs As->m1 (.dT kvs) (.ref a) (a :: As))
  (hn:m2 [] [] []) (hc:∀ d v ds vs As Bs,RepO K Hs H fl d v As->aA K Hs H fl ds vs Bs->m1 d v As->m2 ds vs Bs->m2 (d :: ds) (v :: vs) (As++Bs)):(∀ {d v As},RepO K Hs H fl d v As->m1 d v As)/\∀ {ds vs As},aA K Hs H fl ds vs As->m2 ds vs As :=
 ⟨fun r=>RepO.rec (motive_1:=fun d v As _=>m1 d v As) (motive_2:=fun ds vs As _=>m2 ds vs As) (fun f r=>hs _ _ f r) (fun z s r ih=>hl _ _ _ _ z s r ih) (fun z s n r ih=>ht _ _ _ _ z s n r ih) (fun z s r ih=>hk _ _ _ _ z s r ih) (fun z s r ih=>hT _ _ _ _ z s r ih) hn (fun r s a b=>hc _ _ _ _ _ _ r s a b) r,
  fun r=>aA.rec (motive_1:=fun d v As _=>m1 d v As) (motive_2:=fun ds vs As _=>m2 ds vs As) (fun f r=>hs _ _ f r) (fun z s r ih=>hl _ _ _ _ z s r ih) (fun z s n r ih=>ht _ _ _ _ z s n r ih) (fun z s r ih=>hk _ _ _ _ z s r ih) (fun z s r ih=>hT _ _ _ _ z s r ih) hn (fun r s a b=>hc _ _ _ _ _ _ r s a b) r⟩
theorem mem0 {a:Addr} {p:Prop} (h:a∈([]:List Addr)):p:=absurd h xcb
theorem RepO.own2:(∀ {d:D} {v:V} {As:List Addr},RepO K Hs H fl d v As->∀ a∈As,Own H a)/\∀ {ds:List D} {vs:List V} {As:List Addr},aA K Hs H fl ds vs As->∀ a∈As,Own H a :=
 RepO.ind (m1:=fun _ _ As=>∀ a∈As,Own H a) (m2:=fun _ _ As=>∀ a∈As,Own H a) (fun _ _ _ _ a h=>mem0 h) (fun _ _ _ _ _ e _ ih a h=>(xak.mp h).elim (fun z=>z ▸ .inl ⟨_,e⟩) (ih a)) (fun _ _ _ _ _ _ _ _ ih=>ih)
  (fun _ _ _ _ _ e _ ih a h=>(xak.mp h).elim (fun z=>z ▸ .inr (.inl ⟨_,e⟩)) (ih a)) (fun _ _ _ _ _ e _ ih a h=>(xak.mp h).elim (fun z=>z ▸ .inr (.inr ⟨_,e⟩)) (ih a)) (fun a h=>mem0 h) fun _ _ _ _ _ _ _ _ i1 i2 a h=>(xai.mp h).elim (i1 a) (i2 a)
theorem RepO.own (r:RepO K Hs H fl d v As):∀ a∈As,Own H a:=RepO.own2.1 r
theorem aA.own (r:aA K Hs H fl ds vs As):∀ a∈As,Own H a:=RepO.own2.2 r
theorem RepO.CZ (s:Same Hs Hs'):(∀ {d:D} {v:V} {As:List Addr},RepO K Hs H fl d v As->(∀ a∈As,H' a=H a)->RepO K Hs' H' fl d v As)/\∀ {ds:List D} {vs:List V} {As:List Addr},aA K Hs H fl ds vs As->(∀ a∈As,H' a=H a)->aA K Hs' H' fl ds vs As :=
 RepO.ind (m1:=fun d v As=>(∀ a∈As,H' a=H a)->RepO K Hs' H' fl d v As) (m2:=fun ds vs As=>(∀ a∈As,H' a=H a)->aA K Hs' H' fl ds vs As) (fun _ _ f r _=>.sh f (r.same s))
  (fun _ _ _ _ z e _ ih k=>.list z ((k _ xad).trans e) (ih fun a h=>k a (xab _ h))) (fun _ _ _ _ z e n _ ih k=>.tup z (s _ _ e) n (ih k)) (fun _ _ _ _ z e _ ih k=>.dK z ((k _ xad).trans e) (ih fun a h=>k a (xab _ h)))
  (fun _ _ _ _ z e _ ih k=>.dT z ((k _ xad).trans e) (ih fun a h=>k a (xab _ h))) (fun _=>.nil) fun _ _ _ _ _ _ _ _ i1 i2 k=>.cons (i1 fun a h=>k a (xay _ h)) (i2 fun a h=>k a (xah _ h))
theorem RepO.stay (s:Same Hs Hs') (r:RepO K Hs H fl d v As) (k:∀ a∈As,H' a=H a):RepO K Hs' H' fl d v As:=(RepO.CZ s).1 r k
theorem aA.stay (s:Same Hs Hs') (r:aA K Hs H fl ds vs As) (k:∀ a∈As,H' a=H a):aA K Hs' H' fl ds vs As:=(RepO.CZ s).2 r k
theorem RepO.grow (s:Same Hs Hs') (t:Same H H') (r:RepO K Hs H fl d v As):RepO K Hs' H' fl d v As :=
 r.stay s fun a h=>by
  cases e:H a with
  | none=>exact absurd e (r.own a h).ne
  | some o=>exact t a o e
theorem aA.grow (s:Same Hs Hs') (t:Same H H') (r:aA K Hs H fl ds vs As):aA K Hs' H' fl ds vs As :=
 r.stay s fun a h=>by
  cases e:H a with
  | none=>exact absurd e (r.own a h).ne
  | some o=>exact t a o e
theorem RepO.rep2 {G:Hp} (s:Same Hs G):(∀ {d:D} {v:V} {As:List Addr},RepO K Hs H fl d v As->(∀ a∈As,G a=H a)->Rep K G d v)/\∀ {ds:List D} {vs:List V} {As:List Addr},aA K Hs H fl ds vs As->(∀ a∈As,G a=H a)->Reps K G ds vs :=
 RepO.ind (m1:=fun d v As=>(∀ a∈As,G a=H a)->Rep K G d v) (m2:=fun ds vs As=>(∀ a∈As,G a=H a)->Reps K G ds vs) (fun _ _ _ r _=>r.same s)
  (fun _ _ _ _ z e _ ih k=>.list z (.inl (.inl ((k _ xad).trans e))) (ih fun a h=>k a (xab _ h))) (fun _ _ _ _ z e n _ ih k=>.tup z (s _ _ e) (ih k)) (fun _ _ _ _ z e _ ih k=>.dK z ((k _ xad).trans e) (ih fun a h=>k a (xab _ h)))
  (fun _ _ _ _ z e _ ih k=>.dT z ((k _ xad).trans e) (ih fun a h=>k a (xab _ h))) (fun _=>.nil) fun _ _ _ _ _ _ _ _ i1 i2 k=>.cons (i1 fun a h=>k a (xay _ h)) (i2 fun a h=>k a (xah _ h))
theorem RepO.rep (s:Same Hs G) (r:RepO K Hs H fl d v As) (k:∀ a∈As,G a=H a):Rep K G d v:=(RepO.rep2 s).1 r k
theorem aA.reps (s:Same Hs G) (r:aA K Hs H fl ds vs As) (k:∀ a∈As,G a=H a):Reps K G ds vs:=(RepO.rep2 s).2 r k
theorem Rep.tR (t:∀ a vs,H a=some (.tup vs)->G a=some (.tup vs)):(∀ {d:D} {v:V},Rep K H d v->d.flat=true->Rep K G d v)/\∀ {ds:List D} {vs:List V},Reps K H ds vs->flats ds=true->Reps K G ds vs :=
 Rep.ind (m1:=fun d v=>d.flat=true->Rep K G d v) (m2:=fun ds vs=>flats ds=true->Reps K G ds vs) (fun _=>.non) (fun b _=>.bl b) (fun i _=>.int i) (fun _ h _=>.str h) (fun _ _ _ _ _ _ _ f=>by simp [D.flat] at f) (fun _ _ _ z e _ ih f=>.tup z (t _ _ e) (ih (by simpa [D.flat] using f)))
  (fun _ _ _ _ _ _ _ f=>by simp [D.flat] at f) (fun _ _ _ _ _ _ _ f=>by simp [D.flat] at f) (fun _=>.nil) fun _ _ _ _ _ _ i1 i2 f=>by
   simp only [flats,xaB] at f
   exact .cons (i1 f.1) (i2 f.2)
theorem Rep.gn (t:∀ a vs,H a=some (.tup vs)->G a=some (.tup vs)) (r:Rep K H d v) (f:d.flat=true):Rep K G d v:=(Rep.tR t).1 r f
theorem Reps.gn (t:∀ a vs,H a=some (.tup vs)->G a=some (.tup vs)) (r:Reps K H ds vs) (f:flats ds=true):Reps K G ds vs:=(Rep.tR t).2 r f
theorem Reps.owned (r:Reps K Hs ds vs) (f:flats ds=true):aA K Hs H fl ds vs [] :=
 Reps.ind (m:=fun ds vs=>flats ds=true->aA K Hs H fl ds vs []) (fun _=>.nil) (fun _ _ _ _ h _ ih f=>by
  simp only [flats,xaB] at f
  exact .cons (As:=[]) (.sh (fun _=>f.1) h) (ih f.2)) r f
theorem Reps.BX (r:Reps K Hs ds vs):aA K Hs H false ds vs [] :=
 Reps.ind (m:=fun ds vs=>aA K Hs H false ds vs []) .nil (fun _ _ _ _ h _ ih=>.cons (As:=[]) (.sh (fun z=>Bool.noConfusion z) h) ih) r
theorem RepO.fls2:(∀ {d:D} {v:V} {As:List Addr},RepO K Hs H fl d v As->RepO K Hs H false d v As)/\∀ {ds:List D} {vs:List V} {As:List Addr},aA K Hs H fl ds vs As->aA K Hs H false ds vs As :=
 RepO.ind (fun _ _ _ r=>.sh (fun z=>Bool.noConfusion z) r) (fun _ _ _ _ z e _ ih=>.list z e ih) (fun _ _ _ _ z e n _ ih=>.tup z e n ih) (fun _ _ _ _ z e _ ih=>.dK z e ih) (fun _ _ _ _ z e _ ih=>.dT z e ih) .nil fun _ _ _ _ _ _ _ _ a b=>.cons a b
theorem RepO.fls (r:RepO K Hs H fl d v As):RepO K Hs H false d v As:=RepO.fls2.1 r
theorem aA.fls (r:aA K Hs H fl ds vs As):aA K Hs H false ds vs As:=RepO.fls2.2 r
theorem RepO.zU (t:∀ a vs,Hs a=some (.tup vs)->G a=some (.tup vs)):(∀ {d:D} {v:V} {As:List Addr},RepO K Hs H true d v As->RepO K G H true d v As)/\∀ {ds:List D} {vs:List V} {As:List Addr},aA K Hs H true ds vs As->aA K G H true ds vs As :=
 RepO.ind (fun _ _ f r=>.sh f (r.gn t (f rfl))) (fun _ _ _ _ z e _ ih=>.list z e ih) (fun _ _ _ _ z e n _ ih=>.tup z (t _ _ e) n ih) (fun _ _ _ _ z e _ ih=>.dK z e ih) (fun _ _ _ _ z e _ ih=>.dT z e ih) .nil fun _ _ _ _ _ _ _ _ a b=>.cons a b
theorem RepO.leaves (t:∀ a vs,Hs a=some (.tup vs)->G a=some (.tup vs)) (r:RepO K Hs H true d v As):RepO K G H true d v As:=(RepO.zU t).1 r
theorem aA.ind {m:List D->List V->List Addr->Prop} (hn:m [] [] []) (hc:∀ d v ds vs As Bs,RepO K Hs H fl d v As->aA K Hs H fl ds vs Bs->m ds vs Bs->m (d :: ds) (v :: vs) (As++Bs)):∀ {ds vs As},aA K Hs H fl ds vs As->m ds vs As :=
 fun r=>(RepO.ind (m1:=fun _ _ _=>True) (m2:=m) (fun _ _ _ _=>trivial) (fun _ _ _ _ _ _ _ _=>trivial) (fun _ _ _ _ _ _ _ _ _=>trivial) (fun _ _ _ _ _ _ _ _=>trivial) (fun _ _ _ _ _ _ _ _=>trivial) hn fun d v ds vs As Bs r s _ b=>hc d v ds vs As Bs r s b).2 r
theorem aA.append (r:aA K Hs H fl ds vs As) (t:aA K Hs H fl es ws Bs):aA K Hs H fl (ds++es) (vs++ws) (As++Bs) :=
 aA.ind (m:=fun ds vs As=>aA K Hs H fl (ds++es) (vs++ws) (As++Bs)) t (fun _ _ _ _ _ _ h _ ih=>by
  rw [xaZ]
  exact .cons h ih) r
theorem aA.n0 (h:aA K Hs H fl [] vs As):vs=[]/\As=[]:=by cases h; exact ⟨rfl,rfl⟩
theorem aA.c (h:aA K Hs H fl (d :: ds) vs As):∃ u us A B,vs=u :: us/\As=A++B/\RepO K Hs H fl d u A/\aA K Hs H fl ds us B:=by
 cases h with
 | cons r rs=>exact ⟨_,_,_,_,rfl,rfl,r,rs⟩
theorem aA.length (r:aA K Hs H fl ds vs As):ds.length=vs.length :=
 aA.ind (m:=fun ds vs _=>ds.length=vs.length) rfl (fun _ _ _ _ _ _ _ _ ih=>by rw [xaN,xaN,ih]) r
end
inductive Sl where
 /-- shared; owned; owned and walked by a loop just now (at a) -/
 | sh (d:D) | ow (fl:Bool) (d:D) | lk (a:Addr) (fl:Bool) (d:D)
 /-- an exception,at a -/
 | xc (a:Addr)
abbrev Env:=List (Option Sl)
inductive SR (K:PySem.W.Frag) (Hs H:Hp):Env->St->List Addr->Prop
 | nil:SR K Hs H [] [] []
 | non {ρ:Env} {σ:St} {tot:List Addr} {o:Option V}:SR K Hs H ρ σ tot->SR K Hs H (none :: ρ) (o :: σ) tot
 | sh {ρ:Env} {σ:St} {tot:List Addr} {d:D} {v:V}:Rep K Hs d v->SR K Hs H ρ σ tot->SR K Hs H (some (.sh d) :: ρ) (some v :: σ) tot
 | xc {ρ:Env} {σ:St} {tot:List Addr} {a:Addr}:SR K Hs H ρ σ tot->SR K Hs H (some (.xc a) :: ρ) (some (.ref a) :: σ) tot
 | ow {ρ:Env} {σ:St} {tot As:List Addr} {fl:Bool} {d:D} {v:V}:As≠[]->RepO K Hs H fl d v As->SR K Hs H ρ σ tot->SR K Hs H (some (.ow fl d) :: ρ) (some v :: σ) (As++tot)
 | lk {ρ:Env} {σ:St} {tot As:List Addr} {a:Addr} {fl:Bool} {d:D}:As≠[]->RepO K Hs H fl d (.ref a) As->SR K Hs H ρ σ tot->SR K Hs H (some (.lk a fl d) :: ρ) (some (.ref a) :: σ) (As++tot)
structure Wf (Hs H:Hp):Prop where
 sub:Same Hs H
 tups:∀ a vs,H a=some (.tup vs)->Hs a=some (.tup vs)
structure SRel (K:PySem.W.Frag) (Hs:Hp) (ρ:Env) (σ:St) (H:Hp) (tot:List Addr):Prop where
 sr:SR K Hs H ρ σ tot
 wf:Wf Hs H
 nod:tot.Nodup
 own:∀ a∈tot,Hs a=none
structure Grow (Hs H Hs' H':Hp):Prop where
 all:Same H H'
 sh:Same Hs Hs'
 wf:Wf Hs' H'
 new:∀ a,Hs' a≠none->Hs a≠none\/H a=none
section
variable {K:PySem.W.Frag} {Hs H Hs' H' Hs'' H'':Hp}
theorem Grow.refl (w:Wf Hs H):Grow Hs H Hs H:=⟨Same.refl _,Same.refl _,w,fun _ h=>.inl h⟩
theorem Grow.trans (a:Grow Hs H Hs' H') (b:Grow Hs' H' Hs'' H''):Grow Hs H Hs'' H'' :=
 ⟨a.all.trans b.all,a.sh.trans b.sh,b.wf,fun c h=>by
  rcases b.new c h with h | h
  ·exact a.new c h
  ·exact .inr (a.all.free h)⟩
theorem Grow.hsn (g:Grow Hs H Hs' H') (h:Hs a=none) (h':H a≠none):Hs' a=none:=by
 cases e:Hs' a with
 | none=>rfl
 | some o =>
  rcases g.new a (by rw [e]; exact fun z=>nomatch z) with z | z
  ·exact absurd h z
  ·exact absurd z h'
theorem SR.own {ρ:Env} {σ:St} {tot:List Addr} (s:SR K Hs H ρ σ tot):∀ a∈tot,Own H a:=by
 induction s with
 | nil=>exact fun a h=>mem0 h
 | non _ ih=>exact ih
 | sh _ _ ih=>exact ih
 | xc _ ih=>exact ih
 | ow _ r _ ih=>exact fun a h=>(xai.mp h).elim (r.own a) (ih a)
 | lk _ r _ ih=>exact fun a h=>(xai.mp h).elim (r.own a) (ih a)
theorem SR.stay (s:Same Hs Hs') (r:SR K Hs H ρ σ tot):(∀ a∈tot,H' a=H a)->SR K Hs' H' ρ σ tot:=by
 induction r with
 | nil=>exact fun _=>.nil
 | non _ ih=>exact fun k=>.non (ih k)
 | sh h _ ih=>exact fun k=>.sh (h.same s) (ih k)
 | xc _ ih=>exact fun k=>.xc (ih k)
 | ow ne h _ ih=>exact fun k=>.ow ne (h.stay s fun a m=>k a (xay _ m)) (ih fun a m=>k a (xah _ m))
 | lk ne h _ ih=>exact fun k=>.lk ne (h.stay s fun a m=>k a (xay _ m)) (ih fun a m=>k a (xah _ m))
theorem SRel.grow (r:SRel K Hs ρ σ H tot) (g:Grow Hs H Hs' H'):SRel K Hs' ρ σ H' tot :=
 ⟨r.sr.stay g.sh fun a h=>by
  cases e:H a with
  | none=>exact absurd e (r.sr.own a h).ne
  | some o=>exact g.all a o e,g.wf,r.nod,fun a h=>g.hsn (r.own a h) (r.sr.own a h).ne⟩
theorem SR.length (s:SR K Hs H ρ σ tot):ρ.length=σ.length:=by
 induction s with
 | nil=>rfl
 | non _ ih=>exact congrArg (· + 1) ih
 | sh _ _ ih=>exact congrArg (· + 1) ih
 | xc _ ih=>exact congrArg (· + 1) ih
 | ow _ _ _ ih=>exact congrArg (· + 1) ih
 | lk _ _ _ ih=>exact congrArg (· + 1) ih
def wW (K:PySem.W.Frag) (Hs H:Hp) (tot:List Addr) (sl:Sl) (v:V):Prop:=match sl with
 | .sh d=>Rep K Hs d v
 | .ow fl d=>∃ As,As≠[]/\RepO K Hs H fl d v As/\∀ a∈As,a∈tot
 | .lk a fl d=>∃ As,As≠[]/\RepO K Hs H fl d v As/\v=.ref a/\∀ a∈As,a∈tot
 | .xc a=>v=.ref a
theorem wW.mono (h:wW K Hs H tot sl v) (m:∀ a∈tot,a∈tot'):wW K Hs H tot' sl v:=by
 cases sl with
 | sh d=>exact h
 | xc a=>exact h
 | ow fl d =>
  obtain ⟨As,ne,r,q⟩:=h
  exact ⟨As,ne,r,fun a ha=>m a (q a ha)⟩
 | lk a fl d =>
  obtain ⟨As,ne,r,e,q⟩:=h
  exact ⟨As,ne,r,e,fun a ha=>m a (q a ha)⟩
theorem SR.get {ρ:Env} {σ:St} {tot:List Addr} {i:Nat} {sl:Sl} (s:SR K Hs H ρ σ tot) (e:ρ[i]? = some (some sl)):∃ v,σ[i]? = some (some v)/\wW K Hs H tot sl v:=by
 induction s generalizing i with
 | nil=>simp at e
 | non s ih =>
  cases i with
  | zero=>simp at e
  | succ i=>exact ih e
 | sh r s ih =>
  cases i with
  | zero=>simp at e; subst e; exact ⟨_,rfl,r⟩
  | succ i=>exact ih e
 | xc s ih =>
  cases i with
  | zero=>simp at e; subst e; exact ⟨_,rfl,rfl⟩
  | succ i=>exact ih e
 | ow ne r s ih =>
  cases i with
  | zero=>simp at e; subst e; exact ⟨_,rfl,_,ne,r,fun a m=>xay _ m⟩
  | succ i =>
   obtain ⟨v,e1,h⟩:=ih e
   exact ⟨v,e1,h.mono fun a m=>xah _ m⟩
 | lk ne r s ih =>
  cases i with
  | zero=>simp at e; subst e; exact ⟨_,rfl,_,ne,r,rfl,fun a m=>xay _ m⟩
  | succ i =>
   obtain ⟨v,e1,h⟩:=ih e
   exact ⟨v,e1,h.mono fun a m=>xah _ m⟩
end
inductive Md where
 | sh | ow (fl:Bool) | bo
def RM (K:PySem.W.Frag) (Hs H:Hp):Md->D->V->List Addr->Prop
 | .sh,d,v,As=>As=[]/\Rep K Hs d v
 | .ow fl,d,v,As=>RepO K Hs H fl d v As/\As≠[]
 | .bo,d,v,As=>As=[]/\Rep K H d v
inductive RMs (K:PySem.W.Frag) (Hs H:Hp):List (Md × D)->List V->List Addr->Prop
 | nil:RMs K Hs H [] [] []
 | cons {m:Md} {d:D} {v:V} {ps:List (Md × D)} {vs:List V} {As Bs:List Addr}:RM K Hs H m d v As->RMs K Hs H ps vs Bs->RMs K Hs H ((m,d) :: ps) (v :: vs) (As++Bs)
section
variable {K:PySem.W.Frag} {Hs H Hs' H':Hp}
theorem RM.own {m:Md} {d:D} {v:V} {As:List Addr} (r:RM K Hs H m d v As):∀ a∈As,Own H a:=by
 cases m with
 | sh=>obtain ⟨rfl,_⟩:=r; exact fun a h=>mem0 h
 | ow fl=>exact RepO.own r.1
 | bo=>obtain ⟨rfl,_⟩:=r; exact fun a h=>mem0 h
theorem RM.grow (r:RM K Hs H m d v As) (g:Grow Hs H Hs' H'):RM K Hs' H' m d v As:=by
 cases m with
 | sh=>exact ⟨r.1,r.2.same g.sh⟩
 | ow fl=>exact ⟨RepO.grow g.sh g.all r.1,r.2⟩
 | bo=>exact ⟨r.1,r.2.same g.all⟩
theorem RM.rep (w:Wf Hs H) (r:RM K Hs H m d v As):Rep K H d v:=by
 cases m with
 | sh=>exact r.2.same w.sub
 | ow fl=>exact RepO.rep w.sub r.1 fun _ _=>rfl
 | bo=>exact r.2
theorem RM.flat (w:Wf Hs H) (r:RM K Hs H m d v As) (f:d.flat=true):Rep K Hs d v:=(r.rep w).gn w.tups f
theorem RMs.reps (w:Wf Hs H) {ps:List (Md × D)} (r:RMs K Hs H ps vs As):Reps K H (ps.map (·.2)) vs:=by
 induction r with
 | nil=>exact .nil
 | cons r _ ih=>exact .cons (r.rep w) ih
end
abbrev WE:=Env->(Md->D->Prop)->Prop
abbrev WT:=Env->(Bool->Prop)->Prop
abbrev WA:=Env->(List (Md × D)->Prop)->Prop
structure lK where
 nx:Env->Prop
 rt:Md->D->Prop
 bk:Env->Prop:=fun _=>False
 ct:Env->Prop:=fun _=>False
abbrev WS:=lK->Env->Prop
def cG (Hs' H:Hp) (As:List Addr):Prop:=As.Nodup/\∀ a∈As,Hs' a=none/\H a=none
def tpE (K:PySem.W.Frag) (t:WE):TE:=fun σ H Qv=>∃ Hs ρ tot Q,SRel K Hs ρ σ H tot/\t ρ Q /\
 ∀ v H' Hs' m d As,Grow Hs H Hs' H'->RM K Hs' H' m d v As->cG Hs' H As->Q m d->Qv v H'
def tpT (K:PySem.W.Frag) (t:WT):TT:=fun σ H Qv=>∃ Hs ρ tot Q,SRel K Hs ρ σ H tot/\t ρ Q/\∀ b H' Hs',Grow Hs H Hs' H'->Q b->Qv b H'
def tpA (K:PySem.W.Frag) (t:WA):TA:=fun σ H Qv=>∃ Hs ρ tot Q,SRel K Hs ρ σ H tot/\t ρ Q /\
 ∀ vs H' Hs' ps As,Grow Hs H Hs' H'->RMs K Hs' H' ps vs As->cG Hs' H As->Q ps->Qv vs H'
def tpS (K:PySem.W.Frag) (L:Str->Hp->Prop) (t:WS):TS:=fun D σ H=>∃ Hs ρ tot E,SRel K Hs ρ σ H tot/\t E ρ /\
 (∀ σ' H' Hs' ρ' tot',Same Hs Hs'->SRel K Hs' ρ' σ' H' tot'->E.nx ρ'->D.nx σ' H') /\
 (∀ σ' H' Hs' ρ' tot',Same Hs Hs'->SRel K Hs' ρ' σ' H' tot'->E.bk ρ'->D.bk σ' H') /\
 (∀ σ' H' Hs' ρ' tot',Same Hs Hs'->SRel K Hs' ρ' σ' H' tot'->E.ct ρ'->D.ct σ' H') /\
 (∀ v H' Hs' m d As,Same Hs Hs'->Wf Hs' H'->RM K Hs' H' m d v As->As.Nodup->(∀ a∈As,Hs' a=none)->E.rt m d->D.rt v H') /\
 ∀ n H',Same Hs H'->E.rt (.ow false) (.str n)->L n H'
theorem mq {K:PySem.W.Frag} {L:Str->Hp->Prop} {t:WS} {D:Ends} {σ:St} {H:Hp} {G:Prop} (x:tpS K L t D σ H) (k:∀ Hs ρ tot E,SRel K Hs ρ σ H tot->t E ρ ->
 (∀ σ' H' Hs' ρ' tot',Same Hs Hs'->SRel K Hs' ρ' σ' H' tot'->E.nx ρ'->D.nx σ' H') ->
 (∀ σ' H' Hs' ρ' tot',Same Hs Hs'->SRel K Hs' ρ' σ' H' tot'->E.bk ρ'->D.bk σ' H') ->
 (∀ σ' H' Hs' ρ' tot',Same Hs Hs'->SRel K Hs' ρ' σ' H' tot'->E.ct ρ'->D.ct σ' H') ->
 (∀ v H' Hs' m d As,Same Hs Hs'->Wf Hs' H'->RM K Hs' H' m d v As->As.Nodup->(∀ a∈As,Hs' a=none)->E.rt m d->D.rt v H') ->
 (∀ n H',Same Hs H'->E.rt (.ow false) (.str n)->L n H')->G):G :=
 by
 obtain ⟨Hs,ρ,tot,E,sr,h,k1,k2,k3,k4,kx⟩:=x
 exact k Hs ρ tot E sr h k1 k2 k3 k4 kx
theorem eX {K:PySem.W.Frag} {L:Str->Hp->Prop} {t:WS} {D:Ends} {σ:St} {H:Hp} {G:Prop} (x:tpS K L t D σ H) (k:∀ Hs ρ tot E,SRel K Hs ρ σ H tot->t E ρ ->
 (∀ σ' H' Hs' ρ' tot',Same Hs Hs'->SRel K Hs' ρ' σ' H' tot'->E.nx ρ'->D.nx σ' H') ->
 (∀ σ' H' Hs' ρ' tot',Same Hs Hs'->SRel K Hs' ρ' σ' H' tot'->E.bk ρ'->D.bk σ' H') ->
 (∀ σ' H' Hs' ρ' tot',Same Hs Hs'->SRel K Hs' ρ' σ' H' tot'->E.ct ρ'->D.ct σ' H') ->
 (∀ v H' Hs' m d As,Same Hs Hs'->Wf Hs' H'->RM K Hs' H' m d v As->As.Nodup->(∀ a∈As,Hs' a=none)->E.rt m d->D.rt v H')->G):G :=
 mq x fun Hs ρ tot E sr h k1 k2 k3 k4 _=>k Hs ρ tot E sr h k1 k2 k3 k4
theorem ex4 {α β γ δ:Type _} {A B C:α->β->γ->δ->Prop} {G:Prop} (x:∃ a b c d,A a b c d/\B a b c d/\C a b c d) (k:∀ a b c d,A a b c d->B a b c d->C a b c d->G):G :=
 by
 obtain ⟨a,b,c,d,p,q,r⟩:=x
 exact k a b c d p q r
abbrev QE (X:Cx) (K:PySem.W.Frag) (e:Expr) (t:WE):Prop:=PE X e (tpE K t)
abbrev QT (X:Cx) (K:PySem.W.Frag) (e:Expr) (t:WT):Prop:=PT X e (tpT K t)
abbrev QW (X:Cx) (K:PySem.W.Frag) (e:Expr) (t:WT):Prop:=PW X e (tpT K t)
abbrev QA (X:Cx) (K:PySem.W.Frag) (es:List Expr) (t:WA):Prop:=PA X es (tpA K t)
abbrev QS (X:Cx) (K:PySem.W.Frag) (L:Str->Hp->Prop) (st:Stmt) (t:WS):Prop:=PS X st (tpS K L t)
abbrev QSs (X:Cx) (K:PySem.W.Frag) (L:Str->Hp->Prop) (st:List Stmt) (t:WS):Prop:=PSs X st (tpS K L t)
abbrev L0:Str->Hp->Prop:=fun _ _=>True
end L2.Q
namespace L2.Q
open PySem PySem.Spec PyProof.Rows
structure Kt {α:Type} (f:α->Prop):Type where
def onK {α:Type} (a:α) {f:α->Prop} (_:Kt f):Prop:=f a
mutual
def D.py:D->PyData
 | .non=>.none
 | .bl b=>.bool b
 | .int i=>.int i
 | .str x=>.str x
 | .list xs=>.list (pys xs)
 | .tup xs=>.tuple (pys xs)
 | .dK _=>.none
 | .dT _=>.none
def pys:List D->List PyData
 | []=>[]
 | x :: xs=>x.py :: pys xs
end
def okD:Nat->D->Bool
 | _,.non=>true
 | _,.bl _=>true
 | _,.int _=>true
 | _,.str x=>PyData.strOk x
 | n+1,.list xs=>xs.all (okD n)
 | n+1,.tup xs=>xs.all (okD n)
 | _,_=>false
def eqD (x y:D):Bool:=PyData.eqv x.py y.py
def D.ty:D->String
 | .non => "NoneType"
 | .bl _ => "bool"
 | .int _ => "int"
 | .str _ => "str"
 | .list _ => "list"
 | .tup _ => "tuple"
 | .dK _ => "dict"
 | .dT _ => "dict"
def D.key1:D->Option Key
 | .int i=>some (.inl i)
 | .str x=>some (.inr x)
 | _=>none
def gq:List D->Option (List Key)
 | []=>some []
 | x :: xs=>match x.key1,gq xs with
  | some k,some ks=>some (k :: ks)
  | _,_=>none
section
variable {κ:Type} [DecidableEq κ] {β:Type}
def getG (kvs:List (κ × β)) (k:κ):Option β:=(kvs.find? fun kv=>decide (kv.1=k)).map (·.2)
def putG (kvs:List (κ × β)) (k:κ) (v:β):List (κ × β) :=
 if (kvs.any fun kv=>decide (kv.1=k))=true then kvs.map (fun kv=>if kv.1=k then (kv.1,v) else kv) else kvs++[(k,v)]
end
theorem Rep.l22 {K:PySem.W.Frag}:(∀ {d:D} {v:V},Rep K H d v->∀ n,okD n d=true->L2.Rep K H d.py v)/\∀ {ds:List D} {vs:List V},Reps K H ds vs->∀ n,(∀ d∈ds,okD n d=true)->L2.Reps K H (pys ds) vs :=
 Rep.ind (m1:=fun d v=>∀ n,okD n d=true->L2.Rep K H d.py v) (m2:=fun ds vs=>∀ n,(∀ d∈ds,okD n d=true)->L2.Reps K H (pys ds) vs) (fun _ _=>.none) (fun b _ _=>.bool b) (fun i _ _=>.int i) (fun _ _ _ _=>.str _)
  (fun _ _ _ _ h _ ih n o=>by
   cases n with
   | zero=>simp [okD] at o
   | succ n=>exact .list h (ih n (by simpa [okD] using o)))
  (fun _ _ _ _ h _ ih n o=>by
   cases n with
   | zero=>simp [okD] at o
   | succ n=>exact .tuple (.inl (.inl h)) (ih n (by simpa [okD] using o)))
  (fun _ _ _ _ _ _ _ n o=>by cases n <;> simp [okD] at o) (fun _ _ _ _ _ _ _ n o=>by cases n <;> simp [okD] at o) (fun _ _=>.nil)
  fun _ _ _ _ _ _ i1 i2 n o=>.cons (i1 n (o _ xad)) (i2 n fun d m=>o d (xab _ m))
theorem Rep.l2 {K:PySem.W.Frag} (r:Rep K H d v) (o:okD n d=true):L2.Rep K H d.py v:=Rep.l22.1 r n o
theorem vN (ih:∀ d,okD n d=true->d.py.canLay0=true/\d.py.depth<=n) (xs:List D) (h:∀ x∈xs,okD n x=true):PyData.canLayAll0 (pys xs)=true/\PyData.depthAll (pys xs)<=n:=by
 induction xs with
 | nil=>exact ⟨rfl,xas _⟩
 | cons x xs ih2 =>
  have h1:=ih x (h x xad)
  have h2:=ih2 fun y hy=>h y (xab _ hy)
  simp only [pys,PyData.canLayAll0,PyData.depthAll,h1.1,h2.1,Bool.and_self,true_and]
  lia
theorem ir (n:Nat):∀ (d:D),okD n d=true->d.py.canLay0=true/\d.py.depth<=n:=by
 have st:∀ (n:Nat) (x:Str),okD n (.str x)=true->(D.str x).py.canLay0=true/\(D.str x).py.depth<=n:=fun n x h=>by
  have h:PyData.strOk x=true:=by cases n <;> simpa [okD] using h
  exact ⟨by simpa [D.py,PyData.canLay0] using h,xas _⟩
 induction n with
 | zero =>
  intro d h
  cases d with
  | str x=>exact st _ x h
  | non=>exact ⟨rfl,xas _⟩
  | bl _=>exact ⟨rfl,xas _⟩
  | int _=>exact ⟨rfl,xas _⟩
  | _=>simp [okD] at h
 | succ n ih =>
  intro d h
  cases d with
  | str x=>exact st _ x h
  | non=>exact ⟨rfl,xas _⟩
  | bl _=>exact ⟨rfl,xas _⟩
  | int _=>exact ⟨rfl,xas _⟩
  | list xs =>
   have h:∀ x∈xs,okD n x=true:=by simpa [okD] using h
   have:=vN ih xs h
   simp only [D.py,PyData.canLay0,PyData.depth]
   exact ⟨this.1,by lia⟩
  | tup xs =>
   have h:∀ x∈xs,okD n x=true:=by simpa [okD] using h
   have:=vN ih xs h
   simp only [D.py,PyData.canLay0,PyData.depth]
   exact ⟨this.1,by lia⟩
  | dK _=>simp [okD] at h
  | dT _=>simp [okD] at h
mutual
def D.nb:D->Bool
 | .bl _=>false
 | .list xs=>nbs xs
 | .tup xs=>nbs xs
 | .dK _=>false
 | .dT _=>false
 | _=>true
def nbs:List D->Bool
 | []=>true
 | x :: xs=>x.nb && nbs xs
end
mutual
theorem lV:∀ (x y:D),x.nb=true->y.nb=true->(eqD x y=true↔x=y)
 | .non,y,_,hy=>by cases y <;> simp_all [eqD,D.py,PyData.eqv,D.nb]
 | .bl _,y,hx,_=>by simp [D.nb] at hx
 | .int i,y,_,hy=>by cases y <;> simp_all [eqD,D.py,PyData.eqv,D.nb]
 | .str i,y,_,hy=>by cases y <;> simp_all [eqD,D.py,PyData.eqv,D.nb]
 | .dK _,y,hx,_=>by simp [D.nb] at hx
 | .dT _,y,hx,_=>by simp [D.nb] at hx
 | .list xs,y,hx,hy=>by
  cases y with
  | list ys =>
   have:=mR xs ys (by simpa [D.nb] using hx) (by simpa [D.nb] using hy)
   simp only [eqD,D.py,PyData.eqv,D.list.injEq]
   exact this
  | _=>simp_all [eqD,D.py,PyData.eqv,D.nb]
 | .tup xs,y,hx,hy=>by
  cases y with
  | tup ys =>
   have:=mR xs ys (by simpa [D.nb] using hx) (by simpa [D.nb] using hy)
   simp only [eqD,D.py,PyData.eqv,D.tup.injEq]
   exact this
  | _=>simp_all [eqD,D.py,PyData.eqv,D.nb]
theorem mR:∀ (xs ys:List D),nbs xs=true->nbs ys=true->(PyData.eqvAll (pys xs) (pys ys)=true↔xs=ys)
 | [],[],_,_=>by simp [pys,PyData.eqvAll]
 | [],_ :: _,_,_=>by simp [pys,PyData.eqvAll]
 | _ :: _,[],_,_=>by simp [pys,PyData.eqvAll]
 | x :: xs,y :: ys,hx,hy=>by
  simp only [nbs,xaB] at hx hy
  have h1:=lV x y hx.1 hy.1
  have h2:=mR xs ys hx.2 hy.2
  simp only [pys,PyData.eqvAll,xaB,List.cons.injEq]
  exact and_congr h1 h2
end
section
variable {K:PySem.W.Frag} {H:Hp}
theorem Rep.key (r:Rep K H d v) (h:d.key1=some k):v=kV k:=by
 cases r <;> simp [D.key1] at h <;> subst h <;> rfl
theorem Reps.keys (r:Reps K H ds vs) (h:gq ds=some ks):vs=ks.map kV:=by
 induction ds generalizing vs ks with
 | nil=>simp [gq] at h; subst h; exact r.n0
 | cons d ds ih =>
  obtain ⟨u,us,rfl,r,rs⟩:=r.c
  unfold gq at h
  cases e1:d.key1 with
  | none=>rw [e1] at h; simp at h
  | some k =>
   cases e2:gq ds with
   | none=>rw [e1,e2] at h; simp at h
   | some ks' =>
    rw [e1,e2] at h
    simp at h
    subst h
    rw [xat,r.key e1,ih rs e2]
theorem Rep.keyT (r:Rep K H (.tup ds) v) (h:gq ds=some ks):∃ b,v=.ref b/\H b=some (.tup (ks.map kV)):=by
 cases r with
 | tup _ e rs=>exact ⟨_,rfl,by rw [e,rs.keys h]⟩
end
section
variable {κ:Type} [DecidableEq κ] {K:PySem.W.Frag} {H:Hp}
theorem zip_get {k:κ} {kvs:List (κ × D)} {vs:List V} (h:Reps K H (kvs.map (·.2)) vs):match getG kvs k with
  | some d=>∃ v,valV ((kvs.map (·.1)).zip vs) k=some v/\Rep K H d v
  | none=>valV ((kvs.map (·.1)).zip vs) k=none:=by
 induction kvs generalizing vs with
 | nil=>rfl
 | cons p kvs ih =>
  obtain ⟨u,us,rfl,r,rs⟩:=Reps.c (d:=p.2) h
  by_cases e:p.1=k
  ·have e1:getG (p :: kvs) k=some p.2:=by simp [getG,e]
   rw [e1]
   exact ⟨_,by simp only [xat,xa4]; exact valV_pos e,r⟩
  ·have e1:getG (p :: kvs) k=getG kvs k:=by simp [getG,e]
   rw [e1]
   have:=ih rs
   simp only [xat,xa4,valV_neg (p:=(p.1,_)) e]
   exact this
theorem Bb {k:κ} {kvs:List (κ × D)} {vs:List V} (h:kvs.length=vs.length):((kvs.map (·.1)).zip vs).any (fun kv=>decide (kv.1=k))=kvs.any fun kv=>decide (kv.1=k):=by
 induction kvs generalizing vs with
 | nil=>rfl
 | cons p kvs ih =>
  cases vs with
  | nil=>simp at h
  | cons v vs =>
   simp only [xat,xa4,xbI]
   rw [ih (vs:=vs) (by simpa using h)]
end
section
variable {K:PySem.W.Frag} {Hs H:Hp}
theorem newL (w:Wf Hs H) (hp:H p=none) (ho:∀ vs,o≠.tup vs):Grow Hs H Hs (upd H p o) :=
 ⟨(Same.refl H).upd hp,Same.refl _,⟨w.sub.upd hp,fun a vs e=>by
  by_cases h:a=p
  ·subst h; rw [upd_same] at e; exact absurd (Option.some.inj e) (ho vs)
  ·rw [upd_ne h] at e; exact w.tups a vs e⟩,fun _ h=>.inl h⟩
theorem newT (w:Wf Hs H) (hp:H p=none):Grow Hs H (upd Hs p (.tup vs)) (upd H p (.tup vs)) :=
 ⟨(Same.refl H).upd hp,(Same.refl Hs).upd (w.sub.free hp),⟨fun a o e=>by
  by_cases h:a=p
  ·subst h; rw [upd_same] at e ⊢; exact e
  ·rw [upd_ne h] at e ⊢; exact w.sub a o e,fun a vs e=>by
  by_cases h:a=p
  ·subst h; rw [upd_same] at e ⊢; exact e
  ·rw [upd_ne h] at e ⊢; exact w.tups a vs e⟩,fun a h=>by
  by_cases e:a=p
  ·subst e; exact .inr hp
  ·rw [upd_ne e] at h; exact .inl h⟩
theorem cG.nil:cG Hs H []:=⟨xaR,fun a h=>nomatch h⟩
theorem cG.of (s:Same H H') (f:cG Hs H' As):cG Hs H As:=⟨f.1,fun a h=>⟨(f.2 a h).1,s.free (f.2 a h).2⟩⟩
abbrev Fin (K:PySem.W.Frag) (Hs H:Hp) (Qd:Md->D->Prop) (Qv:VK):Prop:=∀ v H' Hs' m d As,Grow Hs H Hs' H'->RM K Hs' H' m d v As->cG Hs' H As->Qd m d->Qv v H'
theorem Fin.after (f:Fin K Hs H Qd Qv) (g:Grow Hs H Hs' H'):Fin K Hs' H' Qd Qv:=fun v H2 Hs2 m d As g2 r fr q=>f v H2 Hs2 m d As (g.trans g2) r (fr.of g.all) q
theorem Fin.sh (f:Fin K Hs H Qd Qv) (w:Wf Hs H) (r:Rep K Hs d v) (q:Qd .sh d):Qv v H:=f v H Hs .sh d [] (Grow.refl w) ⟨rfl,r⟩ cG.nil q
theorem Fin.flat (f:Fin K Hs H Qd Qv) (w:Wf Hs H) (r:Rep K H d v) (hf:d.flat=true) (q:Qd .sh d):Qv v H:=f.sh w (r.gn w.tups hf) q
theorem Fin.bo (f:Fin K Hs H Qd Qv) (w:Wf Hs H) (r:Rep K H d v) (q:Qd .bo d):Qv v H:=f v H Hs .bo d [] (Grow.refl w) ⟨rfl,r⟩ cG.nil q
def itm (m:Md) (d:D):Md:=match m with
 | .sh=>.sh
 | _=>bif d.flat then .sh else .bo
theorem Fin.itm (f:Fin K Hs H Qd Qv) (w:Wf Hs H) (r:Rep K H d v) (rs:m=.sh->Rep K Hs d v) (q:Qd (itm m d) d):Qv v H:=by
 cases m with
 | sh=>exact f.sh w (rs rfl) q
 | ow fl =>
  cases hf:d.flat with
  | true=>exact f.flat w r hf (by simpa [Q.itm,hf] using q)
  | false=>exact f.bo w r (by simpa [Q.itm,hf] using q)
 | bo =>
  cases hf:d.flat with
  | true=>exact f.flat w r hf (by simpa [Q.itm,hf] using q)
  | false=>exact f.bo w r (by simpa [Q.itm,hf] using q)
theorem Fin.lst (f:Fin K Hs H Qd Qv) (w:Wf Hs H) (hz:ds.length<=sizeLine) (r:Reps K H ds vs) (hf:flats ds=true) (q:Qd (.ow true) (.list ds)):∀ p,H p=none->Qv (.ref p) (upd H p (.lst vs)):=fun p hp =>
 f _ _ Hs (.ow true) (.list ds) [p] (newL w hp fun _ z=>nomatch z) ⟨.list (by rw [<- r.length]; exact hz) upd_same ((r.gn w.tups hf).owned hf),by simp⟩ ⟨by simp,fun a h=>by
  obtain rfl:a=p:=by simpa using h
  exact ⟨w.sub.free hp,hp⟩⟩ q
theorem Fin.lstS (f:Fin K Hs H Qd Qv) (w:Wf Hs H) (hz:ds.length<=sizeLine) (r:Reps K Hs ds vs) (q:Qd (.ow false) (.list ds)):∀ p,H p=none->Qv (.ref p) (upd H p (.lst vs)):=fun p hp =>
 f _ _ Hs (.ow false) (.list ds) [p] (newL w hp fun _ z=>nomatch z) ⟨.list (by rw [<- r.length]; exact hz) upd_same r.BX,by simp⟩ ⟨by simp,fun a h=>by
  obtain rfl:a=p:=by simpa using h
  exact ⟨w.sub.free hp,hp⟩⟩ q
theorem Fin.tup (f:Fin K Hs H Qd Qv) (w:Wf Hs H) (hz:ds.length<=sizeLine) (r:Reps K H ds vs) (hf:flats ds=true) (q:Qd .sh (.tup ds)):∀ p,H p=none->Qv (.ref p) (upd H p (.tup vs)):=fun p hp =>
 f _ _ (upd Hs p (.tup vs)) .sh (.tup ds) [] (newT w hp) ⟨rfl,.tup (by rw [<- r.length]; exact hz) upd_same ((r.gn w.tups hf).same ((Same.refl Hs).upd (w.sub.free hp)))⟩ cG.nil q
end
section
variable {X:Cx} {K:PySem.W.Frag}
theorem PE.imp (h:PE X e te) (i:∀ σ H Q,te' σ H Q->te σ H Q):PE X e te':=fun pins s σ H Q I q=>h pins s σ H Q I (i σ H Q q)
theorem PT.imp (h:PT X e te) (i:∀ σ H Q,te' σ H Q->te σ H Q):PT X e te':=fun pins s σ H Q I q=>h pins s σ H Q I (i σ H Q q)
theorem PW.imp (h:PW X e te) (i:∀ σ H Q,te' σ H Q->te σ H Q):PW X e te':=fun wh pins s σ H Q I q=>h wh pins s σ H Q I (i σ H Q q)
theorem PA.imp (h:PA X e te) (i:∀ σ H Q,te' σ H Q->te σ H Q):PA X e te':=fun p pins s σ H Q I q=>h p pins s σ H Q I (i σ H Q q)
def useS:Option (Option Sl)->(Md->D->Prop)->Prop
 | some (some (.sh d)),Q=>Q .sh d
 | some (some (.ow _ d)),Q=>Q .bo d
 | some (some (.lk _ _ d)),Q=>Q .bo d
 | _,_=>False
def wVar (i:Nat):WE:=fun ρ Q=>useS ρ[i]? Q
theorem Gh (h:PE X e (tVar i)):QE X K e (wVar i):=by
 refine PE.imp h fun σ H Qv hx=>ex4 hx fun Hs ρ tot Q sr h f=>?_
 unfold wVar at h
 cases e:ρ[i]? with
 | none=>rw [e] at h; exact h.elim
 | some o =>
  cases o with
  | none=>rw [e] at h; exact h.elim
  | some sl =>
   obtain ⟨v,e1,r⟩:=sr.sr.get e
   rw [e] at h
   cases sl with
   | sh d=>exact ⟨v,e1,Fin.sh f sr.wf r h⟩
   | xc a=>exact h.elim
   | ow fl d =>
    obtain ⟨As,_,r,_⟩:=r
    exact ⟨v,e1,Fin.bo f sr.wf (r.rep sr.wf.sub fun _ _=>rfl) h⟩
   | lk a fl d =>
    obtain ⟨As,_,r,_⟩:=r
    exact ⟨v,e1,Fin.bo f sr.wf (r.rep sr.wf.sub fun _ _=>rfl) h⟩
theorem qv (i:Nat) (hN:X.N[i]? = some x:=by rfl) (hv:Vis X.env.scope x:=by first | exact Or.inl rfl | exact Or.inr (Or.inl rfl) | exact Or.inr (Or.inr rfl)) (hd:(x == ("__debug__" : Str))=false:=by decide)
  (hcd:(x == ("__classdict__" : Str))=false:=by decide):QE X K (.Name x pos) (wVar i):=Gh (pe_var hN hv hd hcd)
def wC (d:D):WE:=fun _ Q=>Q .sh d
theorem zx (h:PE X e (tC v)) (r:∀ H,Rep K H d v):QE X K e (wC d) :=
 PE.imp h fun σ H Qv hx=>ex4 hx fun Hs ρ tot Q sr h f=>Fin.sh f sr.wf (r _) h
theorem ao {i j pos}:QE X K (.Constant (.int i) j pos) (wC (.int i)):=zx pe_int fun _=>.int i
theorem tE {i j pos} (h:i.length<=sizeLine:=by decide):QE X K (.Constant (.str i) j pos) (wC (.str i)):=zx pe_str fun _=>.str h
theorem q_bl {i j pos}:QE X K (.Constant (.bool i) j pos) (wC (.bl i)):=zx pe_bl fun _=>.bl i
abbrev W2:=Md->D->Md->D->(Md->D->Prop)->Prop
abbrev W1:=Md->D->(Md->D->Prop)->Prop
def Br2 (K:PySem.W.Frag) (r:R2) (f:W2):Prop:=∀ Hs H m x v As n y u Bs Qd Qv,Wf Hs H->RM K Hs H m x v As->RM K Hs H n y u Bs->f m x n y Qd->Fin K Hs H Qd Qv->r v u H Qv
def Br1 (K:PySem.W.Frag) (r:V->Hp->VK->Prop) (f:W1):Prop:=∀ Hs H m x v As Qd Qv,Wf Hs H->RM K Hs H m x v As->f m x Qd->Fin K Hs H Qd Qv->r v H Qv
def wOp (f:W2) (ta tb:WE):WE:=fun ρ Q=>ta ρ fun m x=>tb ρ fun n y=>f m x n y Q
def wUn (f:W1) (ta:WE):WE:=fun ρ Q=>ta ρ fun m x=>f m x Q
variable {a b:Expr} {ta tb:WE} {pos:Pos}
theorem jy (br:Br2 K r f) (σ:St) (H:Hp) (Qv:VK) (h:tpE K (wOp f ta tb) σ H Qv):tOp r (tpE K ta) (tpE K tb) σ H Qv:=by
 obtain ⟨Hs,ρ,tot,Q,sr,h,fin⟩:=h
 refine ⟨Hs,ρ,tot,_,sr,h,fun v H1 Hs1 m x As g1 r1 f1 q1=>⟨Hs1,ρ,tot,_,sr.grow g1,q1,fun u H2 Hs2 n y Bs g2 r2 f2 q2=>?_⟩⟩
 exact br Hs2 H2 m x v As n y u Bs Q Qv g2.wf (r1.grow g2) r2 q2 (Fin.after fin (g1.trans g2))
theorem q_op (ho:OpR X (binaryOp op) r) (br:Br2 K r f) (ha:QE X K a ta) (hb:QE X K b tb):QE X K (.BinOp a op b pos) (wOp f ta tb):=PE.imp (pe_op ho ha hb) (jy br)
theorem q_un (ho:UnR X (unaryOp op) r) (br:Br1 K r f) (ha:QE X K a ta):QE X K (.UnaryOp op a pos) (wUn f ta):=by
 refine PE.imp (pe_un ho ha) fun σ H Qv hx=>ex4 hx fun Hs ρ tot Q sr h fin=>?_
 exact ⟨Hs,ρ,tot,_,sr,h,fun v H1 Hs1 m x As g1 r1 f1 q1=>br Hs1 H1 m x v As Q Qv g1.wf r1 q1 (Fin.after fin g1)⟩
theorem wU (ho:OpR X (compareOp op) r) (br:Br2 K r f) (ha:QE X K a ta) (hb:QE X K b tb) (hm:behindInMarks op b=false):QE X K (.Compare a [op] [b] pos) (wOp f ta tb):=PE.imp (pe_cmpR ho ha hb hm) (jy br)
def wB (t:WE):WT:=fun ρ Q=>t ρ fun _ x=>match x with
 | .bl b=>Q b
 | _=>False
theorem cN (ho:OpR X (compareOp op) r) (br:Br2 K r f) (ha:QE X K a ta) (hb:QE X K b tb) (hm:behindInMarks op b=false):QT X K (.Compare a [op] [b] pos) (wB (wOp f ta tb)):=by
 refine PT.imp (pt_cmpR ho ha hb hm) fun σ H Qv h=>?_
 obtain ⟨Hs,ρ,tot,Q,sr,h,fin⟩:=h
 refine jy br σ H _ ⟨Hs,ρ,tot,_,sr,h,fun v H1 Hs1 m x As g1 r1 f1 q1=>?_⟩
 have r:=r1.rep g1.wf
 cases r with
 | bl b=>exact ⟨b,rfl,fin b H1 Hs1 g1 q1⟩
 | _=>exact q1.elim
end
end L2.Q
namespace L2.Q
open PySem PySem.Spec PyProof.Rows
section
variable {X:Cx} {K:PySem.W.Frag} {a b c:Expr} {pos:Pos}
def wAnd (t u:WT):WT:=fun ρ Q=>t ρ fun c=>if c=true then u ρ Q else Q false
def wOr (t u:WT):WT:=fun ρ Q=>t ρ fun c=>if c=true then Q true else u ρ Q
variable {tA tB:WT} {rest:List Expr}
theorem q_ {t u:WT} {f:Bool->TT} {σ:St} {H:Hp} {Qv:Bool->Hp->Prop} {G:Bool->(Bool->Prop)->Env->Prop}
  (h:tpT K (fun ρ Q=>t ρ fun c=>G c Q ρ) σ H Qv)
  (i:∀ c H1 Hs1 ρ tot Q,SRel K Hs1 ρ σ H1 tot->G c Q ρ->(∀ b H' Hs',Grow Hs1 H1 Hs' H'->Q b->Qv b H')->f c σ H1 Qv):tpT K t σ H fun c H1=>f c σ H1 Qv:=by
 obtain ⟨Hs,ρ,tot,Q,sr,h,fin⟩:=h
 exact ⟨Hs,ρ,tot,_,sr,h,fun c H1 Hs1 g1 q1=>i c H1 Hs1 ρ tot Q (sr.grow g1) q1 fun b H' Hs' g2=>fin b H' Hs' (g1.trans g2)⟩
theorem Ah (ha:QT X K a tA):QW X K (.BoolOp .And [a] pos) tA:=pw_and1 ha
theorem DP (ha:QT X K a tA):QW X K (.BoolOp .Or [a] pos) tA:=pw_or1 ha
theorem DK (ha:QT X K a tA) (hb:QW X K (.BoolOp .And (b :: rest) pos) tB):QW X K (.BoolOp .And (a :: b :: rest) pos) (wAnd tA tB):=by
 refine PW.imp (pw_and ha hb) fun σ H Qv h=>?_
 refine q_ (u:=tB) (f:=fun c σ H1 Q=>if c=true then tpT K tB σ H1 Q else Q false H1) h fun c H1 Hs1 ρ tot Q sr q fin=>?_
 cases c with
 | true=>exact ⟨Hs1,ρ,tot,Q,sr,q,fin⟩
 | false=>exact fin false H1 Hs1 (Grow.refl sr.wf) q
theorem Er (ha:QT X K a tA) (hb:QW X K (.BoolOp .Or (b :: rest) pos) tB):QW X K (.BoolOp .Or (a :: b :: rest) pos) (wOr tA tB):=by
 refine PW.imp (pw_or ha hb) fun σ H Qv h=>?_
 refine q_ (u:=tB) (f:=fun c σ H1 Q=>if c=true then Q true H1 else tpT K tB σ H1 Q) h fun c H1 Hs1 ρ tot Q sr q fin=>?_
 cases c with
 | true=>exact fin true H1 Hs1 (Grow.refl sr.wf) q
 | false=>exact ⟨Hs1,ρ,tot,Q,sr,q,fin⟩
theorem qt_w (h:QW X K a tA):QT X K a tA:=h _
def truD:D->Option Bool
 | .non=>some false
 | .bl b=>some b
 | .int i=>some (i != 0)
 | .str x=>some ((x.length:Int) != 0)
 | .list xs=>some !xs.isEmpty
 | .tup xs=>some !xs.isEmpty
 | .dK kvs=>some !kvs.isEmpty
 | .dT kvs=>none
end
def fAdd:W2:=fun m x n y Q=>match x,y with
 | .int i,.int j=>Q .sh (.int (i+j))
 | .str i,.str j=>i.length+j.length<=sizeLine/\Q .sh (.str (i++j))
 | .list xs,.list ys=>xs.length+ys.length<=sizeLine/\((flats xs=true/\flats ys=true/\Q (.ow true) (.list (xs++ys)))\/(m=.sh/\n=.sh/\Q (.ow false) (.list (xs++ys))))
 | .tup xs,.tup ys=>xs≠[]/\xs.length+ys.length<=sizeLine/\flats xs=true/\flats ys=true/\Q .sh (.tup (xs++ys))
 | _,_=>False
def int2 (P:Int->Int->(Md->D->Prop)->Prop):W2:=fun _ x _ y Q=>match x,y with
 | .int i,.int j=>P i j Q
 | _,_=>False
def is2 (P:Int->Int->(Md->D->Prop)->Prop) (S:Str->Str->(Md->D->Prop)->Prop):W2:=fun _ x _ y Q=>match x,y with
 | .int i,.int j=>P i j Q
 | .str i,.str j=>S i j Q
 | _,_=>False
def fSub:W2:=int2 fun i j Q=>Q .sh (.int (i - j))
def fMul:W2:=int2 fun i j Q=>CMul i j/\Q .sh (.int (i * j))
def fDiv:W2:=int2 fun i j Q=>(0<j/\j<1073741824)/\Q .sh (.int (i / j))
def fMod:W2:=int2 fun i j Q=>0<j/\Q .sh (.int (i % j))
def fLt:W2:=is2 (fun i j Q=>Q .sh (.bl (decide (i<j)))) fun i j Q=>Q .sh (.bl (ltS i j))
def fGt:W2:=int2 fun i j Q=>Q .sh (.bl (decide (j<i)))
def fEq:W2:=fun _ x _ y Q=>match x,y with
 | .int i,.int j=>Q .sh (.bl (decide (i=j)))
 | .str i,.str j=>Q .sh (.bl (decide (i=j)))
 | .bl i,.bl j=>Q .sh (.bl (decide (i=j)))
 | _,_=>okD 12 x=true/\okD 12 y=true/\Q .sh (.bl (eqD x y))
def fNe:W2:=fun _ x _ y Q=>match x,y with
 | .int i,.int j=>Q .sh (.bl (!decide (i=j)))
 | .str i,.str j=>Q .sh (.bl (!decide (i=j)))
 | .bl i,.bl j=>Q .sh (.bl (!decide (i=j)))
 | _,_=>okD 12 x=true/\okD 12 y=true/\Q .sh (.bl (!eqD x y))
section
variable {K:PySem.W.Frag}
theorem Br2.flatV (h:∀ Hs H m x v As n y u Bs Qd Qv,Wf Hs H->RM K Hs H m x v As->RM K Hs H n y u Bs->f m x n y Qd->Fin K Hs H Qd Qv->r v u H Qv):Br2 K r f:=h
theorem zN (f:Fin K Hs H Qd Qv) (w:Wf Hs H) (h:x.length<=sizeLine) (q:Qd .sh (.str x)):Qv (.str x) H:=f.sh w (.str h) q
theorem cO (i j:Str):(i++j).length=i.length+j.length:=by
 show ((i++j).cps.size)=_
 show (i.cps++j.cps).size=_
 simp [Str.length]
theorem Br:Br2 K (fun x y H Q=>wO K x y H Q\/rCatT K x y H Q) fAdd:=by
 intro Hs H m x v As n y u Bs Qd Qv w rx ry h f
 have r1:=rx.rep w
 have r2:=ry.rep w
 unfold fAdd at h
 cases r1 with
 | int i=>cases r2 with
  | int j=>exact .inl (f.sh w (.int _) h)
  | _=>exact h.elim
 | str hi=>cases r2 with
  | str hj=>exact .inl ⟨h.1,zN f w (by rw [cO]; exact h.1) h.2⟩
  | _=>exact h.elim
 | list z1 s1 q1=>cases r2 with
  | list z2 s2 q2 =>
   have l1:=q1.length
   have l2:=q2.length
   have hz:=h.1
   rcases h.2 with ⟨f1,f2,q⟩ | ⟨rfl,rfl,q⟩
   ·refine .inl ⟨_,_,s1,s2,by lia,?_⟩
    exact f.lst w (by rw [xaU]; exact hz) (q1.append q2) (by rw [dO,f1,f2]; rfl) q
   ·obtain ⟨_,rx⟩:=rx
    obtain ⟨_,ry⟩:=ry
    cases rx with
    | list z1' s1' q1'=>cases ry with
     | list z2' s2' q2' =>
      have l1:=q1'.length
      have l2:=q2'.length
      refine .inl ⟨_,_,Same.seq w.sub s1',Same.seq w.sub s2',by lia,?_⟩
      exact f.lstS w (by rw [xaU]; exact hz) (q1'.append q2') q
  | _=>exact h.elim
 | tup t1 s1 q1=>cases r2 with
  | tup t2 s2 q2 =>
   have l1:=q1.length
   have l2:=q2.length
   obtain ⟨hne,hz,f1,f2,q⟩:=h
   refine .inr ⟨_,_,_,_,rfl,rfl,.inl (.inl s1),.inl (.inl s2),?_,by lia,?_⟩
   ·intro e
    subst e
    exact hne (xbF.mp l1)
   ·refine ⟨fun e=>?_,fun _=>f.tup w (by rw [xaU]; exact hz) (q1.append q2) (by rw [dO,f1,f2]; rfl) q⟩
    subst e
    cases q2
    rw [xaX] at q
    exact f.flat w (.tup t1 s1 q1) (by simpa [D.flat] using f1) q
  | _=>exact h.elim
 | _=>exact h.elim
theorem Dq {H:Hp} {x y:D} {v u:V} {m n:Md} {P:Int->Int->(Md->D->Prop)->Prop} {S:Str->Str->(Md->D->Prop)->Prop} {Q:Md->D->Prop} {G:Prop} (r1:Rep K H x v) (r2:Rep K H y u) (h:is2 P S m x n y Q) (k:∀ i j,v=.int i->u=.int j->P i j Q->G) (ks:∀ i j,v=.str i->u=.str j->S i j Q->G):G:=by
 cases r1 with
 | int i=>cases r2 with
  | int j=>exact k i j rfl rfl h
  | _=>exact h.elim
 | str hi=>cases r2 with
  | str hj=>exact ks _ _ rfl rfl h
  | _=>exact h.elim
 | _=>exact h.elim
theorem jb {H:Hp} {x y:D} {v u:V} {m n:Md} {P:Int->Int->(Md->D->Prop)->Prop} {Q:Md->D->Prop} {G:Prop} (r1:Rep K H x v) (r2:Rep K H y u) (h:int2 P m x n y Q) (k:∀ i j,v=.int i->u=.int j->P i j Q->G):G:=by
 cases r1 with
 | int i=>cases r2 with
  | int j=>exact k i j rfl rfl h
  | _=>exact h.elim
 | _=>exact h.elim
theorem By:Br2 K zH fSub:=by
 intro Hs H m x v As n y u Bs Qd Qv w rx ry h f
 exact jb (rx.rep w) (ry.rep w) h fun i j e1 e2 q=>by
  subst e1 e2
  exact f.sh w (.int _) q
theorem Dj:Br2 K zp fMul:=by
 intro Hs H m x v As n y u Bs Qd Qv w rx ry h f
 exact jb (rx.rep w) (ry.rep w) h fun i j e1 e2 q=>by
  subst e1 e2
  exact ⟨q.1,f.sh w (.int _) q.2⟩
theorem CN:Br2 K zA fDiv:=by
 intro Hs H m x v As n y u Bs Qd Qv w rx ry h f
 exact jb (rx.rep w) (ry.rep w) h fun i j e1 e2 q=>by
  subst e1 e2
  exact ⟨q.1,f.sh w (.int _) q.2⟩
theorem Cv:Br2 K Aw fMod:=by
 intro Hs H m x v As n y u Bs Qd Qv w rx ry h f
 exact jb (rx.rep w) (ry.rep w) h fun i j e1 e2 q=>by
  subst e1 e2
  exact ⟨q.1,f.sh w (.int _) q.2⟩
theorem Cu:Br2 K rGtU fGt:=by
 intro Hs H m x v As n y u Bs Qd Qv w rx ry h f
 exact jb (rx.rep w) (ry.rep w) h fun i j e1 e2 q=>by
  subst e1 e2
  exact f.sh w (.bl _) q
theorem Bt:Br2 K rLtU fLt:=by
 intro Hs H m x v As n y u Bs Qd Qv w rx ry h f
 exact Dq (rx.rep w) (ry.rep w) h (fun i j e1 e2 q=>by
  subst e1 e2
  exact f.sh w (.bl _) q) fun i j e1 e2 q=>by
  subst e1 e2
  exact f.sh w (.bl _) q
theorem eq_data (w:Wf Hs H) (rx:Rep K H x v) (ry:Rep K H y u) (f:Fin K Hs H Qd Qv) (h:okD 12 x=true/\okD 12 y=true/\Qd .sh (.bl (eqD x y))):rEqD K v u H Qv:=by
 obtain ⟨h1,h2,q⟩:=h
 have l1:=ir 12 x h1
 have l2:=ir 12 y h2
 exact ⟨x.py,y.py,rx.l2 h1,ry.l2 h2,l1.1,l2.1,by lia,f.sh w (.bl _) q⟩
theorem ne_data (w:Wf Hs H) (rx:Rep K H x v) (ry:Rep K H y u) (f:Fin K Hs H Qd Qv) (h:okD 12 x=true/\okD 12 y=true/\Qd .sh (.bl (!eqD x y))):rNeD K v u H Qv:=by
 obtain ⟨h1,h2,q⟩:=h
 have l1:=ir 12 x h1
 have l2:=ir 12 y h2
 exact ⟨x.py,y.py,rx.l2 h1,ry.l2 h2,l1.1,l2.1,by lia,f.sh w (.bl _) q⟩
theorem ju:Br2 K (rEqU K) fEq:=by
 intro Hs H m x v As n y u Bs Qd Qv w rx ry h f
 have r1:=rx.rep w
 have r2:=ry.rep w
 have d:=fun h=>eq_data (Qd:=Qd) (Qv:=Qv) w r1 r2 f h
 cases r1 with
 | int i=>cases r2 with
  | int j=>exact f.sh w (.bl _) h
  | _=>exact d h
 | str i=>cases r2 with
  | str j=>exact f.sh w (.bl _) h
  | _=>exact d h
 | bl i=>cases r2 with
  | bl j=>exact f.sh w (.bl _) h
  | _=>exact d h
 | _=>exact d h
theorem Ac:Br2 K (rNeU K) fNe:=by
 intro Hs H m x v As n y u Bs Qd Qv w rx ry h f
 have r1:=rx.rep w
 have r2:=ry.rep w
 have d:=fun h=>ne_data (Qd:=Qd) (Qv:=Qv) w r1 r2 f h
 cases r1 with
 | int i=>cases r2 with
  | int j=>exact f.sh w (.bl _) h
  | _=>exact d h
 | str i=>cases r2 with
  | str j=>exact f.sh w (.bl _) h
  | _=>exact d h
 | bl i=>cases r2 with
  | bl j=>exact f.sh w (.bl _) h
  | _=>exact d h
 | _=>exact d h
end
section
variable {X:Cx} {K:PySem.W.Frag} {a b:Expr} {ta tb:WE} {pos:Pos}
theorem Fe (hK:X.K=K:=by rfl):OpR X (binaryOp .Add) (fun x y H Q=>wO K x y H Q\/rCatT K x y H Q):=by subst hK; exact Ae.or op_catT
theorem aW (ha:QE X K a ta) (hb:QE X K b tb) (hK:X.K=K:=by rfl):QE X K (.BinOp a .Add b pos) (wOp fAdd ta tb):=q_op (Fe hK) Br ha hb
theorem vV (ha:QE X K a ta) (hb:QE X K b tb):QE X K (.BinOp a .Sub b pos) (wOp fSub ta tb):=q_op Bo By ha hb
theorem gF (ha:QE X K a ta) (hb:QE X K b tb):QE X K (.BinOp a .Mult b pos) (wOp fMul ta tb):=q_op zR Dj ha hb
theorem sE (ha:QE X K a ta) (hb:QE X K b tb):QE X K (.BinOp a .FloorDiv b pos) (wOp fDiv ta tb):=q_op zV CN ha hb
theorem lg (ha:QE X K a ta) (hb:QE X K b tb):QE X K (.BinOp a .Mod b pos) (wOp fMod ta tb):=q_op Ag Cv ha hb
def fNeg:W1:=fun _ x Q=>match x with
 | .int i=>Q .sh (.int (-i))
 | _=>False
theorem CW:Br1 K (rU fun i=>.int (-i)) fNeg:=by
 intro Hs H m x v As Qd Qv w rx h f
 have r1:=rx.rep w
 cases r1 with
 | int i=>exact ⟨i,rfl,f.sh w (.int _) h⟩
 | _=>exact h.elim
theorem Dv (ha:QE X K a ta):QE X K (.UnaryOp .USub a pos) (wUn fNeg ta):=q_un un_neg CW ha
end
def wNil:WA:=fun _ Q=>Q []
def aj (te:WE) (t:WA):WA:=fun ρ Q=>te ρ fun m x=>t ρ fun ps=>Q ((m,x) :: ps)
def okSh:Md × D->Bool
 | (.sh,_)=>true
 | (_,d)=>d.flat
def okOw:Md × D->Bool
 | (.bo,d)=>d.flat
 | _=>true
def okFl:Md × D->Bool
 | (.ow true,_)=>true
 | (_,d)=>d.flat
def rN (ps:List (Md × D)):Md:=bif ps.all okSh then .sh else bif ps.all okOw then .ow (ps.all okFl) else .bo
def zg (ps:List (Md × D)):Md:=bif ps.all okOw then .ow (ps.all okFl) else .bo
def wTup (t:WA):WE:=fun ρ Q=>t ρ fun ps=>ps.length<=sizeLine/\Q (rN ps) (.tup (ps.map (·.2)))
def wLst (t:WA):WE:=fun ρ Q=>t ρ fun ps=>ps.length<=sizeLine/\Q (zg ps) (.list (ps.map (·.2)))
section
variable {X:Cx} {K:PySem.W.Frag} {e:Expr} {es:List Expr} {te:WE} {t:WA} {pos:Pos} {Hs H:Hp}
theorem au:QA X K [] wNil:=PA.imp pa_nil fun σ H Qv hx=>ex4 hx fun Hs ρ tot Q sr h f=>f [] H Hs [] [] (Grow.refl sr.wf) .nil cG.nil h
theorem cG.app (f1:cG Hs1 H As) (o:∀ a∈As,H1 a≠none) (f2:cG Hs2 H1 Bs) (s:Same H H1) (k:∀ a,Hs1 a=none->H1 a≠none->Hs2 a=none):cG Hs2 H (As++Bs) :=
 ⟨xar.mpr ⟨f1.1,f2.1,fun a ha b hb e=>by subst e; exact o a ha (f2.2 a hb).2⟩,fun a h=>by
  rcases xai.mp h with h | h
  ·exact ⟨k a (f1.2 a h).1 (o a h),(f1.2 a h).2⟩
  ·exact ⟨(f2.2 a h).1,s.free (f2.2 a h).2⟩⟩
theorem aa (ha:QE X K e te) (hr:QA X K es t) (hs:starEach (e :: es) X.env=(false,eval e X.env) :: starEach es X.env:=by rfl):QA X K (e :: es) (aj te t):=by
 refine PA.imp (pa_cons ha hr hs) fun σ H Qv hx=>ex4 hx fun Hs ρ tot Q sr h f=>?_
 refine ⟨Hs,ρ,tot,_,sr,h,fun v H1 Hs1 m x As g1 r1 f1 q1=>⟨Hs1,ρ,tot,_,sr.grow g1,q1,fun vs H2 Hs2 ps Bs g2 r2 f2 q2=>?_⟩⟩
 exact f (v :: vs) H2 Hs2 _ _ (g1.trans g2) (.cons (r1.grow g2) r2) (f1.app (fun a h=>(r1.own a h).ne) f2 g1.all fun a h1 h2=>g2.hsn h1 h2) q2
theorem RMs.sh (w:Wf Hs H) {ps:List (Md × D)} (r:RMs K Hs H ps vs As):ps.all okSh=true->Reps K Hs (ps.map (·.2)) vs:=by
 induction r with
 | nil=>exact fun _=>.nil
 | @cons m d v ps vs As Bs r rs ih =>
  intro h
  simp only [xbH,xaB] at h
  refine .cons ?_ (ih h.2)
  cases m with
  | sh=>exact r.2
  | ow fl=>exact r.flat w h.1
  | bo=>exact r.flat w h.1
theorem RMs.ow (w:Wf Hs H) {ps:List (Md × D)} (r:RMs K Hs H ps vs As):ps.all okOw=true->(fl=true->ps.all okFl=true)->∃ Bs,Bs.Sublist As/\(ps.all okSh=false->Bs≠[])/\aA K Hs H fl (ps.map (·.2)) vs Bs:=by
 induction r with
 | nil=>exact fun _ _=>⟨[],xbi _,(fun z=>Bool.noConfusion z),.nil⟩
 | @cons m d v ps vs A1 Cs r rs ih =>
  intro h hf
  simp only [xbH,xaB] at h hf
  obtain ⟨Bs,sb,ne,q⟩:=ih h.2 fun z=>(hf z).2
  have sk:([]++Bs).Sublist (A1++Cs):=by simpa using sb.trans (xav _ _)
  have flt:d.flat=true->okSh (m,d)=true->∃ Bs,Bs.Sublist (A1++Cs)/\(((m,d) :: ps).all okSh=false->Bs≠[])/\aA K Hs H fl (((m,d) :: ps).map (·.2)) (v :: vs) Bs:=fun hd ho =>
   ⟨[]++Bs,sk,fun z=>ne (by rw [xbH,ho] at z; simpa using z),.cons (.sh (fun _=>hd) (r.flat w hd)) q⟩
  cases m with
  | sh=>exact ⟨[]++Bs,sk,fun z=>ne (by simpa [okSh] using z),.cons (.sh (fun z=>(hf z).1) r.2) q⟩
  | bo=>exact flt h.1 h.1
  | ow b =>
   cases hd:d.flat with
   | true=>exact flt hd hd
   | false =>
    refine ⟨A1++Bs,sb.append_left _,fun _ z=>r.2 (xbr.mp z).1,.cons ?_ q⟩
    cases fl with
    | false=>exact RepO.fls r.1
    | true =>
     have:=(hf rfl).1
     cases b with
     | true=>exact r.1
     | false=>simp [okFl,hd] at this
theorem mU:∀ {ps:List (Md × D)},flats (ps.map (·.2))=true->ps.all okSh=true
 | [],_=>rfl
 | (m,d) :: ps,h=>by
  simp only [xat,flats,xaB] at h
  simp only [xbH,xaB]
  exact ⟨by cases m <;> simp [okSh,h.1],mU h.2⟩
theorem gR {x1} (h:QA X K es t):QE X K (.Tuple es x1 pos) (wTup t):=by
 refine PE.imp (pe_tup h) fun σ H Qv hx=>ex4 hx fun Hs ρ tot Q sr h f=>?_
 refine ⟨Hs,ρ,tot,_,sr,h,fun vs H1 Hs1 ps As g1 r1 f1 q1=>?_⟩
 obtain ⟨hz,q⟩:=q1
 have rl:=(r1.reps g1.wf)
 have hl:=rl.length
 rw [xag] at hl
 refine ⟨by lia,fun p hp=>?_⟩
 have g2:=newT (vs:=vs) g1.wf hp
 have fin:=Fin.after f g1
 unfold rN at q
 cases h1:ps.all okSh with
 | true =>
  rw [h1] at q
  exact fin _ _ _ .sh _ [] g2 ⟨rfl,.tup (by lia) upd_same ((r1.sh g1.wf h1).same g2.sh)⟩ cG.nil q
 | false =>
  rw [h1] at q
  cases h2:ps.all okOw with
  | false =>
   rw [h2] at q
   exact fin _ _ _ .bo _ [] g2 ⟨rfl,.tup (by lia) upd_same (rl.same g2.all)⟩ cG.nil q
  | true =>
   rw [h2] at q
   obtain ⟨Bs,sb,nz,ro⟩:=r1.ow (fl:=ps.all okFl) g1.wf h2 fun z=>z
   have hne:flats (ps.map (·.2))=false:=by
    cases hf:flats (ps.map (·.2)) with
    | false=>rfl
    | true=>rw [mU hf] at h1; cases h1
   have own:=ro.own
   refine f _ _ _ (.ow _) _ Bs (g1.trans g2) ⟨.tup (by lia) upd_same hne (ro.grow g2.sh g2.all),nz h1⟩ ⟨sb.nodup f1.1,fun a ha=>⟨?_,(f1.2 a (sb.subset ha)).2⟩⟩ q
   exact g2.hsn (f1.2 a (sb.subset ha)).1 (own a ha).ne
theorem oK (h:QA X K es t):QE X K (.List es pos) (wLst t):=by
 refine PE.imp (pe_lst h) fun σ H Qv hx=>ex4 hx fun Hs ρ tot Q sr h f=>?_
 refine ⟨Hs,ρ,tot,_,sr,h,fun vs H1 Hs1 ps As g1 r1 f1 q1=>?_⟩
 obtain ⟨hz,q⟩:=q1
 have rl:=(r1.reps g1.wf)
 have hl:=rl.length
 rw [xag] at hl
 refine ⟨by lia,fun p hp=>?_⟩
 have g2:=newL (o:=.lst vs) g1.wf hp fun _ z=>nomatch z
 have fin:=Fin.after f g1
 unfold zg at q
 cases h2:ps.all okOw with
 | false =>
  rw [h2] at q
  exact fin _ _ _ .bo _ [] g2 ⟨rfl,.list (by lia) (.inl (.inl upd_same)) (rl.same g2.all)⟩ cG.nil q
 | true =>
  rw [h2] at q
  obtain ⟨Bs,sb,nz,ro⟩:=r1.ow (fl:=ps.all okFl) g1.wf h2 fun z=>z
  have own:=ro.own
  refine f _ _ _ (.ow _) _ (p :: Bs) (g1.trans g2) ⟨.list (by lia) upd_same (ro.grow g2.sh g2.all),by simp⟩ ⟨xaH.mpr ⟨fun m=>(own p m).ne hp,sb.nodup f1.1⟩,fun a ha=>?_⟩ q
  rcases xak.mp ha with rfl | ha
  ·exact ⟨g1.wf.sub.free hp,g1.all.free hp⟩
  ·exact ⟨g2.hsn (f1.2 a (sb.subset ha)).1 (own a ha).ne,(f1.2 a (sb.subset ha)).2⟩
end
theorem Reps.atI {K:PySem.W.Frag} (r:Reps K H ds vs) (h:atI ds i=some d):∃ v,L2.atI vs i=some v/\Rep K H d v:=by
 unfold L2.atI at *
 rw [<- r.length]
 cases e:ixN ds.length i with
 | none=>rw [e] at h; cases h
 | some j =>
  rw [e] at h
  exact r.get h
def fIx:W2:=fun m x _ y Q=>match x with
 | .list xs=>match y with
  | .int i=>∃ d,atI xs i=some d/\onK d (f:=fun d=>Q (itm m d) d) ⟨⟩
  | _=>False
 | .tup xs=>match y with
  | .int i=>∃ d,atI xs i=some d/\onK d (f:=fun d=>Q (itm m d) d) ⟨⟩
  | _=>False
 | .str z=>match y with
  | .int i=>∃ c,atI z.cps.toList i=some c/\Q .sh (.str ⟨#[c]⟩)
  | _=>False
 | .dK kvs=>∃ k d,y.key1=some k/\getG kvs k=some d/\onK d (f:=fun d=>Q (itm m d) d) ⟨⟩
 | .dT kvs=>match y with
  | .tup ys=>∃ ks d,gq ys=some ks/\getG kvs ks=some d/\onK d (f:=fun d=>Q (itm m d) d) ⟨⟩
  | _=>False
 | _=>False
def rIxD (K:PySem.W.Frag):R2:=fun x y H Q=>rIxU K x y H Q\/∃ a v,x=.ref a/\DGet H a y (some v)/\Q v H
theorem z8 (c:Nat):(⟨#[c]⟩:Str).length<=sizeLine:=by show 1<=sizeLine; decide
theorem RM.here {K:PySem.W.Frag} (w:Wf Hs H) (r:RM K Hs H m d v As):(m=.sh/\Rep K Hs d v)\/(m≠.sh/\Rep K H d v):=by
 cases m with
 | sh=>exact .inl ⟨rfl,r.2⟩
 | ow fl=>exact .inr ⟨(fun z=>nomatch z),r.rep w⟩
 | bo=>exact .inr ⟨(fun z=>nomatch z),r.2⟩
section
variable {X:Cx} {K:PySem.W.Frag}
theorem Ga:Br2 K (rIxD K) fIx:=by
 intro Hs H m x v As n y u Bs Qd Qv w rx ry h f
 have r2:=ry.rep w
 have core:∀ G:Hp,Same G H->(∀ d v,Rep K G d v->Rep K H d v/\(m=.sh->Rep K Hs d v))->Rep K G x v->rIxD K v u H Qv:=by
  intro G sg up r1
  cases r1 with
  | list z s q =>
   cases r2 with
   | int i =>
    obtain ⟨d,e,h⟩:=h
    obtain ⟨v',e',r'⟩:=q.atI e
    obtain ⟨u1,u2⟩:=up _ _ r'
    exact .inl (.inl ⟨_,v',Same.seq sg s,e',f.itm w u1 u2 h⟩)
   | _=>exact h.elim
  | tup _ s q =>
   cases r2 with
   | int i =>
    obtain ⟨d,e,h⟩:=h
    obtain ⟨v',e',r'⟩:=q.atI e
    obtain ⟨u1,u2⟩:=up _ _ r'
    exact .inl (.inr ⟨_,v',.inl (.inl (sg _ _ s)),e',f.itm w u1 u2 h⟩)
   | _=>exact h.elim
  | str hz =>
   cases r2 with
   | int i =>
    obtain ⟨c,e,h⟩:=h
    exact .inl ⟨hz,c,e,f.sh w (.str (z8 c)) h⟩
   | _=>exact h.elim
  | dK kk s q =>
   obtain ⟨k,d,hk,hg,h⟩:=h
   have ev:=r2.key hk
   subst ev
   have z:=zip_get (k:=k) q
   rw [hg] at z
   obtain ⟨v',e',r'⟩:=z
   obtain ⟨u1,u2⟩:=up _ _ r'
   exact .inr ⟨_,v',rfl,by rw [<- e']; exact DGet.k (sg _ _ s),f.itm w u1 u2 h⟩
  | dT kk s q =>
   cases r2 with
   | tup t2 e2 q2 =>
    obtain ⟨ks,d,hk,hg,h⟩:=h
    obtain ⟨b,eb,e3⟩:=Rep.keyT (.tup t2 e2 q2) hk
    cases eb
    have z:=zip_get (k:=ks) q
    rw [hg] at z
    obtain ⟨v',e',r'⟩:=z
    obtain ⟨u1,u2⟩:=up _ _ r'
    exact .inr ⟨_,v',rfl,by rw [<- e']; exact DGet.t (sg _ _ s) e3,f.itm w u1 u2 h⟩
   | _=>exact h.elim
  | _=>exact h.elim
 rcases rx.here w with ⟨hm,r⟩ | ⟨hm,r⟩
 ·exact core Hs w.sub (fun d v q=>And.intro (q.same w.sub) fun _=>q) r
 ·exact core H (Same.refl H) (fun d v q=>And.intro q fun z=>absurd z hm) r
theorem kIxD (hu:X.A.units+64<cLine) (hK:X.K=K:=by rfl):IxR X (rIxD K):=by
 subst hK
 refine IxR.or yH ?_
 intro value slice pins s σ H x y v u Q I rx ry h hs
 obtain ⟨a,w,rfl,g,q⟩:=h
 cases rx
 exact tail_any (dict_typeIs I g) F.slot_dict_getitem.lookup (d_getItem (by lia) I g ry fun w' s3 I3 rw'=>⟨w,H,I3,rw',q⟩) hs
variable {a b:Expr} {ta tb:WE} {pos:Pos}
theorem q_ix (hu:X.A.units+64<cLine) (ha:QE X K a ta) (hb:QE X K b tb) (hs:PlainIx b:=by exact fun _ _=>rfl) (hK:X.K=K:=by rfl):QE X K (.Subscript a b pos) (wOp fIx ta tb):=PE.imp (pe_ix (kIxD hu hK) ha hb hs) (jy Ga)
end
def cutG (xs:List α) (lo hi:Option Int):List α:=(xs.drop (HT.sIx xs.length 0 lo)).take (HT.sIx xs.length xs.length hi - HT.sIx xs.length 0 lo)
abbrev WO:=Env->(Option Int->Prop)->Prop
def jB:WO:=fun _ Q=>Q none
def nU (t:WE):WO:=fun ρ Q=>t ρ fun _ x=>match x with
 | .int i=>Q (some i)
 | _=>False
def fSl (m:Md) (x:D) (lo hi:Option Int) (Q:Md->D->Prop):Prop:=match x with
 | .str z=>Q .sh (.str (cutS z lo hi))
 | .list xs=>(flats xs=true/\Q (.ow true) (.list (cutG xs lo hi)))\/(m=.sh/\Q (.ow false) (.list (cutG xs lo hi)))
 | .tup xs=>flats xs=true/\¬ (HT.sIx xs.length 0 lo=0/\HT.sIx xs.length xs.length hi=xs.length)/\Q .sh (.tup (cutG xs lo hi))
 | _=>False
def wSl (te:WE) (tl th:WO):WE:=fun ρ Q=>te ρ fun m x=>tl ρ fun lo=>th ρ fun hi=>fSl m x lo hi Q
def tpO (K:PySem.W.Frag) (t:WO):TO:=fun σ H Qv=>∃ Hs ρ tot Q,SRel K Hs ρ σ H tot/\t ρ Q/\∀ o H' Hs',Grow Hs H Hs' H'->Q o->Qv o H'
abbrev QO (X:Cx) (K:PySem.W.Frag) (e:Option Expr) (t:WO):Prop:=PO X e (tpO K t)
theorem xV (z:Str) (lo hi:Option Int):(cutS z lo hi).length<=z.length:=by
 unfold cutS Str.length
 simp only [xaz,xaE,xa5,xa2]
 lia
theorem lY (xs:List α) (lo hi:Option Int):(cutG xs lo hi).length<=xs.length:=by
 unfold cutG
 rw [xaE,xa5]
 lia
theorem m_ {lo hi:Option Int} (h:flats xs=true):flats (cutG xs lo hi)=true:=by
 rw [iV] at *
 intro x hx
 exact h x (xce (xbR hx))
section
variable {X:Cx} {K:PySem.W.Frag} {e:Expr} {lo hi:Option Expr} {te:WE} {tl th:WO} {pos p2:Pos}
theorem ph:QO X K none jB:=fun pins s σ H Q I h=>po_none pins s σ H Q I (by
 obtain ⟨Hs,ρ,tot,Qd,sr,h,f⟩:=h
 exact f none H Hs (Grow.refl sr.wf) h)
theorem jm (h:QE X K e te):QO X K (some e) (nU te):=fun pins s σ H Q I hh=>po_some h pins s σ H Q I (by
 obtain ⟨Hs,ρ,tot,Qd,sr,h,f⟩:=hh
 refine ⟨Hs,ρ,tot,_,sr,h,fun v H1 Hs1 m x As g1 r1 f1 q1=>?_⟩
 have r:=r1.rep g1.wf
 cases r with
 | int i=>exact ⟨i,rfl,f _ H1 Hs1 g1 q1⟩
 | _=>exact q1.elim)
theorem jC {lo hi:Option Int} (r:Reps K H ds vs):Reps K H (cutG ds lo hi) (cutV vs lo hi):=by
 unfold cutG cutV
 rw [r.length]
 exact (r.drop _).take _
theorem kSl2 (hK:X.K=K:=by rfl):SlR X (fun x lo hi H Q=>rSlS K x lo hi H Q\/rSlT K x lo hi H Q):=by
 subst hK
 intro pins s σ H x v vl vu lo hi sl Q I rx hs pl pu h
 rcases h with h | h
 ·exact BP pins s σ H x v vl vu lo hi sl Q I rx hs pl pu h
 ·exact sl_tup pins s σ H x v vl vu lo hi sl Q I rx hs pl pu h
theorem lD (he:QE X K e te) (hl:QO X K lo tl) (hh:QO X K hi th) (hK:X.K=K:=by rfl):QE X K (.Subscript e (.Slice lo hi none p2) pos) (wSl te tl th):=by
 refine PE.imp (pe_slice (kSl2 hK) he hl hh) fun σ H Qv hx=>ex4 hx fun Hs ρ tot Q sr h f=>?_
 refine ⟨Hs,ρ,tot,_,sr,h,fun v H1 Hs1 m x As g1 r1 f1 q1=>⟨Hs1,ρ,tot,_,sr.grow g1,q1,fun l H2 Hs2 g2 q2=>⟨Hs2,ρ,tot,_,(sr.grow g1).grow g2,q2,fun u H3 Hs3 g3 q3=>?_⟩⟩⟩
 have r3:=(r1.grow g2).grow g3
 have fin:Fin K Hs3 H3 Q Qv:=Fin.after f ((g1.trans g2).trans g3)
 have rr:=r3.rep g3.wf
 cases rr with
 | str hz=>exact .inl ⟨hz,fin.sh g3.wf (.str (xaA (xV _ _ _) hz)) q3⟩
 | list z s q =>
  have hz:=q.length
  rcases q3 with ⟨hf,q3⟩ | ⟨rfl,q3⟩
  ·exact .inl ⟨_,s,fin.lst g3.wf (xaA (lY _ _ _) (by lia)) (jC q) (m_ hf) q3⟩
  ·obtain ⟨_,r3⟩:=r3
   cases r3 with
   | list z' s' q' =>
    have hz:=q'.length
    exact .inl ⟨_,Same.seq g3.wf.sub s',fin.lstS g3.wf (xaA (lY _ _ _) (by lia)) (jC q') q3⟩
 | tup z s q =>
  have hz:=q.length
  obtain ⟨hf,hn,q3⟩:=q3
  exact .inr ⟨_,_,rfl,.inl (.inl s),by rw [<- hz]; exact hn,fin.tup g3.wf (xaA (lY _ _ _) (by lia)) (jC q) (m_ hf) q3⟩
 | _=>exact q3.elim
end
def fLen:W1:=fun _ x Q=>match x with
 | .str z=>Q .sh (.int z.length)
 | .list xs=>Q .sh (.int xs.length)
 | .tup xs=>Q .sh (.int xs.length)
 | .dK kvs=>Q .sh (.int kvs.length)
 | .dT kvs=>Q .sh (.int kvs.length)
 | _=>False
def BrC (K:PySem.W.Frag) (r:List V->Hp->VK->Prop) (f:W1):Prop:=∀ Hs H m x v As Qd Qv,Wf Hs H->RM K Hs H m x v As->f m x Qd->Fin K Hs H Qd Qv->r [v] H Qv
section
variable {X:Cx} {K:PySem.W.Frag} {e:Expr} {te:WE} {pos p:Pos} {x:Str} {id T:String}
theorem j_ (br:BrC K r f) (σ:St) (H:Hp) (Qv:VK) (h:tpE K (wUn f te) σ H Qv):tCB r (tCons (tpE K te) tNil) σ H Qv:=by
 obtain ⟨Hs,ρ,tot,Q,sr,h,fin⟩:=h
 exact ⟨Hs,ρ,tot,_,sr,h,fun v H1 Hs1 m x As g1 r1 f1 q1=>br Hs1 H1 m x v As Q Qv g1.wf r1 q1 (Fin.after fin g1)⟩
theorem b8 (hc:CallR X (.builtin id) r) (br:BrC K r f) (hg:Gl X x) (hm:X.mg x=none) (hv:bootBuiltins x=some (.builtin id)) (he:QE X K e te)
  (hs:starEach [e] X.env=(false,eval e X.env) :: starEach [] X.env:=by rfl) (hn:x ≠ "__name__" := by decide) (hdb:(x == ("__debug__" : Str))=false:=by decide):QE X K (.Call (.Name x p) [e] [] pos) (wUn f te) :=
 PE.imp (pe_callB hc hg hm hv (pa_cons he pa_nil hs) hn hdb hs) (j_ br)
theorem gK (hc:CallR X (.type T) r) (br:BrC K r f) (hg:Gl X x) (hm:X.mg x=none) (hv:bootBuiltins x=some (.type T)) (he:QE X K e te)
  (hs:starEach [e] X.env=(false,eval e X.env) :: starEach [] X.env:=by rfl) (hn:x ≠ "__name__" := by decide) (hdb:(x == ("__debug__" : Str))=false:=by decide):QE X K (.Call (.Name x p) [e] [] pos) (wUn f te) :=
 PE.imp (pe_callTy hc hg hm hv (pa_cons he pa_nil hs) hn hdb hs) (j_ br)
theorem zm (hd:(d == sysModules)=false) (x:RawD s.heap d es ep) (hfit:(es.size:Int)<2 ^ 63)
  (h:∀ t t',Q (.int es.size t) { s with toks:=t' }):wpAny (model prog w) A (call (.builtin "len") [.ref d]) Q E s:=by
 refine Calls.call_function_entry kind_len plain_len entry_len (args_len1 _) ?_
 have mt:MeetsIn prog w (Builtin.«dict.__len__» ⟨[.ref d],[]⟩) (fun _ R s=>RawD s.heap d es ep/\R (.ok (.ret (.int es.size s.toks))) { s with toks:=s.toks+1 }):=.of_wp fun A R s hx9=>by
  obtain ⟨hm,h⟩:=hx9
  obtain ⟨o,ho,hc,hdat⟩:=hm
  show wpAny _ _ (dictSize d >>= _) _ _ s
  unfold dictSize
  refine xaa (xaa (wpAny_dictEntries ho hdat (xac ?_)))
  show wpAny _ _ (Builtin.Dict.pendingCount d >>= _) _ _ s
  refine xaa (wpAny_pendingCount_other hd ?_)
  refine wpAny_ret_mkInt ?_
  rw [xbY]; exact h
 unfold Builtin.«len»
 refine xaa (m:=oneArg "len" _) (xac ?_)
 refine xaa (m:=callSpecial? (.ref d) (Str.ofString "__len__")) (wpAny_callSpecial?_slot (name:=Str.ofString "__len__") x.typ F.slot_dict_len
  (call_meetsIn F.slot_dict_len x.typ F.entry_dict_len (F.args_dict_len_1 _) mt ⟨x,?_⟩))
 show wpAny _ _ _ _ _ { s with toks:=s.toks+1 }
 refine xaa (wpAny_holding (xac ?_))
 refine xaa (wpAny_letGo ?_)
 show wpAny _ _ (if ((es.size:Nat):Int)<0 then _ else _) _ _ _
 rw [if_neg (by lia)]
 show wpAny _ _ (if ((es.size:Nat):Int) >= 2 ^ 63 then _ else _) _ _ _
 rw [if_neg (by lia)]
 exact xaa (wpAny_mkInt (xac ⟨_,rfl,h _ _⟩))
theorem bf (hK:X.K=K:=by rfl):CallR X (.builtin "len") (fun xs H Q=>rLen K xs H Q\/∃ a kvs,xs=[.ref a]/\H a=some (.dT kvs)/\Q (.int kvs.length) H):=by
 subst hK
 intro pins s σ H xs us Q I r h
 rcases h with h | ⟨a,kvs,rfl,ha,q⟩
 ·exact uC pins s σ H xs us Q I r h
 ·obtain ⟨u,rfl,ru⟩:=Vals.one r
  cases ru
  obtain ⟨z,hd,ys,rel,o,es,ep,h1,h2,h3,h4,h5⟩:=(show ObjOk X.prog X.w H s.heap a (.dT kvs) from I.hok a _ ha)
  have hl:es.size=kvs.length:=by
   have:=congrArg List.length h4
   rw [xa2,xag] at this
   rw [this]; exact rel.length.symm
  exact zm hd ⟨o,h1,h2,h3⟩ (by rw [sizeLine_eq] at z; lia) fun t t'=>⟨.int kvs.length,H,I.tok _,⟨t,by rw [hl]⟩,q⟩
theorem e_:BrC K (fun xs H Q=>rLen K xs H Q\/∃ a kvs,xs=[.ref a]/\H a=some (.dT kvs)/\Q (.int kvs.length) H) fLen:=by
 intro Hs H m x v As Qd Qv w rx h f
 have r1:=rx.rep w
 cases r1 with
 | str hz=>exact .inl ⟨hz,f.sh w (.int _) h⟩
 | list z s q=>exact .inl (.inl ⟨_,s,by rw [<- q.length]; exact f.sh w (.int _) h⟩)
 | tup _ s q=>exact .inl (.inr (.inl ⟨_,.inl (.inl s),by rw [<- q.length]; exact f.sh w (.int _) h⟩))
 | dK kk s q=>exact .inl (.inr (.inr ⟨_,s,by
   have:=q.length
   rw [xag] at this
   rw [xcf,xag,<- this,xcx]
   exact f.sh w (.int _) h⟩))
 | dT kk s q=>exact .inr ⟨_,_,rfl,s,by
   have:=q.length
   rw [xag] at this
   rw [xcf,xag,<- this,xcx]
   exact f.sh w (.int _) h⟩
 | _=>exact h.elim
end
def keyD:Key->D
 | .inl i=>.int i
 | .inr x=>.str x
def rY:W1:=fun m x Q=>match x with
 | .list xs=>(flats xs=true/\Q (.ow true) (.list xs))\/(m=.sh/\Q (.ow false) (.list xs))
 | .tup xs=>(flats xs=true/\Q (.ow true) (.list xs))\/(m=.sh/\Q (.ow false) (.list xs))
 | .dT kvs=>Q (.ow true) (.list (kvs.map fun kv=>.tup (kv.1.map keyD)))
 | _=>False
section
variable {X:Cx} {K:PySem.W.Frag}
theorem ql:∀ {ks:List Key},(∀ k∈ks,kOk k=true)->Reps K H (ks.map keyD) (ks.map kV)
 | [],_=>.nil
 | k :: ks,h=>by
  refine .cons ?_ (ql fun j m=>h j (xab _ m))
  have:=h k xad
  cases k with
  | inl i=>exact .int i
  | inr x=>exact .str (by simpa [kOk] using this)
theorem mY:∀ (ks:List Key),flats (ks.map keyD)=true
 | []=>rfl
 | k :: ks=>by simp only [xat,flats,mY ks,xcp]; cases k <;> rfl
theorem mJ (t:cj H ys ks) (h:∀ l∈ks,l.length<=sizeLine/\∀ k∈l,kOk k=true):Reps K H (ks.map fun l=>.tup (l.map keyD)) ys:=by
 induction ys generalizing ks with
 | nil=>rw [show ks=[] from Paired.n0 t]; exact .nil
 | cons y ys ih =>
  obtain ⟨k,ks,rfl,⟨b,rfl,e⟩,t2⟩:=Paired.c t
  exact .cons (.tup (by rw [xag]; exact (h _ xad).1) e (ql (h _ xad).2)) (ih t2 fun l m=>h l (xab _ m))
theorem fW:∀ (ks:List (List Key)),flats (ks.map fun l=>.tup (l.map keyD))=true
 | []=>rfl
 | l :: ks=>by simp only [xat,flats,fW ks,xcp,D.flat,mY]
theorem kh (hc:X.calm=true:=by rfl) (hK:X.K=K:=by rfl):CallR X (.type "list") (fun xs H Q=>(∃ p ys,xs=[.ref p]/\(SqL K H p ys\/SqT K H p ys)/\∀ l,H l=none->Q (.ref l) (upd H l (.lst ys)))\/qt xs H Q):=by
 subst hK; exact call_list_of.or (rZ hc)
theorem vd:BrC K (fun xs H Q=>(∃ p ys,xs=[.ref p]/\(SqL K H p ys\/SqT K H p ys)/\∀ l,H l=none->Q (.ref l) (upd H l (.lst ys)))\/qt xs H Q) rY:=by
 intro Hs H m x v As Qd Qv w rx h f
 have r1:=rx.rep w
 cases r1 with
 | list z s q =>
  have hl:=q.length
  rcases h with ⟨hf,h⟩ | ⟨rfl,h⟩
  ·exact .inl ⟨_,_,rfl,.inl s,f.lst w (by lia) q hf h⟩
  ·obtain ⟨_,rx⟩:=rx
   cases rx with
   | list z' s' q' =>
    have hl:=q'.length
    exact .inl ⟨_,_,rfl,.inl (Same.seq w.sub s'),f.lstS w (by lia) q' h⟩
 | tup z s q =>
  have hl:=q.length
  rcases h with ⟨hf,h⟩ | ⟨rfl,h⟩
  ·exact .inl ⟨_,_,rfl,.inr (.inl (.inl s)),f.lst w (by lia) q hf h⟩
  ·obtain ⟨_,rx⟩:=rx
   cases rx with
   | tup z' s' q' =>
    have hl:=q'.length
    exact .inl ⟨_,_,rfl,.inr (.inl (.inl (w.sub _ _ s'))),f.lstS w (by lia) q' h⟩
 | @dT _ vs kvs kk s q =>
  refine .inr ⟨_,s,fun ys l ht hl=>?_⟩
  have hlen:=q.length
  rw [xag] at hlen
  have e:((kvs.map (·.1)).zip vs).map (·.1)=kvs.map (·.1):=xb9 (by rw [xag]; exact xcg hlen)
  rw [e] at ht
  have rr:=mJ (K:=K) ht (fun l m=>by
   obtain ⟨p,hp,rfl⟩:=xaj.mp m
   exact kk.2 p hp)
  have ff:=fW (kvs.map (·.1))
  rw [xaJ] at rr ff
  exact f.lst w (by rw [xag]; exact kk.1) rr ff h l hl
 | _=>exact h.elim
end
section
variable {K:PySem.W.Frag} {Hs H:Hp}
theorem SR.wg (r:Rep K Hs d v) (i:Nat) (s:SR K Hs H ρ σ tot):∃ tot',tot'.Sublist tot/\SR K Hs H (ρ.set i (some (.sh d))) (σ.set i (some v)) tot':=by
 induction s generalizing i with
 | nil=>exact ⟨[],xbi _,.nil⟩
 | non s ih =>
  cases i with
  | zero=>exact ⟨_,List.Sublist.refl _,.sh r s⟩
  | succ i=>obtain ⟨t,a,b⟩:=ih i; exact ⟨t,a,.non b⟩
 | sh q s ih =>
  cases i with
  | zero=>exact ⟨_,List.Sublist.refl _,.sh r s⟩
  | succ i=>obtain ⟨t,a,b⟩:=ih i; exact ⟨t,a,.sh q b⟩
 | xc s ih =>
  cases i with
  | zero=>exact ⟨_,List.Sublist.refl _,.sh r s⟩
  | succ i=>obtain ⟨t,a,b⟩:=ih i; exact ⟨t,a,.xc b⟩
 | ow ne q s ih =>
  cases i with
  | zero=>exact ⟨_,xav _ _,.sh r s⟩
  | succ i=>obtain ⟨t,a,b⟩:=ih i; exact ⟨_,a.append_left _,.ow ne q b⟩
 | lk ne q s ih =>
  cases i with
  | zero=>exact ⟨_,xav _ _,.sh r s⟩
  | succ i=>obtain ⟨t,a,b⟩:=ih i; exact ⟨_,a.append_left _,.lk ne q b⟩
theorem n6 {As tot:List Addr} (nd:As.Nodup) (n:tot.Nodup) (dj:∀ a∈As,a∉tot):(As++tot).Nodup:=xar.mpr ⟨nd,n,fun a ha b hb e=>dj a ha (e ▸ hb)⟩
theorem eQ {As tot B t:List Addr} (n:(B++tot).Nodup) (dj:∀ a∈As,a∉B++tot) (a:t.Nodup) (b:∀ x∈t,x∈tot\/x∈As):(B++t).Nodup/\∀ x∈B++t,x∈B++tot\/x∈As:=by
 obtain ⟨n1,n2,n3⟩:=xar.mp n
 refine ⟨xar.mpr ⟨n1,a,fun x hx y hy e=>?_⟩,fun x hx=>?_⟩
 ·subst e
  rcases b x hy with z | z
  ·exact n3 x hx x z rfl
  ·exact dj x z (xay _ hx)
 ·rcases xai.mp hx with z | z
  ·exact .inl (xay _ z)
  ·exact (b x z).imp (fun z=>xah _ z) fun z=>z
theorem SR.vX {d:D} {v:V} {fl:Bool} {As:List Addr} (ne:As≠[]) (r:RepO K Hs H fl d v As) (nd:As.Nodup) {ρ:Env} {σ:St} {tot:List Addr} (i:Nat) (s:SR K Hs H ρ σ tot):tot.Nodup->(∀ a∈As,a∉tot) ->
  ∃ tot',tot'.Nodup/\(∀ a∈tot',a∈tot\/a∈As)/\SR K Hs H (ρ.set i (some (.ow fl d))) (σ.set i (some v)) tot':=by
 induction s generalizing i with
 | nil=>exact fun n _=>⟨[],xaR,(fun a h=>mem0 h),.nil⟩
 | non s ih =>
  intro n dj
  cases i with
  | zero=>exact ⟨_,n6 nd n dj,fun a h=>(xai.mp h).symm,.ow ne r s⟩
  | succ i=>obtain ⟨t,a,b,c⟩:=ih i n dj; exact ⟨t,a,b,.non c⟩
 | sh q s ih =>
  intro n dj
  cases i with
  | zero=>exact ⟨_,n6 nd n dj,fun a h=>(xai.mp h).symm,.ow ne r s⟩
  | succ i=>obtain ⟨t,a,b,c⟩:=ih i n dj; exact ⟨t,a,b,.sh q c⟩
 | xc s ih =>
  intro n dj
  cases i with
  | zero=>exact ⟨_,n6 nd n dj,fun a h=>(xai.mp h).symm,.ow ne r s⟩
  | succ i=>obtain ⟨t,a,b,c⟩:=ih i n dj; exact ⟨t,a,b,.xc c⟩
 | ow ne' q s ih =>
  intro n dj
  obtain ⟨n1,n2,n3⟩:=xar.mp n
  have dj':=fun a ha m=>dj a ha (xah _ m)
  cases i with
  | zero=>exact ⟨_,n6 nd n2 dj',fun a h=>(xai.mp h).symm.imp (fun z=>xah _ z) fun z=>z,.ow ne r s⟩
  | succ i=>obtain ⟨t,a,b,c⟩:=ih i n2 dj'; exact ⟨_,(eQ n dj a b).1,(eQ n dj a b).2,.ow ne' q c⟩
 | lk ne' q s ih =>
  intro n dj
  obtain ⟨n1,n2,n3⟩:=xar.mp n
  have dj':=fun a ha m=>dj a ha (xah _ m)
  cases i with
  | zero=>exact ⟨_,n6 nd n2 dj',fun a h=>(xai.mp h).symm.imp (fun z=>xah _ z) fun z=>z,.ow ne r s⟩
  | succ i=>obtain ⟨t,a,b,c⟩:=ih i n2 dj'; exact ⟨_,(eQ n dj a b).1,(eQ n dj a b).2,.lk ne' q c⟩
def asg:Md->D->Option Sl
 | .sh,d=>some (.sh d)
 | .ow fl,d=>some (.ow fl d)
 | .bo,d=>bif d.flat then some (.sh d) else none
theorem SRel.set (i:Nat) (s:SRel K Hs ρ σ H tot) (r:RM K Hs H m d v As) (nd:As.Nodup) (dj:∀ a∈As,Hs a=none/\a∉tot) (e:asg m d=some sl) :
  ∃ tot',SRel K Hs (ρ.set i (some sl)) (σ.set i (some v)) H tot':=by
 have shc:Rep K Hs d v->∃ tot',SRel K Hs (ρ.set i (some (.sh d))) (σ.set i (some v)) H tot':=fun r=>by
  obtain ⟨t,a,b⟩:=s.sr.wg r i
  exact ⟨t,b,s.wf,a.nodup s.nod,fun x hx=>s.own x (a.subset hx)⟩
 cases m with
 | sh=>cases e; exact shc r.2
 | ow fl =>
  cases e
  obtain ⟨t,a,b,c⟩:=SR.vX r.2 r.1 nd i s.sr s.nod fun a ha=>(dj a ha).2
  exact ⟨t,c,s.wf,a,fun x hx=>(b x hx).elim (s.own x) fun z=>(dj x z).1⟩
 | bo =>
  cases hf:d.flat with
  | true =>
   simp only [asg,hf,cond_true,Option.some.injEq] at e
   subst e
   exact shc (r.flat s.wf hf)
  | false=>simp [asg,hf] at e
end
section
variable {X:Cx} {K:PySem.W.Frag} {e c:Expr} {te:WE} {tc:WT} {pos:Pos} {st:Stmt} {a b rest:List Stmt} {t u:WS}
theorem PS.imp {te te':TS} (h:PS X st te) (i:∀ D σ H,te' D σ H->te D σ H):PS X st te':=fun pins s σ H D I q=>h pins s σ H D I (i D σ H q)
theorem PSs.imp {te te':TS} (h:PSs X a te) (i:∀ D σ H,te' D σ H->te D σ H):PSs X a te':=fun pins s σ H D I q=>h pins s σ H D I (i D σ H q)
def fO:WS:=fun E ρ=>E.nx ρ
def wSeq (t u:WS):WS:=fun E ρ=>t { E with nx:=u E } ρ
def wRet (te:WE):WS:=fun E ρ=>te ρ E.rt
def wSet (i:Nat) (te:WE):WS:=fun E ρ=>te ρ fun m d=>match asg m d with
 | some sl=>E.nx (ρ.set i (some sl))
 | none=>False
def wIfS (c:WT) (t u:WS):WS:=fun E ρ=>c ρ fun b=>if b=true then t E ρ else u E ρ
theorem cC:QSs X K L [] fO:=PSs.imp pss_nil fun D σ H hx=>eX hx fun Hs ρ tot E sr h k1 _ _ _=>k1 σ H Hs ρ tot (Same.refl _) sr h
theorem xn {D:Ends} (h:tpS K L (wSeq t u) D σ H):tSeq (tpS K L t) (tpS K L u) D σ H:=by
 obtain ⟨Hs,ρ,tot,E,sr,h,k1,k2,k3,k4,kx⟩:=h
 refine ⟨Hs,ρ,tot,{ E with nx:=u E },sr,h,fun σ' H' Hs' ρ' tot' s sr' q=>?_,k2,k3,k4,kx⟩
 exact ⟨Hs',ρ',tot',E,sr',q,fun σ2 H2 Hs2 ρ2 tot2 s2=>k1 σ2 H2 Hs2 ρ2 tot2 (s.trans s2),fun σ2 H2 Hs2 ρ2 tot2 s2=>k2 σ2 H2 Hs2 ρ2 tot2 (s.trans s2),fun σ2 H2 Hs2 ρ2 tot2 s2=>k3 σ2 H2 Hs2 ρ2 tot2 (s.trans s2),
  fun v H2 Hs2 m d As s2=>k4 v H2 Hs2 m d As (s.trans s2),fun n H2 s2=>kx n H2 (s.trans s2)⟩
theorem ak (h1:QS X K L st t) (h2:QSs X K L rest u):QSs X K L (st :: rest) (wSeq t u):=PSs.imp (pss_cons h1 h2) fun D σ H h=>xn h
theorem aF (h1:QS X K L st t):QSs X K L [st] t:=pss_one h1
theorem cT (he:QE X K e te):QS X K L (.Return (some e) pos) (wRet te):=PS.imp (ps_ret he) fun D σ H hx=>eX hx fun Hs ρ tot E sr h k1 k2 k3 k4 =>
 ⟨Hs,ρ,tot,_,sr,h,fun v H1 Hs1 m d As g1 r1 f1 q1=>k4 v H1 Hs1 m d As g1.sh g1.wf r1 f1.1 (fun a ha=>(f1.2 a ha).1) q1⟩
def uo (i:Nat):WS:=fun E ρ=>match ρ[i]? with
 | some (some (.sh d))=>E.rt .sh d
 | some (some (.ow fl d))=>E.rt (.ow fl) d
 | _=>False
theorem SR.at {ρ:Env} {σ:St} {tot:List Addr} {i:Nat} {fl:Bool} {d:D} {Hs H:Hp} (s:SR K Hs H ρ σ tot) (e:ρ[i]? = some (some (.ow fl d))):∃ v As,σ[i]? = some (some v)/\As≠[]/\RepO K Hs H fl d v As/\As.Sublist tot:=by
 induction s generalizing i with
 | nil=>simp at e
 | non s ih =>
  cases i with
  | zero=>simp at e
  | succ i=>exact ih e
 | sh r s ih =>
  cases i with
  | zero=>simp at e
  | succ i=>exact ih e
 | xc s ih =>
  cases i with
  | zero=>simp at e
  | succ i=>exact ih e
 | ow ne r s ih =>
  cases i with
  | zero=>simp at e; obtain ⟨rfl,rfl⟩:=e; exact ⟨_,_,rfl,ne,r,xbb _ _⟩
  | succ i =>
   obtain ⟨v,As,a,b,c,d⟩:=ih e
   exact ⟨v,As,a,b,c,d.trans (xav _ _)⟩
 | lk ne r s ih =>
  cases i with
  | zero=>simp at e
  | succ i =>
   obtain ⟨v,As,a,b,c,d⟩:=ih e
   exact ⟨v,As,a,b,c,d.trans (xav _ _)⟩
theorem uw {i:Nat} (he:PE X e (tVar i)):QS X K L (.Return (some e) pos) (uo i):=PS.imp (ps_ret he) fun D σ H hx=>eX hx fun Hs ρ tot E sr h k1 k2 k3 k4=>by
 unfold uo at h
 split at h
 ·rename_i d e1
  obtain ⟨v,e2,r⟩:=sr.sr.get e1
  exact ⟨v,e2,k4 v H Hs .sh d [] (Same.refl _) sr.wf ⟨rfl,r⟩ xaR (fun a ha=>nomatch ha) h⟩
 ·rename_i fl d e1
  obtain ⟨v,As,e2,ne,r,sb⟩:=sr.sr.at e1
  exact ⟨v,e2,k4 v H Hs (.ow fl) d As (Same.refl _) sr.wf ⟨r,ne⟩ (sb.nodup sr.nod) (fun a ha=>sr.own a (sb.subset ha)) h⟩
 ·exact h.elim
theorem aG {i:Nat} {x:Str} {pos':Pos} (hN:X.N.Nodup) (hi:X.N[i]? = some x) (hx:Loc X.env.scope x) (he:QE X K e te) (hs:swapsWith e (some (.Name x pos')) pos.line X.env=pure false:=by rfl)
  (hf:X.fn x=true\/X.env.scope.names.lookup x=some .local:=by first | exact .inl rfl | exact .inr rfl | assumption):QS X K L (.Assign [.Name x pos'] e pos) (wSet i te):=PS.imp (ps_set hN hi hx he hs hf) fun D σ H hx=>eX hx fun Hs ρ tot E sr h k1 k2 k3 k4=>by
 refine ⟨Hs,ρ,tot,_,sr,h,fun v H1 Hs1 m d As g1 r1 f1 q1=>?_⟩
 have q1:match asg m d with
  | some sl=>E.nx (ρ.set i (some sl))
  | none=>False:=q1
 cases e:asg m d with
 | none=>rw [e] at q1; exact q1.elim
 | some sl =>
  rw [e] at q1
  obtain ⟨tot',s'⟩:=(sr.grow g1).set i r1 f1.1 (fun a ha=>⟨(f1.2 a ha).1,fun m=>(sr.sr.own a m).ne (f1.2 a ha).2⟩) e
  exact k1 _ H1 Hs1 _ tot' g1.sh s' q1
theorem iG (hc:QT X K c tc) (ha:QSs X K L a t) (hb:QSs X K L b u):QS X K L (.If c a b pos) (wIfS tc t u):=PS.imp (ps_if hc ha hb) fun D σ H hx=>mq hx fun Hs ρ tot E sr h k1 k2 k3 k4 kx=>by
 refine ⟨Hs,ρ,tot,_,sr,h,fun k H1 Hs1 g1 q1=>?_⟩
 have k1':∀ σ' H' Hs' ρ' tot',Same Hs1 Hs'->SRel K Hs' ρ' σ' H' tot'->E.nx ρ'->D.nx σ' H':=fun σ2 H2 Hs2 ρ2 tot2 s2=>k1 σ2 H2 Hs2 ρ2 tot2 (g1.sh.trans s2)
 have k2':∀ σ' H' Hs' ρ' tot',Same Hs1 Hs'->SRel K Hs' ρ' σ' H' tot'->E.bk ρ'->D.bk σ' H':=fun σ2 H2 Hs2 ρ2 tot2 s2=>k2 σ2 H2 Hs2 ρ2 tot2 (g1.sh.trans s2)
 have k3':∀ σ' H' Hs' ρ' tot',Same Hs1 Hs'->SRel K Hs' ρ' σ' H' tot'->E.ct ρ'->D.ct σ' H':=fun σ2 H2 Hs2 ρ2 tot2 s2=>k3 σ2 H2 Hs2 ρ2 tot2 (g1.sh.trans s2)
 cases k with
 | true=>exact ⟨Hs1,ρ,tot,E,sr.grow g1,q1,k1',k2',k3',(fun v H2 Hs2 m d As s2=>k4 v H2 Hs2 m d As (g1.sh.trans s2)),fun n H2 s2=>kx n H2 (g1.sh.trans s2)⟩
 | false=>exact ⟨Hs1,ρ,tot,E,sr.grow g1,q1,k1',k2',k3',(fun v H2 Hs2 m d As s2=>k4 v H2 Hs2 m d As (g1.sh.trans s2)),fun n H2 s2=>kx n H2 (g1.sh.trans s2)⟩
def frzH (Hs H:Hp) (As:List Addr):Hp:=fun a=>if a∈As then H a else Hs a
theorem fX (n:∀ a∈As,Hs a=none):Same Hs (frzH Hs H As):=fun a o e=>by
 unfold frzH
 rw [if_neg fun m=>by rw [n a m] at e; cases e]
 exact e
theorem uq (w:Wf Hs H) (o:∀ a∈As,Own H a):Wf (frzH Hs H As) H:=⟨fun a u e=>by
  unfold frzH at e
  by_cases m:a∈As
  ·rw [if_pos m] at e; exact e
  ·rw [if_neg m] at e; exact w.sub a u e,fun a vs e=>by
  unfold frzH
  rw [if_neg fun m=>(o a m).yS e]
  exact w.tups a vs e⟩
def shS:Sl->Sl
 | .sh d=>.sh d
 | .ow _ d=>.sh d
 | .lk a fl d=>.lk a fl d
 | .xc a=>.xc a
def shC:Sl->Sl
 | .sh d=>.sh d
 | .ow _ d=>.sh d
 | .lk _ _ d=>.sh d
 | .xc a=>.xc a
def frzE (i:Nat) (ρ:Env):Env:=match ρ[i]? with
 | some (some sl)=>ρ.set i (some (shS sl))
 | _=>ρ
theorem mX {As tot B t:List Addr} (n:(B++tot).Nodup) (a:As.Sublist tot) (c:∀ x∈As,x∉t):∀ x∈As,x∉B++t:=fun x hx m=>by
 obtain ⟨n1,n2,n3⟩:=xar.mp n
 rcases xai.mp m with z | z
 ·exact n3 x z x (a.subset hx) rfl
 ·exact c x hx z
theorem SR.frz (i:Nat) (s:SR K Hs H ρ σ tot):ρ[i]? = some (some (.ow fl d))->tot.Nodup ->
  ∃ (As tot':List Addr),As.Sublist tot/\tot'.Sublist tot/\(∀ a∈As,a∉tot')/\∀ Hs',Same Hs Hs'->(∀ a∈As,Hs' a=H a)->SR K Hs' H (ρ.set i (some (.sh d))) σ tot':=by
 induction s generalizing i with
 | nil=>intro e; simp at e
 | non q ih =>
  intro e n
  cases i with
  | zero=>simp at e
  | succ i =>
   obtain ⟨As,t,a,b,c,d⟩:=ih i e n
   exact ⟨As,t,a,b,c,fun Hs' s k=>.non (d Hs' s k)⟩
 | sh r q ih =>
  intro e n
  cases i with
  | zero=>simp at e
  | succ i =>
   obtain ⟨As,t,a,b,c,d⟩:=ih i e n
   exact ⟨As,t,a,b,c,fun Hs' s k=>.sh (r.same s) (d Hs' s k)⟩
 | xc q ih =>
  intro e n
  cases i with
  | zero=>simp at e
  | succ i =>
   obtain ⟨As,t,a,b,c,d⟩:=ih i e n
   exact ⟨As,t,a,b,c,fun Hs' s k=>.xc (d Hs' s k)⟩
 | ow ne r q ih =>
  intro e n
  obtain ⟨n1,n2,n3⟩:=xar.mp n
  cases i with
  | zero =>
   simp at e
   obtain ⟨rfl,rfl⟩:=e
   exact ⟨_,_,xbb _ _,xav _ _,fun a h m=>n3 a h a m rfl,fun Hs' s k=>.sh (r.rep s k) (q.stay s fun _ _=>rfl)⟩
  | succ i =>
   obtain ⟨As,t,a,b,c,d⟩:=ih i e n2
   exact ⟨As,_,a.trans (xav _ _),b.append_left _,mX n a c,fun Hs' s k=>.ow ne (r.stay s fun _ _=>rfl) (d Hs' s k)⟩
 | lk ne r q ih =>
  intro e n
  obtain ⟨n1,n2,n3⟩:=xar.mp n
  cases i with
  | zero=>simp at e
  | succ i =>
   obtain ⟨As,t,a,b,c,d⟩:=ih i e n2
   exact ⟨As,_,a.trans (xav _ _),b.append_left _,mX n a c,fun Hs' s k=>.lk ne (r.stay s fun _ _=>rfl) (d Hs' s k)⟩
theorem SRel.frz (i:Nat) (s:SRel K Hs ρ σ H tot):∃ Hs' tot',Same Hs Hs'/\SRel K Hs' (frzE i ρ) σ H tot':=by
 unfold frzE
 split
 ·rename_i sl e
  have keep:shS sl=sl->∃ Hs' tot',Same Hs Hs'/\SRel K Hs' (ρ.set i (some (shS sl))) σ H tot':=fun hs=>by
   have e2:ρ.set i (some (shS sl))=ρ:=by
    apply xbe
    intro j
    rw [List.getElem?_set]
    by_cases h:i=j
    ·subst h
     rw [if_pos rfl,e]
     have:i<ρ.length:=(xal.mp e).1
     simp [this,hs]
    ·rw [if_neg h]
   rw [e2]
   exact ⟨Hs,tot,Same.refl _,s⟩
  cases sl with
  | sh d=>exact keep rfl
  | xc a=>exact keep rfl
  | lk a fl d=>exact keep rfl
  | ow fl d =>
   obtain ⟨As,t,a,b,c,g⟩:=SR.frz i s.sr e s.nod
   have hn:∀ a∈As,Hs a=none:=fun x hx=>s.own x (a.subset hx)
   have ho:∀ a∈As,Own H a:=fun x hx=>s.sr.own x (a.subset hx)
   refine ⟨frzH Hs H As,t,fX hn,g _ (fX hn) fun x hx=>by unfold frzH; rw [if_pos hx],uq s.wf ho,b.nodup s.nod,fun x hx=>?_⟩
   unfold frzH
   rw [if_neg fun m=>c x m hx]
   exact s.own x (b.subset hx)
 ·exact ⟨Hs,tot,Same.refl _,s⟩
def wFrz (i:Nat) (t:WS):WS:=fun E ρ=>t E (frzE i ρ)
theorem wY {D:Ends} (h:tpS K L (wFrz i t) D σ H):tpS K L t D σ H:=by
 obtain ⟨Hs,ρ,tot,E,sr,h,k1,k2,k3,k4,kx⟩:=h
 obtain ⟨Hs',tot',s,sr'⟩:=sr.frz i
 exact ⟨Hs',_,tot',E,sr',h,fun σ2 H2 Hs2 ρ2 tot2 s2=>k1 σ2 H2 Hs2 ρ2 tot2 (s.trans s2),fun σ2 H2 Hs2 ρ2 tot2 s2=>k2 σ2 H2 Hs2 ρ2 tot2 (s.trans s2),fun σ2 H2 Hs2 ρ2 tot2 s2=>k3 σ2 H2 Hs2 ρ2 tot2 (s.trans s2),
  fun v H2 Hs2 m d As s2=>k4 v H2 Hs2 m d As (s.trans s2),fun n H2 s2=>kx n H2 (s.trans s2)⟩
theorem gw (i:Nat) (h:QS X K L st t):QS X K L st (wFrz i t):=PS.imp h fun D σ H h=>wY h
def iQ (Hs1 H1 Hs' H':Hp):Hp:=fun a=>match H' a with
 | some (.tup vs)=>some (.tup vs)
 | _=>match H1 a with
  | none=>Hs' a
  | some _=>Hs1 a
theorem gj (w:Wf Hs1 H1) (s:Same H1 Hs') (w':Wf Hs' H'):Grow Hs1 H1 (iQ Hs1 H1 Hs' H') H':=by
 have sa:Same H1 H':=s.trans w'.sub
 have tp:∀ a vs,H' a=some (.tup vs)->iQ Hs1 H1 Hs' H' a=some (.tup vs):=fun a vs e=>by unfold iQ; rw [e]
 have nt:∀ a,(∀ vs,H' a≠some (.tup vs))->iQ Hs1 H1 Hs' H' a=match H1 a with
  | none=>Hs' a
  | some _=>Hs1 a:=fun a h=>by
  unfold iQ
  split
  ·rename_i vs e; exact absurd e (h vs)
  ·rfl
 refine ⟨sa,fun a o e=>?_,⟨fun a o e=>?_,tp⟩,fun a h=>?_⟩
 ·have e1:=w.sub a o e
  have e2:=sa a o e1
  by_cases ht:∃ vs,o=.tup vs
  ·obtain ⟨vs,rfl⟩:=ht
   exact tp a vs e2
  ·rw [nt a fun vs z=>ht ⟨vs,by rw [e2] at z; exact Option.some.inj z⟩,e1]
   exact e
 ·by_cases ht:∃ vs,H' a=some (.tup vs)
  ·obtain ⟨vs,z⟩:=ht
   rw [tp a vs z] at e
   rw [z]; exact e
  ·rw [nt a fun vs z=>ht ⟨vs,z⟩] at e
   cases q:H1 a with
   | none=>rw [q] at e; exact w'.sub a o e
   | some u =>
    rw [q] at e
    have:=w.sub a o e
    exact sa a o this
 ·cases q:H1 a with
  | none=>exact .inr rfl
  | some u =>
   refine .inl ?_
   by_cases ht:∃ vs,H' a=some (.tup vs)
   ·obtain ⟨vs,z⟩:=ht
    have:=sa a u q
    rw [z] at this
    cases this
    rw [w.tups a vs q]
    exact fun z=>nomatch z
   ·rw [nt a fun vs z=>ht ⟨vs,z⟩,q] at h
    exact h
theorem vg {Hs1 H1 Hs' H':Hp} {a:Addr} (s:Same H1 Hs') (h:Hs' a=none) (o:Own H' a):iQ Hs1 H1 Hs' H' a=none/\H1 a=none:=by
 have h1:=s.free h
 refine ⟨?_,h1⟩
 unfold iQ
 split
 ·rename_i vs e; exact absurd e o.yS
 ·rw [h1]; exact h
def retM:Md->D->Md
 | .ow true,_=>.ow true
 | _,d=>bif d.flat then .sh else .bo
theorem o_ (w:Wf Hs1 H1) (s:Same H1 Hs') (w':Wf Hs' H') (r:RM K Hs' H' m d v As) (nd:As.Nodup) (own:∀ a∈As,Hs' a=none) :
  ∃ As',RM K (iQ Hs1 H1 Hs' H') H' (retM m d) d v As'/\cG (iQ Hs1 H1 Hs' H') H1 As':=by
 have g:=gj w s w'
 have other:∃ As',RM K (iQ Hs1 H1 Hs' H') H' (bif d.flat then .sh else .bo) d v As'/\cG (iQ Hs1 H1 Hs' H') H1 As':=by
  cases hf:d.flat with
  | true=>exact ⟨[],⟨rfl,(r.rep w').gn g.wf.tups hf⟩,cG.nil⟩
  | false=>exact ⟨[],⟨rfl,r.rep w'⟩,cG.nil⟩
 cases m with
 | sh=>exact other
 | bo=>exact other
 | ow fl =>
  cases fl with
  | false=>exact other
  | true=>exact ⟨As,⟨RepO.leaves (fun a vs e=>g.wf.tups a vs (w'.sub _ _ e)) r.1,r.2⟩,nd,fun a h=>vg s (own a h) (r.own a h)⟩
abbrev SpD:=List D->(Md->D->Prop)->Prop
def az (K:PySem.W.Frag) (sp:SpD):Sp:=fun vs H Qv _=>∃ ds Qd,Reps K H ds vs/\sp ds Qd /\
 ∀ v H' Hs' m d As,Same H Hs'->Wf Hs' H'->RM K Hs' H' m d v As->As.Nodup->(∀ a∈As,Hs' a=none)->Qd m d->Qv v H'
def bO (n:Nat) (ds:List D):Env:=ds.map (fun d=>some (.sh d))++List.replicate (n - ds.length) none
theorem SR.start (r:Reps K H ds vs):SR K H H (ds.map (fun d=>some (.sh d))++List.replicate n none) (vs.map some++List.replicate n none) []:=by
 induction ds generalizing vs with
 | nil =>
  rw [r.n0]
  induction n with
  | zero=>exact .nil
  | succ n ih=>exact .non ih
 | cons d ds ih =>
  obtain ⟨u,us,rfl,r,rs⟩:=r.c
  exact .sh r (ih rs)
theorem ug (h:az K sp vs H Qv E) (hp:∀ ds Q,sp ds Q->t { nx:=fun _=>Q .sh .non,rt:=Q } (bO N.length ds)) :
  tpS K L0 t { nx:=fun _ H'=>Qv .non H',rt:=Qv } (start N vs) H:=by
 obtain ⟨ds,Qd,rs,hs,fin⟩:=h
 have hl:=rs.length
 refine ⟨H,bO N.length ds,[],{ nx:=fun _=>Qd .sh .non,rt:=Qd },⟨?_,⟨Same.refl _,fun _ _ e=>e⟩,xaR,fun a h=>nomatch h⟩,hp ds Qd hs,?_,?_,?_,?_,fun _ _ _ _=>trivial⟩
 ·unfold bO start
  rw [hl]
  exact SR.start rs
 ·exact fun σ' H' Hs' ρ' tot' s sr q=>fin .non H' Hs' .sh .non [] s sr.wf ⟨rfl,.non⟩ xaR (fun a h=>nomatch h) q
 ·exact fun σ' H' Hs' ρ' tot' s sr q=>q.elim
 ·exact fun σ' H' Hs' ρ' tot' s sr q=>q.elim
 ·exact fun v H' Hs' m d As s w r nd own q=>fin v H' Hs' m d As s w r nd own q
theorem FunQ.ok {st:Stmt} {N ps:List Str} (F:Fun K x qual st f fd) (S:FnScope N ps (defScope st)) (len:∀ ds Q,sp ds Q->ds.length=ps.length)
  (hbody:∀ (cdv:Value) (A:Around) (outer:List PySem.Env) (s:Shared) (H:Hp) (E:XK),Room k (A.deeper (envOfC qual (defScope st) s.heap.objs.size f cdv))->QSs (cxOf CX0 P w K mg base N qual (defScope st) f cdv A outer s H E).nox K L0 (defBody st) t)
  (hp:∀ ds Q,sp ds Q->t { nx:=fun _=>Q .sh .non,rt:=Q } (bO N.length ds)):FnOk P w K mg base CX0 (k+1) f fd ps (az K sp) :=
 F.ok S (fun vs H Q E ⟨ds,Qd,rs,hs,_⟩=>by rw [<- rs.length]; exact len ds Qd hs) fun cdv A outer s H vs Q E hr hs=>⟨_,hbody cdv A outer s H E hr,ug hs hp⟩
def aL (sp:SpD) (t:WA):WE:=fun ρ Q=>t ρ fun ps=>sp (ps.map (·.2)) fun m d=>onK (m,d) (f:=fun p=>Q (retM p.1 p.2) p.2) ⟨⟩
theorem tY {sp:SpD} {t:WA} {σ:St} {H:Hp} {Qv:VK} {E:XK} (h:tpE K (aL sp t) σ H Qv):tCall (az K sp) [] E (tpA K t) σ H Qv:=by
 obtain ⟨Hs,ρ,tot,Q,sr,h,f⟩:=h
 refine ⟨Hs,ρ,tot,_,sr,h,fun vs H1 Hs1 ps As g1 r1 f1 q1=>?_⟩
 refine ⟨_,_,by rw [xaX]; exact r1.reps g1.wf,q1,fun v H' Hs' m d As s w r nd own q=>?_⟩
 obtain ⟨As',r',fr⟩:=o_ g1.wf s w r nd own
 exact Fin.after f g1 v H' _ (retM m d) d As' (gj g1.wf s w) r' fr q
theorem aM {k:Nat} {x:Str} {ps:List Str} {sp:SpD} {p:Pos} {es:List Expr} {t:WA} (C:Cal X.prog X.w X.K X.mg X.base k x ps (az K sp)) (hr:Room k X.A) (ha:QA X K (e :: es) t) (hg:Gl X x:=by rfl) (hdb:(x == ("__debug__" : Str))=false:=by decide) (he:starEach (e :: es) X.env=(false,eval e X.env) :: starEach es X.env:=by rfl)
  (hpl:(backTo pos (starEach es X.env)).any (·.1)=false:=by rfl):QE X K (.Call (.Name x p) (e :: es) [] pos) (aL sp t):=PE.imp (Dz C hr ha hg hdb he hpl) fun σ H Qv h=>tY h
end
abbrev WG:=D->Env->(Env->Prop)->Prop
def tpG (K:PySem.W.Frag) (g:WG):TG:=fun v σ H Qv=>∃ Hs ρ tot d Q,SRel K Hs ρ σ H tot/\Rep K Hs d v/\g d ρ Q/\∀ σ' ρ' tot',SRel K Hs ρ' σ' H tot'->(∀ a∈tot',a∈tot)->Q ρ'->Qv σ' H
abbrev QG (X:Cx) (K:PySem.W.Frag) (e:Expr) (g:WG):Prop:=PG X e (tpG K g)
def gN (i:Nat):WG:=fun d ρ Q=>Q (ρ.set i (some (.sh d)))
abbrev WGs:=List D->Env->(Env->Prop)->Prop
def tpGs (K:PySem.W.Frag) (g:WGs):TGs:=fun vs σ H Qv=>∃ Hs ρ tot ds Q,SRel K Hs ρ σ H tot/\Reps K Hs ds vs/\g ds ρ Q/\∀ σ' ρ' tot',SRel K Hs ρ' σ' H tot'->(∀ a∈tot',a∈tot)->Q ρ'->Qv σ' H
abbrev QGs (X:Cx) (K:PySem.W.Frag) (es:List Expr) (g:WGs):Prop:=PGs X es (tpGs K g)
def sG:WGs:=fun ds ρ Q=>ds=[]/\Q ρ
def eZ (g:WG) (gs:WGs):WGs:=fun ds ρ Q=>match ds with
 | d :: ds=>g d ρ fun ρ'=>gs ds ρ' Q
 | []=>False
def gT (n:Nat) (gs:WGs):WG:=fun d ρ Q=>match d with
 | .tup ds=>ds.length=n/\gs ds ρ Q
 | _=>False
section
variable {X:Cx} {K:PySem.W.Frag} {e:Expr} {es:List Expr} {g:WG} {gs:WGs} {pos:Pos}
theorem PG.imp (h:PG X e t) (i:∀ v σ H Q,t' v σ H Q->t v σ H Q):PG X e t':=fun pins s σ H v u Q I r q=>h pins s σ H v u Q I r (i v σ H Q q)
theorem PGs.imp (h:PGs X es t) (i:∀ v σ H Q,t' v σ H Q->t v σ H Q):PGs X es t':=fun pins s σ H v u Q I r q=>h pins s σ H v u Q I r (i v σ H Q q)
theorem SRel.zO (i:Nat) (s:SRel K Hs ρ σ H tot) (r:Rep K Hs d v):∃ tot',(∀ a∈tot',a∈tot)/\SRel K Hs (ρ.set i (some (.sh d))) (σ.set i (some v)) H tot':=by
 obtain ⟨t,a,b⟩:=s.sr.wg r i
 exact ⟨t,fun x hx=>a.subset hx,b,s.wf,a.nodup s.nod,fun x hx=>s.own x (a.subset hx)⟩
theorem aK (hN:X.N.Nodup) (hi:X.N[i]? = some x) (hx:Loc X.env.scope x) (hf:X.fn x=true\/X.env.scope.names.lookup x=some .local:=by first | exact .inl rfl | exact .inr rfl | assumption):QG X K (.Name x pos) (gN i) :=
 PG.imp (pg_name hN hi hx hf) fun v σ H Qv hx9=>by
  obtain ⟨Hs,ρ,tot,d,Q,sr,r,h,k⟩:=hx9
  obtain ⟨t,m,s⟩:=sr.zO i r
  exact k _ _ t s m h
theorem pJ:QGs X K [] sG:=PGs.imp pgs_nil fun v σ H Qv hx9=>by
 obtain ⟨Hs,ρ,tot,ds,Q,sr,r,h,k⟩:=hx9
 obtain ⟨rfl,h⟩:=h
 cases r
 exact ⟨rfl,k σ ρ tot sr (fun _ z=>z) h⟩
theorem cU (h1:QG X K e g) (h2:QGs X K es gs) (hs:(assignEach (e :: es) X.env).map (·.2)=assign e X.env :: (assignEach es X.env).map (·.2):=by rfl):QGs X K (e :: es) (eZ g gs) :=
 PGs.imp (pgs_cons h1 h2 hs) fun v σ H Qv hx9=>by
  obtain ⟨Hs,ρ,tot,ds,Q,sr,r,h,k⟩:=hx9
  cases r with
  | nil=>exact h.elim
  | cons r rs=>exact ⟨_,_,rfl,Hs,ρ,tot,_,_,sr,r,h,fun σ2 ρ2 tot2 sr2 m2 q2=>⟨Hs,ρ2,tot2,_,Q,sr2,rs,q2,fun σ3 ρ3 tot3 sr3 m3=>k σ3 ρ3 tot3 sr3 fun a h=>m2 a (m3 a h)⟩⟩
theorem tO (hc:X.calm=true) (h:QGs X K es gs) (hn:(assignEach es X.env).length=n:=by rfl) (hst:(assignEach es X.env).findIdx? (·.1)=none:=by rfl):QG X K (.Tuple es k pos) (gT n gs) :=
 PG.imp (pg_tup hc h hn hst) fun v σ H Qv hx9=>by
  obtain ⟨Hs,ρ,tot,d,Q,sr,r,h,k⟩:=hx9
  cases r with
  | tup z e rs=>exact ⟨_,_,rfl,.inl (.inl (sr.wf.sub _ _ e)),by rw [<- rs.length]; exact h.1,Hs,ρ,tot,_,Q,sr,rs,h.2,k⟩
  | _=>exact h.elim
end
abbrev WI:=Env->(List D->Prop)->Prop
structure lz (K:PySem.W.Frag) (J:It) (ds:List D) (C:Hp->Hp->Prop):Prop where
 go:∀ i Hs H,C Hs H->Wf Hs H->i<ds.length->J.go i H
 yld:∀ i Hs H x H' d,C Hs H->Wf Hs H->ds[i]? = some d->J.yld i H x H'->∃ Hs',Grow Hs H Hs' H'/\Rep K Hs' d x
 stop:∀ Hs H,C Hs H->Wf Hs H->J.stop ds.length H
abbrev vz (K:PySem.W.Frag) (Hs:Hp) (J:It) (ds:List D):Prop:=lz K J ds fun G _=>Same Hs G
def zipD (xs ys:List D):List D:=List.zipWith (fun x y=>.tup [x,y]) xs ys
section
variable {K:PySem.W.Frag} {Hs:Hp} {J:It} {ds es:List D} {C C':Hp->Hp->Prop} {a b:Addr}
theorem lz.imp (S:lz K J ds C) (h:∀ Hs H,C' Hs H->C Hs H):lz K J ds C':=⟨fun i Hs H c=>S.go i Hs H (h _ _ c),fun i Hs H x H' d c=>S.yld i Hs H x H' d (h _ _ c),fun Hs H c=>S.stop Hs H (h _ _ c)⟩
theorem lz.seq (rs:Reps K Hs ds vs) (S:nP J vs fun H=>Same Hs H):vz K Hs J ds where
 go:=fun i G H s w h=>S.go i H (s.trans w.sub) (by rw [<- rs.length]; exact h)
 yld:=fun i G H x H' d s w h y=>by
  have hi:i<ds.length:=by
   rcases xbZ i ds.length with q | q
   ·exact q
   ·rw [xaK q] at h; cases h
  obtain ⟨e,z⟩:=S.yld i H x H' (s.trans w.sub) (by rw [<- rs.length]; exact hi) y
  subst e
  obtain ⟨d',ed,rd⟩:=rs.getV z
  rw [h] at ed; cases ed
  exact ⟨G,Grow.refl w,rd.same s⟩
 stop:=fun G H s w=>by rw [rs.length]; exact S.stop H (s.trans w.sub)
abbrev qM (K:PySem.W.Frag) (a:Addr) (ds:List D) (C:Hp->Hp->Prop):Prop:=∀ Hs H,C Hs H->Wf Hs H->∃ vs,SqL K H a vs/\Reps K Hs ds vs
theorem lz.list (h:qM K a ds C):lz K (Itl K a) ds C where
 go:=fun i G H c w hi=>by
  obtain ⟨vs,q,rs⟩:=h G H c w
  exact ⟨vs,vs[i]'(by rw [<- rs.length]; exact hi),q,by simp⟩
 yld:=fun i G H x H' d c w hd y=>by
  obtain ⟨vs,q,rs⟩:=h G H c w
  obtain ⟨rfl,y⟩:=y
  obtain ⟨d',ed,rd⟩:=rs.getV (y vs q)
  rw [hd] at ed; cases ed
  exact ⟨G,Grow.refl w,rd⟩
 stop:=fun G H c w=>by
  obtain ⟨vs,q,rs⟩:=h G H c w
  exact ⟨vs,q,by rw [rs.length]; exact xaf _⟩
theorem lz.zip (h:qM K a ds C) (h2:qM K b es C):lz K (Itz K a b) (zipD ds es) C where
 go:=fun i G H c w hi=>by
  obtain ⟨vs,q,rs⟩:=h G H c w
  obtain ⟨us,q2,rs2⟩:=h2 G H c w
  rw [zipD,List.length_zipWith] at hi
  have:=rs.length
  have:=rs2.length
  exact ⟨vs,us,vs[i]'(by lia),us[i]'(by lia),q,q2,by simp,by simp⟩
 yld:=fun i G H x H' d c w hd y=>by
  obtain ⟨vs,q,rs⟩:=h G H c w
  obtain ⟨us,q2,rs2⟩:=h2 G H c w
  obtain ⟨p,u,v,rfl,hp,rfl,y,y2⟩:=y
  obtain ⟨d1,ed,rd⟩:=rs.getV (y vs q)
  obtain ⟨d2,ed2,rd2⟩:=rs2.getV (y2 us q2)
  have:d=.tup [d1,d2]:=by
   simp only [zipD,List.getElem?_zipWith,ed,ed2] at hd
   cases hd; rfl
  subst this
  have g:=newT (vs:=[u,v]) w hp
  exact ⟨_,g,.tup (vs:=[u,v]) C_ upd_same (.cons (rd.same g.sh) (.cons (rd2.same g.sh) .nil))⟩
 stop:=fun G H c w=>by
  obtain ⟨vs,q,rs⟩:=h G H c w
  obtain ⟨us,q2,rs2⟩:=h2 G H c w
  have:=rs.length
  have:=rs2.length
  exact ⟨vs,us,q,q2,by rw [zipD,List.length_zipWith]; lia⟩
theorem tQ (s:SqL K Hs a vs) (rs:Reps K Hs ds vs):qM K a ds fun G _=>Same Hs G:=fun G H c w=>⟨vs,Same.seq (c.trans w.sub) s,rs.same c⟩
end
def tpI (K:PySem.W.Frag) (wi:WI):TI:=fun σ H R=>∃ Hs ρ tot Q,SRel K Hs ρ σ H tot/\wi ρ Q/\∀ J H' Hs' ds,Grow Hs H Hs' H'->vz K Hs' J ds->ds.length<=sizeLine->Q ds->R J H'
abbrev QI (X:Cx) (K:PySem.W.Frag) (tg iter:Expr) (wi:WI):Prop:=PI X tg iter (tpI K wi)
def nZ:Md->Prop
 | .bo=>False
 | _=>True
def oX (te:WE):WI:=fun ρ Q=>te ρ fun m d=>nZ m/\match d with
 | .list xs=>Q xs
 | _=>False
def nu (lo:Int) (n:Nat):List D:=(List.range n).map fun i=>.int (lo+(i:Nat))
def cg (te:WE):WI:=fun ρ Q=>te ρ fun _ d=>match d with
 | .int j=>j<=16777216/\-(2 ^ 62)<=j/\Q (nu 0 j.toNat)
 | _=>False
section
variable {X:Cx} {K:PySem.W.Frag} {e e2 tg:Expr} {te te2:WE} {pos p:Pos}
theorem PI.imp (h:PI X tg iter t) (i:∀ σ H R,t' σ H R->t σ H R):PI X tg iter t':=fun pins s σ H R I q=>h pins s σ H R I (i σ H R q)
theorem nP.imp {J:It} (s:nP J vs c) (h:∀ H,c' H->c H):nP J vs c':=⟨fun i H q=>s.go i H (h H q),fun i H x H' q=>s.yld i H x H' (h H q),fun H q=>s.stop H (h H q)⟩
theorem RM.zq (g:Grow Hs H Hs1 H1) (r:RM K Hs1 H1 m d v As) (f:cG Hs1 H As) (h:nZ m):∃ Hs2,Grow Hs H Hs2 H1/\Rep K Hs2 d v:=by
 cases m with
 | sh=>exact ⟨Hs1,g,r.2⟩
 | bo=>exact h.elim
 | ow fl =>
  have n:∀ a∈As,Hs1 a=none:=fun a ha=>(f.2 a ha).1
  have o:=r.own
  refine ⟨frzH Hs1 H1 As,⟨g.all,g.sh.trans (fX n),uq g.wf o,fun a h=>?_⟩,RepO.rep (fX n) r.1 fun a ha=>by unfold frzH; rw [if_pos ha]⟩
  unfold frzH at h
  by_cases m:a∈As
  ·exact .inr (f.2 a m).2
  ·rw [if_neg m] at h; exact g.new a h
theorem vL (he:QE X K e te) (hK:X.K=K:=by rfl):QI X K tg e (oX te):=by
 subst hK
 refine PI.imp (pi_list he) fun σ H R hx=>ex4 hx fun Hs ρ tot Q sr h k=>⟨Hs,ρ,tot,_,sr,h,fun v H1 Hs1 m d As g1 r1 f1 q1=>?_⟩
 obtain ⟨nb,q1⟩:=q1
 obtain ⟨Hs2,g2,r2⟩:=r1.zq g1 f1 nb
 cases r2 with
 | list z s rs=>exact ⟨_,rfl,⟨_,Same.seq g2.wf.sub s⟩,k _ H1 Hs2 _ g2 (.seq rs (nP.imp (xX X.K _ _) fun H' s'=>Same.seq s' s)) (by rw [rs.length]; exact z) q1⟩
 | _=>exact q1.elim
theorem nJ (lo:Int):∀ (l:List Nat),Reps K H (l.map fun i=>.int (lo+(i:Nat))) (l.map fun i=>V.int (lo+(i:Nat)))
 | []=>.nil
 | c :: l=>.cons (.int _) (nJ lo l)
theorem bU (hm:X.mg "range" = none) (he:QE X K e te) (hg:Gl X "range" := by rfl) (hs:starEach [e] X.env=(false,eval e X.env) :: starEach [] X.env:=by rfl) (hs':starEach [e] X.env=[(false,eval e X.env)]:=by rfl):QI X K tg (.Call (.Name "range" p) [e] [] pos) (cg te):=by
 refine PI.imp (pi_range1 hg hm (pa_cons he pa_nil hs) hs') fun σ H R hx=>ex4 hx fun Hs ρ tot Q sr h k=>⟨Hs,ρ,tot,_,sr,h,fun v H1 Hs1 m d As g1 r1 f1 q1=>?_⟩
 have r:=r1.rep g1.wf
 cases r with
 | int j =>
  obtain ⟨h1,h2,q1⟩:=q1
  exact ⟨j,rfl,h2,by lia,k _ H1 Hs1 _ g1 (.seq (nJ 0 _) (nP.imp (Bd _ _) fun _ _=>trivial)) (by rw [xag,xcn,sizeLine_eq]; lia) q1⟩
 | _=>exact q1.elim
section
variable {X:Cx} {K:PySem.W.Frag} {e tg:Expr} {te:WE}
def tpIb (K:PySem.W.Frag) (wi:WI):TI:=fun σ H R=>∃ Hs ρ tot Q,SRel K Hs ρ σ H tot/\wi ρ Q/\∀ J H' Hs' ds,Grow Hs H Hs' H'->vz K H' J ds->ds.length<=sizeLine->Q ds->R J H'
abbrev QIb (X:Cx) (K:PySem.W.Frag) (tg iter:Expr) (wi:WI):Prop:=PI X tg iter (tpIb K wi)
theorem iW (h:QI X K tg iter wi):QIb X K tg iter wi:=PI.imp h fun σ H R hx=>ex4 hx fun Hs ρ tot Q sr h k=>⟨Hs,ρ,tot,Q,sr,h,fun J H' Hs' ds g w z q=>k J H' Hs' ds g (w.imp fun G H s=>g.wf.sub.trans s) z q⟩
def iy (te:WE):WI:=fun ρ Q=>te ρ fun _ d=>match d with
 | .list xs=>Q xs
 | _=>False
theorem jn (he:QE X K e te) (hK:X.K=K:=by rfl):QIb X K tg e (iy te):=by
 subst hK
 refine PI.imp (pi_list he) fun σ H R hx=>ex4 hx fun Hs ρ tot Q sr h k=>⟨Hs,ρ,tot,_,sr,h,fun v H1 Hs1 m d As g1 r1 f1 q1=>?_⟩
 have r:=r1.rep g1.wf
 cases r with
 | list z s rs=>exact ⟨_,rfl,⟨_,s⟩,k _ H1 Hs1 _ g1 (.list (tQ s rs)) (by rw [rs.length]; exact z) q1⟩
 | _=>exact q1.elim
end
def n8 (g:WG) (b:WS) (E:lK):List D->Env->Prop
 | [],ρ=>E.nx ρ
 | x :: xs,ρ=>g x ρ fun ρ1=>b { E with nx:=n8 g b E xs,ct:=n8 g b E xs,bk:=E.nx } ρ1
def wFor (wi:WI) (g:WG) (b:WS):WS:=fun E ρ=>wi ρ fun ds=>n8 g b E ds ρ
variable {wi:WI} {g:WG} {b:WS} {body:List Stmt}
theorem fM (hp:PassesOwn (model X.prog X.w) X.A X.env X.xe) (hc:X.calm=true) (hi:QI X K tg iter wi) (hg:QG X K tg g) (hb:QSs X K L body b) (hs:∀ x,foldedSetIterable iter X.env x=pure x:=by intro _; rfl) :
  QS X K L (.For tg iter body [] pos) (wFor wi g b):=by
 refine PS.imp (ps_for hp hc hi hg hb hs) fun D σ H hx=>mq hx fun Hs ρ tot E sr h k1 k2 k3 k4 kx=>?_
 rw [zT]
 refine ⟨Hs,ρ,tot,_,sr,h,fun J H1 Hs1 ds g1 S hz q1=>?_⟩
 refine ⟨fun i m σ H=>m=ds.length - i/\i<=ds.length/\∃ Hs' ρ' tot',Same Hs1 Hs'/\SRel K Hs' ρ' σ H tot'/\n8 g b E (ds.drop i) ρ',⟨ds.length,by simp,xas _,Hs1,ρ,tot,Same.refl _,sr.grow g1,by simpa using q1⟩,?_⟩
 rintro i m σ2 H2 ⟨rfl,hi,Hs2,ρ2,tot2,s2,sr2,q2⟩
 by_cases hlt:i<ds.length
 ·refine .inr ⟨S.go i Hs2 H2 s2 sr2.wf hlt,fun σ3 H3=>∃ Hs' ρ' tot',Same Hs1 Hs'/\SRel K Hs' ρ' σ3 H3 tot'/\n8 g b E (ds.drop (i+1)) ρ',fun σ3 H3 h3=>⟨ds.length - (i+1),by lia,rfl,hlt,h3⟩,fun x H3 y=>?_⟩
  obtain ⟨Hs3,g3,rd⟩:=S.yld i Hs2 H2 x H3 ds[i] s2 sr2.wf (by simp [hlt]) y
  rw [xaI hlt] at q2
  have s3:=s2.trans g3.sh
  refine ⟨Hs3,ρ2,tot2,ds[i],_,sr2.grow g3,rd,q2,fun σ4 ρ4 tot4 sr4 _ q4=>?_⟩
  refine ⟨Hs3,ρ4,tot4,_,sr4,q4,?_,?_,?_,?_,fun n H5 s5=>kx n H5 ((g1.sh.trans s3).trans s5)⟩
  ·exact fun σ5 H5 Hs5 ρ5 tot5 s5 sr5 q5=>⟨Hs5,ρ5,tot5,s3.trans s5,sr5,q5⟩
  ·exact fun σ5 H5 Hs5 ρ5 tot5 s5 sr5 q5=>k1 σ5 H5 Hs5 ρ5 tot5 ((g1.sh.trans s3).trans s5) sr5 q5
  ·exact fun σ5 H5 Hs5 ρ5 tot5 s5 sr5 q5=>⟨Hs5,ρ5,tot5,s3.trans s5,sr5,q5⟩
  ·exact fun v H5 Hs5 m d As s5=>k4 v H5 Hs5 m d As ((g1.sh.trans s3).trans s5)
 ·have e:i=ds.length:=by lia
  subst e
  refine .inl ⟨S.stop Hs2 H2 s2 sr2.wf,?_⟩
  rw [xcr] at q2
  exact k1 σ2 H2 Hs2 ρ2 tot2 (g1.sh.trans s2) sr2 q2
theorem dD (xs:List D) (Pv:Nat->Env->Prop) (h0:Pv 0 ρ)
  (hs:∀ i x ρ,xs[i]? = some x->Pv i ρ->∀ N:Env->Prop,(∀ ρ',Pv (i+1) ρ'->N ρ')->g x ρ fun ρ1=>b { E with nx:=N,ct:=N,bk:=E.nx } ρ1)
  (hd:∀ ρ,Pv xs.length ρ->E.nx ρ):n8 g b E xs ρ:=by
 have go:∀ (k i:Nat) (ρ:Env),i+k=xs.length->Pv i ρ->n8 g b E (xs.drop i) ρ:=by
  intro k
  induction k with
  | zero =>
   intro i ρ e p
   have:i=xs.length:=by lia
   subst this
   rw [xcr]
   exact hd ρ p
  | succ k ih =>
   intro i ρ e p
   have hi:i<xs.length:=by lia
   rw [xaI hi]
   exact hs i xs[i] ρ (by simp [hi]) p _ fun ρ2 h2=>ih (i+1) ρ2 (by lia) h2
 have:=go xs.length 0 ρ (by lia) h0
 simpa using this
def yK (c:WT) (b:WS):WS:=fun E ρ=>∃ (Pv:Env->Prop) (μ:Env->Nat),Pv ρ/\∀ ρ,Pv ρ->c ρ fun k=>if k=true then b { E with nx:=fun ρ'=>Pv ρ'/\μ ρ'<μ ρ,ct:=fun ρ'=>Pv ρ'/\μ ρ'<μ ρ,bk:=E.nx } ρ else E.nx ρ
theorem wQ (hp:PassesOwn (model X.prog X.w) X.A X.env X.xe) (hc:QT X K c tc) (hb:QSs X K L body b):QS X K L (.While c body [] pos) (yK tc b):=by
 refine PS.imp (ps_while hp hc hb) fun D σ H hx=>mq hx fun Hs ρ tot E sr h k1 k2 k3 k4 kx=>?_
 obtain ⟨Pv,μ,p0,turn⟩:=h
 refine ⟨fun m σ H=>∃ Hs' ρ' tot',Same Hs Hs'/\SRel K Hs' ρ' σ H tot'/\Pv ρ'/\μ ρ'=m,⟨_,Hs,ρ,tot,Same.refl _,sr,p0,rfl⟩,?_⟩
 rintro m σ2 H2 ⟨Hs2,ρ2,tot2,s2,sr2,p2,rfl⟩
 refine ⟨Hs2,ρ2,tot2,_,sr2,turn ρ2 p2,fun k H3 Hs3 g3 q3=>?_⟩
 cases k with
 | false=>exact k1 σ2 H3 Hs3 ρ2 tot2 (s2.trans g3.sh) (sr2.grow g3) q3
 | true =>
  refine ⟨fun σ' H'=>∃ Hs' ρ' tot',Same Hs Hs'/\SRel K Hs' ρ' σ' H' tot'/\Pv ρ'/\μ ρ'<μ ρ2,fun σ' H' ⟨Hs',ρ',tot',a,b,c,d⟩=>⟨μ ρ',d,Hs',ρ',tot',a,b,c,rfl⟩,?_⟩
  have s3:Same Hs Hs3:=s2.trans g3.sh
  refine ⟨Hs3,ρ2,tot2,_,sr2.grow g3,q3,?_,?_,?_,?_,fun n H5 s5=>kx n H5 (s3.trans s5)⟩
  ·exact fun σ5 H5 Hs5 ρ5 tot5 s5 sr5 q5=>⟨Hs5,ρ5,tot5,s3.trans s5,sr5,q5.1,q5.2⟩
  ·exact fun σ5 H5 Hs5 ρ5 tot5 s5 sr5 q5=>k1 σ5 H5 Hs5 ρ5 tot5 (s3.trans s5) sr5 q5
  ·exact fun σ5 H5 Hs5 ρ5 tot5 s5 sr5 q5=>⟨Hs5,ρ5,tot5,s3.trans s5,sr5,q5.1,q5.2⟩
  ·exact fun v H5 Hs5 m d As s5=>k4 v H5 Hs5 m d As (s3.trans s5)
end
def wYes:WT:=fun _ Q=>Q true
def okEl (m:Md) (d:D):Prop:=d.flat=true\/m=.ow true
def gh (g:WG) (tc:WT) (te:WE):List D->Env->(List D->Prop)->Prop
 | [],_,k=>k []
 | x :: xs,ρ,k=>g x ρ fun ρ1=>tc ρ1 fun b=>if b=true then te ρ1 fun m d=>okEl m d/\gh g tc te xs ρ1 (fun out=>k (d :: out)) else gh g tc te xs ρ1 k
def Af (tn:Nat) (ix:List Nat) (ρ:Env):Env:=List.replicate tn none++ix.map fun j=>(ρ[j]?).join.map shC
def d_ (wi:WI) (g:WG) (tc:WT) (te:WE) (tn:Nat) (ix:List Nat):WE:=fun ρ Q=>wi ρ fun ds=>gh g tc te ds (Af tn ix ρ) fun out=>Q (.ow true) (.list out)
section
variable {X:Cx} {K:PySem.W.Frag}
theorem kJ {Hs H G:Hp} (sr:SRel K Hs ρ σ H tot) (G':Hp):∀ (ix:List Nat),SR K H G' (ix.map fun j=>(ρ[j]?).join.map shC) (ix.map fun j=>(σ[j]?).join) []
 | []=>.nil
 | j :: ix=>by
  have ih:=kJ sr G' ix (G:=G)
  simp only [xat]
  cases e:ρ[j]? with
  | none=>exact .non ih
  | some o =>
   cases o with
   | none=>exact .non ih
   | some sl =>
    obtain ⟨v,e1,r⟩:=sr.sr.get e
    rw [e1]
    cases sl with
    | sh d=>exact .sh (Rep.same sr.wf.sub r) ih
    | xc a=>subst r; exact .xc ih
    | ow fl d =>
     obtain ⟨As,_,r,_⟩:=r
     exact .sh (r.rep sr.wf.sub fun _ _=>rfl) ih
    | lk a fl d =>
     obtain ⟨As,_,r,_⟩:=r
     exact .sh (r.rep sr.wf.sub fun _ _=>rfl) ih
theorem m7 (s:SR K H G ρ σ []):∀ (n:Nat),SR K H G (List.replicate n none++ρ) (List.replicate n none++σ) []
 | 0=>s
 | n+1=>.non (m7 s n)
theorem SR.heap (s:SR K Hs H ρ σ []):SR K Hs H' ρ σ []:=s.stay (Same.refl _) fun a h=>nomatch h
theorem ud (w:Wf Hs H) (n:Hs p=none) (ho:∀ vs,o≠.tup vs):Wf Hs (upd H p o):=⟨fun b u q=>by
  rw [upd_ne (fun z=>by subst z; rw [n] at q; cases q)]; exact w.sub b u q,fun b us q=>by
  by_cases hb:b=p
  ·subst hb; rw [upd_same] at q; exact absurd (Option.some.inj q) (ho us)
  ·rw [upd_ne hb] at q; exact w.tups b us q⟩
structure CompI (K:PySem.W.Frag) (H1:Hp) (b:Addr) (acc:List D) (ys:List V) (As:List Addr) (Hs:Hp) (ρ:Env) (τ:St) (H:Hp):Prop where
 sm:Same H1 Hs
 sr:SRel K Hs ρ τ H []
 eD:H b=some (.lst ys)
 nD:Hs b=none
 ra:aA K Hs H true acc ys As
 nd:(b :: As).Nodup
 own:∀ a∈As,Hs a=none
theorem CompI.grow (c:CompI K H1 b acc ys As Hs ρ τ H) (g:Grow Hs H Hs' H'):CompI K H1 b acc ys As Hs' ρ τ H' :=
 ⟨c.sm.trans g.sh,c.sr.grow g,g.all _ _ c.eD,g.hsn c.nD (by rw [c.eD]; exact fun z=>nomatch z),c.ra.grow g.sh g.all,c.nd,fun a ha=>g.hsn (c.own a ha) (c.ra.own a ha).ne⟩
theorem CompI.push (c:CompI K H1 b acc ys As Hs ρ τ H) (r:RM K Hs H m d v Bs) (ok:okEl m d) (nb:Bs.Nodup) (fb:∀ a∈Bs,Hs a=none/\a∉b :: As):∃ As',CompI K H1 b (acc++[d]) (ys++[v]) As' Hs ρ τ (upd H b (.lst (ys++[v]))):=by
 obtain ⟨B,sb,rb⟩:∃ B,B.Sublist Bs/\RepO K Hs H true d v B:=by
  rcases ok with hf | rfl
  ·exact ⟨[],xbi _,.sh (fun _=>hf) (r.flat c.sr.wf hf)⟩
  ·exact ⟨Bs,List.Sublist.refl _,r.1⟩
 obtain ⟨na,nA⟩:=xaH.mp c.nd
 have fb':=fun a ha=>fb a (sb.subset ha)
 refine ⟨As++(B++[]),c.sm,⟨c.sr.sr.heap,ud c.sr.wf c.nD (fun _ z=>nomatch z),xaR,fun a h=>nomatch h⟩,upd_same,c.nD,(c.ra.stay (H':=upd H b (.lst (ys++[v]))) (Same.refl _) fun a ha=>upd_ne fun z=>na (by subst z; exact ha)).append (.cons (rb.stay (Same.refl _) fun a ha=>upd_ne fun z=>(fb' a ha).2 (by subst z; exact xad)) .nil),?_,?_⟩
 ·rw [xaX]
  refine xaH.mpr ⟨fun m=>(xai.mp m).elim na fun m=>(fb' b m).2 xad,xar.mpr ⟨nA,sb.nodup nb,fun x hx y hy e=>(fb' y hy).2 (e ▸ xab _ hx)⟩⟩
 ·rw [xaX]
  exact fun a ha=>(xai.mp ha).elim (c.own a) fun m=>(fb' a m).1
theorem jk (h:tpE K (d_ wi g tc te tn ix) σ H Qv):pO (tpIb K wi) (tpG K g) (tpT K tc) (tpE K te) tn ix σ H Qv:=by
 obtain ⟨Hs,ρ,tot,Q,sr,h,f⟩:=h
 rw [xO]
 refine ⟨Hs,ρ,tot,_,sr,h,fun J H1 Hs1 ds g1 S hz q1 b hb=>?_⟩
 have st:CompI K H1 b [] [] [] H1 (Af tn ix ρ) (lL tn ix σ) (upd H1 b (.lst [])):=by
  refine ⟨Same.refl _,⟨m7 (kJ (G:=H1) (sr.grow g1) _ ix) tn,⟨(Same.refl H1).upd hb,fun a xs e=>?_⟩,xaR,fun a h=>nomatch h⟩,upd_same,hb,.nil,by simp,fun a h=>nomatch h⟩
  by_cases ha:a=b
  ·subst ha; rw [upd_same] at e; cases e
  ·rw [upd_ne ha] at e; exact e
 refine ⟨fun i m τ H2=>m=ds.length - i/\i<=ds.length/\∃ Hs2 ρ2 acc ys As,CompI K H1 b acc ys As Hs2 ρ2 τ H2/\acc.length<=i/\gh g tc te (ds.drop i) ρ2 (fun out=>Q (.ow true) (.list (acc++out))),
  ⟨ds.length,by simp,xas _,H1,_,[],[],[],st,xaf _,by simpa using q1⟩,?_⟩
 rintro i m τ H2 ⟨rfl,hi,Hs2,ρ2,acc,ys,As,c,la,q2⟩
 by_cases hlt:i<ds.length
 ·refine .inr ⟨S.go i Hs2 H2 c.sm c.sr.wf hlt,
   fun τ3 v H4=>∃ Hs4 ρ4 d,CompI K H1 b acc ys As Hs4 ρ4 τ3 H4/\(∃ As',CompI K H1 b (acc++[d]) (ys++[v]) As' Hs4 ρ4 τ3 (upd H4 b (.lst (ys++[v]))))/\gh g tc te (ds.drop (i+1)) ρ4 (fun out=>Q (.ow true) (.list (acc++d :: out))),
   fun τ3 H3=>∃ Hs3 ρ3,CompI K H1 b acc ys As Hs3 ρ3 τ3 H3/\gh g tc te (ds.drop (i+1)) ρ3 (fun out=>Q (.ow true) (.list (acc++out))),?_,?_,?_⟩
  ·rintro τ3 v H4 ⟨Hs4,ρ4,d,c4,⟨As',c5⟩,q4⟩
   have lya:=c4.ra.length
   exact ⟨ys,ds.length - (i+1),c4.eD,by lia,by lia,rfl,hlt,Hs4,ρ4,acc++[d],ys++[v],As',c5,by rw [xaU]; simpa using la,by simpa using q4⟩
  ·rintro τ3 H3 ⟨Hs3,ρ3,c3,q3⟩
   exact ⟨ds.length - (i+1),by lia,rfl,hlt,Hs3,ρ3,acc,ys,As,c3,by lia,q3⟩
  ·intro x H3 y
   obtain ⟨Hs3,g3,rd⟩:=S.yld i Hs2 H2 x H3 ds[i] c.sm c.sr.wf (by simp [hlt]) y
   rw [xaI hlt] at q2
   have c3:=c.grow g3
   refine ⟨Hs3,ρ2,[],ds[i],_,c3.sr,rd,q2,fun τ4 ρ4 tot4 sr4 m4 q4=>?_⟩
   have t4:tot4=[]:=List.eq_nil_iff_forall_not_mem.mpr fun a ha=>nomatch m4 a ha
   subst t4
   have c4:CompI K H1 b acc ys As Hs3 ρ4 τ4 H3:=⟨c3.sm,sr4,c3.eD,c3.nD,c3.ra,c3.nd,c3.own⟩
   refine ⟨Hs3,ρ4,[],_,sr4,q4,fun k H5 Hs5 g5 q5=>?_⟩
   have c5:=c4.grow g5
   cases k with
   | false=>exact ⟨Hs5,ρ4,c5,q5⟩
   | true =>
    refine ⟨Hs5,ρ4,[],_,c5.sr,q5,fun v H6 Hs6 m6 d6 As6 g6 r6 f6 q6=>?_⟩
    have c6:=c5.grow g6
    refine ⟨Hs6,ρ4,d6,c6,c6.push r6 q6.1 f6.1 fun a ha=>⟨(f6.2 a ha).1,fun m=>?_⟩,q6.2⟩
    rcases xak.mp m with rfl | m
    ·have:=(f6.2 _ ha).2
     rw [c5.eD] at this; cases this
    ·exact (c5.ra.own a m).ne (f6.2 a ha).2
 ·have e:i=ds.length:=by lia
  subst e
  refine .inl ⟨S.stop Hs2 H2 c.sm c.sr.wf,?_⟩
  rw [xcr] at q2
  have q2:Q (.ow true) (.list (acc++[])):=q2
  rw [xaX] at q2
  have lya:=c.ra.length
  have rm:RM K Hs2 H2 (.ow true) (.list acc) (.ref b) (b :: As):=⟨.list (by lia) c.eD c.ra,by simp⟩
  obtain ⟨As',r',fr⟩:=o_ g1.wf c.sm c.sr.wf rm c.nd fun a ha=>(xak.mp ha).elim (fun z=>z ▸ c.nD) (c.own a)
  exact Fin.after f g1 (.ref b) H2 _ (.ow true) (.list acc) As' (gj g1.wf c.sm c.sr.wf) r' fr q2
theorem PTs.imp (h:PTs X ifs t) (i:∀ σ H Q,t' σ H Q->t σ H Q):PTs X ifs t':=fun pins s σ H Q I q=>h pins s σ H Q I (i σ H Q q)
abbrev QTs (X:Cx) (K:PySem.W.Frag) (ifs:List Expr) (t:WT):Prop:=PTs X ifs (tpT K t)
theorem cD:QTs X K [] wYes:=PTs.imp Av fun σ H Qv hx=>ex4 hx fun Hs ρ tot Q sr h k=>k true H Hs (Grow.refl sr.wf) h
theorem iw (hc:X.calm=true) (hi:QIb X K tg iter wi) (O:bx X scope tn cn ix)
  (hg:∀ C fp s₃ H₃,QG (cB X scope C (tn++cn) fp s₃ H₃) K tg g) (hcs:∀ C fp s₃ H₃,QTs (cB X scope C (tn++cn) fp s₃ H₃) K ifs tc) (he:∀ C fp s₃ H₃,QE (cB X scope C (tn++cn) fp s₃ H₃) K elt te)
  (hs:∀ x,foldedSetIterable iter X.env x=pure x:=by intro _; rfl):QE X K (.ListComp elt [⟨tg,iter,ifs,0⟩] scope pos) (d_ wi g tc te tn.length ix) :=
 PE.imp (Bc hc hi O hg hcs he hs) fun σ H Qv h=>jk h
end
theorem dq (p:D->Bool) (f:D->D) (Iv:Env->Prop):∀ (xs:List D) (ρ:Env) (k:List D->Prop),Iv ρ ->
  (∀ x∈xs,∀ ρ,Iv ρ->∀ N1:Env->Prop,∀ N2:Env->D->Prop,(∀ ρ',Iv ρ'->p x=false->N1 ρ')->(∀ ρ',Iv ρ'->p x=true->N2 ρ' (f x))->g x ρ fun ρ1=>tc ρ1 fun b=>if b=true then te ρ1 fun m d=>okEl m d/\N2 ρ1 d else N1 ρ1) ->
  k ((xs.filter p).map f)->gh g tc te xs ρ k
 | [],_,k,_,_,h=>h
 | x :: xs,ρ,k,iv,hs,h=>by
  refine hs x xad ρ iv _ _ (fun ρ' iv' hp=>?_) (fun ρ' iv' hp=>?_)
  ·exact dq p f Iv xs ρ' k iv' (fun y hy=>hs y (xab _ hy)) (by simpa [hp] using h)
  ·exact dq p f Iv xs ρ' _ iv' (fun y hy=>hs y (xab _ hy)) (by simpa [hp] using h)
def Upd (K:PySem.W.Frag) (Hs H:Hp) (σ:St) (fl:Bool) (v:V) (up:Bool->D->Env) (As':List Addr):Prop:=∀ Hs2 H2 fl2 d2 As2,Same Hs Hs2->Wf Hs2 H2->(∀ a,Hs a=none->H a≠none->Hs2 a=none)->(fl2=true->fl=true) ->
  RepO K Hs2 H2 fl2 d2 v As2->As2≠[]->As2.Nodup->(∀ a∈As2,Hs2 a=none/\(a∈As'\/H a=none))->(∀ a,H a≠none->a∉As'->H2 a=H a)->∃ tot2,SRel K Hs2 (up fl2 d2) σ H2 tot2
structure Place (K:PySem.W.Frag) (Hs H:Hp) (σ:St) (fl:Bool) (d:D) (v:V) (up:Bool->D->Env):Prop where
 ex:∃ As',RepO K Hs H fl d v As'/\As'≠[]/\As'.Nodup/\(∀ a∈As',Hs a=none)/\Upd K Hs H σ fl v up As'
theorem Upd.node {K:PySem.W.Frag} {Hs H Hs2 H2:Hp} {σ:St} {fl fl2:Bool} {up:Bool->D->Env} {a:Addr} {A C:List Addr} {o:HO} {d2:D} (k:Upd K Hs H σ fl (.ref a) up (a :: A)) (g:Grow Hs H Hs2 H2) (own:∀ x∈a :: A,Hs x=none/\H x≠none) (ho:∀ vs,o≠.tup vs) (hf:fl2=true->fl=true)
  (r:RepO K Hs2 (upd H2 a o) fl2 d2 (.ref a) (a :: C)) (nC:C.Nodup) (naC:a∉C) (hC:∀ x∈C,x∈A\/(Hs2 x=none/\H x=none)):∃ tot2,SRel K Hs2 (up fl2 d2) σ (upd H2 a o) tot2:=by
 have hn:∀ x∈a :: A,Hs2 x=none:=fun x hx=>g.hsn (own x hx).1 (own x hx).2
 refine k Hs2 _ fl2 d2 (a :: C) g.sh (ud g.wf (hn a xad) ho) (fun b h1 h2=>g.hsn h1 h2) hf r (xcc _ _) (xaH.mpr ⟨naC,nC⟩) (fun b hb=>?_) fun b h1 h2=>?_
 ·rcases xak.mp hb with rfl | hb
  ·exact ⟨hn _ xad,.inl xad⟩
  ·exact (hC b hb).elim (fun q=>⟨hn b (xab _ q),.inl (xab _ q)⟩) fun q=>⟨q.1,.inr q.2⟩
 ·rw [upd_ne fun z=>h2 (by subst z; exact xad)]
  cases q:H b with
  | none=>exact absurd q h1
  | some o=>exact g.all b o q
abbrev WP:=Env->(Bool->D->(Bool->D->Env)->Prop)->Prop
def tpP (K:PySem.W.Frag) (t:WP):TE:=fun σ H Qv=>∃ Hs ρ tot Q,SRel K Hs ρ σ H tot/\t ρ Q/\∀ v H' Hs' fl d up,Grow Hs H Hs' H'->Place K Hs' H' σ fl d v up->Q fl d up->Qv v H'
abbrev QP (X:Cx) (K:PySem.W.Frag) (e:Expr) (t:WP):Prop:=PE X e (tpP K t)
section
variable {K:PySem.W.Frag} {Hs H Hs' H':Hp} {σ:St} {fl:Bool} {d:D} {v:V} {up:Bool->D->Env}
theorem Place.grow (p:Place K Hs H σ fl d v up) (g:Grow Hs H Hs' H'):Place K Hs' H' σ fl d v up:=by
 obtain ⟨As',r,ne,nd,own,k⟩:=p.ex
 refine ⟨As',r.grow g.sh g.all,ne,nd,fun a h=>g.hsn (own a h) (r.own a h).ne,fun Hs2 H2 fl2 d2 As2 s2 w2 n2 hf r2 ne2 nd2 o2 st=>?_⟩
 refine k Hs2 H2 fl2 d2 As2 (g.sh.trans s2) w2 (fun a h1 h2=>n2 a (g.hsn h1 h2) ?_) hf r2 ne2 nd2 (fun a h=>⟨(o2 a h).1,(o2 a h).2.imp id g.all.free⟩) fun a h1 h2=>?_
 ·cases e:H a with
  | none=>exact absurd e h2
  | some o=>rw [g.all a o e]; exact fun z=>nomatch z
 ·cases e:H a with
  | none=>exact absurd e h1
  | some o =>
   have:=g.all a o e
   rw [<- this]
   exact st a (by rw [this]; exact fun z=>nomatch z) h2
theorem RepO.ne2:(∀ {d:D} {v:V} {As:List Addr},RepO K Hs H true d v As->d.flat=false->As≠[])/\∀ {ds:List D} {vs:List V} {As:List Addr},aA K Hs H true ds vs As->flats ds=false->As≠[] :=
 RepO.ind (m1:=fun d _ As=>d.flat=false->As≠[]) (m2:=fun ds _ As=>flats ds=false->As≠[]) (fun _ _ f _ h=>by rw [f rfl] at h; cases h) (fun _ _ _ _ _ _ _ _ _=>xcc _ _) (fun _ _ _ _ _ _ n _ ih _=>ih n) (fun _ _ _ _ _ _ _ _ _=>xcc _ _) (fun _ _ _ _ _ _ _ _ _=>xcc _ _)
  (fun h=>by simp [flats] at h) fun d _ _ _ _ _ _ _ i1 i2 h=>by
   cases e:d.flat with
   | false=>exact fun z=>i1 e (xbr.mp z).1
   | true =>
    simp only [flats,e,Bool.true_and] at h
    exact fun z=>i2 h (xbr.mp z).2
theorem RepO.ne {d:D} {v:V} {As:List Addr} (r:RepO K Hs H true d v As) (h:d.flat=false):As≠[]:=RepO.ne2.1 r h
theorem aA.ne {ds:List D} {vs:List V} {As:List Addr} (r:aA K Hs H true ds vs As) (h:flats ds=false):As≠[]:=RepO.ne2.2 r h
theorem RepO.nil_of {fl:Bool} {d:D} {v:V} {As:List Addr} (r:RepO K Hs H fl d v As) (h:d.flat=true):As=[]:=by
 cases r with
 | sh _ _=>rfl
 | tup _ _ n _=>simp [D.flat,n] at h
 | _=>simp [D.flat] at h
def wpN (i:Nat):WP:=fun ρ Q=>match ρ[i]? with
 | some (some (.ow fl d))=>Q fl d fun fl2 d2=>ρ.set i (some (.ow fl2 d2))
 | _=>False
theorem SR.put {Hs H:Hp} {fl:Bool} {d:D} {ρ:Env} {σ:St} {tot:List Addr} (i:Nat) (s:SR K Hs H ρ σ tot):ρ[i]? = some (some (.ow fl d))->tot.Nodup ->
  ∃ (v:V) (As tot':List Addr),σ[i]? = some (some v)/\As≠[]/\RepO K Hs H fl d v As/\As.Sublist tot/\∀ Hs2 H2 fl2 d2 As2,Same Hs Hs2->RepO K Hs2 H2 fl2 d2 v As2->As2≠[]->As2.Nodup->(∀ a∈As2,a∈tot->a∈As)->(∀ a∈tot,a∉As->H2 a=H a) ->
   ∃ tot2,tot2.Nodup/\(∀ a∈tot2,a∈tot\/a∈As2)/\SR K Hs2 H2 (ρ.set i (some (.ow fl2 d2))) σ tot2:=by
 induction s generalizing i with
 | nil=>intro e; simp at e
 | @non ρ σ tot o q ih =>
  intro e n
  cases i with
  | zero=>simp at e
  | succ i =>
   obtain ⟨v,As,t,a,b,c,d,g⟩:=ih i (by simpa using e) n
   refine ⟨v,As,t,by simpa using a,b,c,d,fun Hs2 H2 fl2 d2 As2 s2 r2 ne2 nd2 dj st=>?_⟩
   obtain ⟨t2,x,y,z⟩:=g Hs2 H2 fl2 d2 As2 s2 r2 ne2 nd2 dj st
   exact ⟨t2,x,y,.non z⟩
 | sh r q ih =>
  intro e n
  cases i with
  | zero=>simp at e
  | succ i =>
   obtain ⟨v,As,t,a,b,c,d,g⟩:=ih i (by simpa using e) n
   refine ⟨v,As,t,by simpa using a,b,c,d,fun Hs2 H2 fl2 d2 As2 s2 r2 ne2 nd2 dj st=>?_⟩
   obtain ⟨t2,x,y,z⟩:=g Hs2 H2 fl2 d2 As2 s2 r2 ne2 nd2 dj st
   exact ⟨t2,x,y,.sh (r.same s2) z⟩
 | xc q ih =>
  intro e n
  cases i with
  | zero=>simp at e
  | succ i =>
   obtain ⟨v,As,t,a,b,c,d,g⟩:=ih i (by simpa using e) n
   refine ⟨v,As,t,by simpa using a,b,c,d,fun Hs2 H2 fl2 d2 As2 s2 r2 ne2 nd2 dj st=>?_⟩
   obtain ⟨t2,x,y,z⟩:=g Hs2 H2 fl2 d2 As2 s2 r2 ne2 nd2 dj st
   exact ⟨t2,x,y,.xc z⟩
 | @ow ρ σ t2 B fl0 d0 v ne r q ih =>
  intro e n
  obtain ⟨n1,n2,n3⟩:=xar.mp n
  cases i with
  | zero =>
   simp at e
   obtain ⟨rfl,rfl⟩:=e
   refine ⟨v,B,t2,rfl,ne,r,xbb _ _,fun Hs2 H2 fl2 d2 As2 s2 r2 ne2 nd2 dj st=>⟨As2++t2,xar.mpr ⟨nd2,n2,fun a ha b hb e=>?_⟩,fun a h=>?_,.ow ne2 r2 (q.stay s2 fun a h=>st a (xah _ h) fun z=>n3 a z a h rfl)⟩⟩
   ·subst e
    exact n3 a (dj a ha (xah _ hb)) a hb rfl
   ·exact (xai.mp h).symm.imp (fun z=>xah _ z) id
  | succ i =>
   obtain ⟨v,As,t,a,b,c,d,g⟩:=ih i (by simpa using e) n2
   have hB:∀ x∈B,x∉As:=fun x hx m=>n3 x hx x (d.subset m) rfl
   refine ⟨v,As,B++t,by simpa using a,b,c,d.trans (xav _ _),fun Hs2 H2 fl2 d2 As2 s2 r2 ne2 nd2 dj st=>?_⟩
   obtain ⟨t2,x,y,z⟩:=g Hs2 H2 fl2 d2 As2 s2 r2 ne2 nd2 (fun a ha m=>dj a ha (xah _ m)) fun a ha m=>st a (xah _ ha) m
   refine ⟨B++t2,xar.mpr ⟨n1,x,fun a ha b hb e=>?_⟩,fun a h=>?_,.ow ne (r.stay s2 fun a h=>st a (xay _ h) (hB a h)) z⟩
   ·subst e
    rcases y a hb with w | w
    ·exact n3 a ha a w rfl
    ·exact hB a ha (dj a w (xay _ ha))
   ·rcases xai.mp h with w | w
    ·exact .inl (xay _ w)
    ·exact (y a w).imp (fun w=>xah _ w) id
 | @lk ρ σ t2 B a0 fl0 d0 ne r q ih =>
  intro e n
  obtain ⟨n1,n2,n3⟩:=xar.mp n
  cases i with
  | zero=>simp at e
  | succ i =>
   obtain ⟨v,As,t,a,b,c,d,g⟩:=ih i (by simpa using e) n2
   have hB:∀ x∈B,x∉As:=fun x hx m=>n3 x hx x (d.subset m) rfl
   refine ⟨v,As,B++t,by simpa using a,b,c,d.trans (xav _ _),fun Hs2 H2 fl2 d2 As2 s2 r2 ne2 nd2 dj st=>?_⟩
   obtain ⟨t2,x,y,z⟩:=g Hs2 H2 fl2 d2 As2 s2 r2 ne2 nd2 (fun a ha m=>dj a ha (xah _ m)) fun a ha m=>st a (xah _ ha) m
   refine ⟨B++t2,xar.mpr ⟨n1,x,fun a ha b hb e=>?_⟩,fun a h=>?_,.lk ne (r.stay s2 fun a h=>st a (xay _ h) (hB a h)) z⟩
   ·subst e
    rcases y a hb with w | w
    ·exact n3 a ha a w rfl
    ·exact hB a ha (dj a w (xay _ ha))
   ·rcases xai.mp h with w | w
    ·exact .inl (xay _ w)
    ·exact (y a w).imp (fun w=>xah _ w) id
theorem gQ {X:Cx} {i:Nat} {e:Expr} (h:PE X e (tVar i)):QP X K e (wpN i):=PE.imp h fun σ H Qv hx=>ex4 hx fun Hs ρ tot Q sr h f=>by
 unfold wpN at h
 split at h
 ·rename_i fl d e1
  obtain ⟨v,As,t,e2,ne,r,sb,g⟩:=SR.put i sr.sr e1 sr.nod
  refine ⟨v,e2,f v H Hs fl d _ (Grow.refl sr.wf) ⟨As,r,ne,sb.nodup sr.nod,fun a h=>sr.own a (sb.subset h),fun Hs2 H2 fl2 d2 As2 s2 w2 n2 _ r2 ne2 nd2 o2 st=>?_⟩ h⟩
  obtain ⟨t2,x,y,z⟩:=g Hs2 H2 fl2 d2 As2 s2 r2 ne2 nd2 (fun a ha m=>(o2 a ha).2.elim id fun q=>absurd q (sr.sr.own a m).ne) fun a ha m=>st a (sr.sr.own a ha).ne m
  exact ⟨t2,z,w2,x,fun a h=>(y a h).elim (fun q=>n2 a (sr.own a q) (sr.sr.own a q).ne) fun q=>(o2 a q).1⟩
 ·exact h.elim
theorem RepO.wk {fl fl2:Bool} {d:D} {v:V} {As:List Addr} (h:fl2=true->fl=true) (r:RepO K Hs H fl d v As):RepO K Hs H fl2 d v As:=by
 cases fl2 with
 | false=>exact r.fls
 | true=>rw [h rfl] at r; exact r
theorem aA.wk {fl fl2:Bool} {d:List D} {v:List V} {As:List Addr} (h:fl2=true->fl=true) (r:aA K Hs H fl d v As):aA K Hs H fl2 d v As:=by
 cases fl2 with
 | false=>exact r.fls
 | true=>rw [h rfl] at r; exact r
theorem aA.at {fl:Bool} {ds:List D} {vs:List V} {As:List Addr} {j:Nat} {d:D} (r:aA K Hs H fl ds vs As) (e:ds[j]? = some d) (n:As.Nodup) :
  ∃ (v:V) (B:List Addr),vs[j]? = some v/\RepO K Hs H fl d v B/\B.Sublist As/\∀ Hs2 H2 fl2 d2 B2,Same Hs Hs2->(fl2=true->fl=true)->RepO K Hs2 H2 fl2 d2 v B2->B2.Nodup->(∀ a∈B2,a∈As->a∈B)->(∀ a∈As,a∉B->H2 a=H a) ->
   ∃ As2,As2.Nodup/\(∀ a∈As2,(a∈As/\a∉B)\/a∈B2)/\(B2≠[]->As2≠[])/\aA K Hs2 H2 fl2 (ds.set j d2) vs As2:=by
 induction ds generalizing vs As j with
 | nil=>simp at e
 | cons x ds ih =>
  obtain ⟨v,us,A,B,rfl,rfl,r,rs⟩:=r.c
  obtain ⟨n1,n2,n3⟩:=xar.mp n
  cases j with
  | zero =>
   simp at e
   subst e
   refine ⟨v,A,rfl,r,xbb _ _,fun Hs2 H2 fl2 d2 B2 s2 hf r2 nd2 dj st=>⟨B2++B,xar.mpr ⟨nd2,n2,fun a ha b hb e=>?_⟩,fun a h=>?_,fun ne z=>ne (xbr.mp z).1,.cons r2 ((rs.wk hf).stay s2 fun a h=>st a (xah _ h) fun z=>n3 a z a h rfl)⟩⟩
   ·subst e
    exact n3 a (dj a ha (xah _ hb)) a hb rfl
   ·rcases xai.mp h with w | w
    ·exact .inr w
    ·exact .inl ⟨xah _ w,fun z=>n3 a z a w rfl⟩
  | succ j =>
   obtain ⟨v,C,a,b,c,g⟩:=ih (j:=j) rs (by simpa using e) n2
   have hA:∀ x∈A,x∉C:=fun x hx m=>n3 x hx x (c.subset m) rfl
   refine ⟨v,C,by simpa using a,b,c.trans (xav _ _),fun Hs2 H2 fl2 d2 B2 s2 hf r2 nd2 dj st=>?_⟩
   obtain ⟨As2,x,y,w,z⟩:=g Hs2 H2 fl2 d2 B2 s2 hf r2 nd2 (fun a ha m=>dj a ha (xah _ m)) fun a ha m=>st a (xah _ ha) m
   refine ⟨A++As2,xar.mpr ⟨n1,x,fun a ha b hb e=>?_⟩,fun a h=>?_,fun ne q=>w ne (xbr.mp q).2,.cons ((r.wk hf).stay s2 fun a h=>st a (xay _ h) (hA a h)) z⟩
   ·subst e
    rcases y a hb with q | q
    ·exact n3 a ha a q.1 rfl
    ·exact hA a ha (dj a q (xay _ ha))
   ·rcases xai.mp h with q | q
    ·exact .inl ⟨xay _ q,hA a q⟩
    ·exact (y a q).imp (fun q=>⟨xah _ q.1,q.2⟩) id
theorem BV {α:Type} {xs:List α} {i:Int} {x:α} (h:atI xs i=some x):∃ j,ixN xs.length i=some j/\xs[j]? = some x:=by
 unfold L2.atI at h
 cases e:ixN xs.length i with
 | none=>rw [e] at h; cases h
 | some j=>rw [e] at h; exact ⟨j,rfl,h⟩
def wpIx (p:WP) (t:WE):WP:=fun ρ Q=>p ρ fun fl d up=>t ρ fun _ y=>fl=true/\match y with
 | .int i=>match d with
  | .list ds=>∃ j d',ixN ds.length i=some j/\ds[j]? = some d'/\d'.flat=false/\Q true d' fun fl2 d2=>up fl2 (.list (ds.set j d2))
  | .tup ds=>∃ j d',ixN ds.length i=some j/\ds[j]? = some d'/\d'.flat=false/\Q true d' fun fl2 d2=>up fl2 (.tup (ds.set j d2))
  | _=>False
 | _=>False
theorem vq {α:Type} {xs:List α} {i:Int} {j:Nat} {x:α} (h:ixN xs.length i=some j) (e:xs[j]? = some x):atI xs i=some x:=by unfold L2.atI; rw [h]; exact e
theorem wD {ds:List D} {j:Nat} {d:D} (e:ds[j]? = some d) (h:d.flat=false):flats ds=false:=by
 cases q:flats ds with
 | false=>rfl
 | true=>rw [iV.mp q d (xaC e)] at h; cases h
theorem uD {ds:List D} {j:Nat} {d d2:D} (e:ds[j]? = some d) (h:d2.flat=false):flats (ds.set j d2)=false:=by
 have hj:j<ds.length:=(xal.mp e).1
 exact wD (j:=j) (d:=d2) (by simp [hj]) h
theorem FZ {X:Cx} {a b:Expr} {p:WP} {t:WE} {pos:Pos} (hu:X.A.units+64<cLine) (ha:QP X K a p) (hb:QE X K b t) (hs:PlainIx b:=by exact fun _ _=>rfl) (hK:X.K=K:=by rfl):QP X K (.Subscript a b pos) (wpIx p t):=by
 refine PE.imp (pe_ix (kIxD hu hK) ha hb hs) fun σ H Qv hx=>ex4 hx fun Hs ρ tot Q sr h f=>?_
 refine ⟨Hs,ρ,tot,_,sr,h,fun v H1 Hs1 fl d up g1 p1 q1=>⟨Hs1,ρ,tot,_,sr.grow g1,q1,fun u H2 Hs2 m y As g2 r2 f2 q2=>?_⟩⟩
 have p2:=p1.grow g2
 have gg:=g1.trans g2
 obtain ⟨rfl,q2⟩:=q2
 have ry:=r2.rep g2.wf
 cases ry with
 | int i =>
  obtain ⟨As',r,ne,nd,own,k⟩:=p2.ex
  cases r with
  | sh hf _=>exact absurd rfl ne
  | @list a0 vs0 ds0 A0 hz e rs =>
   obtain ⟨j,d',e1,e2,hd,q⟩:=q2
   obtain ⟨na,nb⟩:=xaH.mp nd
   obtain ⟨w,B,e3,r3,sb,g⟩:=rs.at e2 nb
   refine .inl (.inl ⟨_,w,.inl (.inl e),vq (by rw [<- rs.length]; exact e1) e3,f w H2 Hs2 true d' _ gg ⟨B,r3,r3.ne hd,sb.nodup nb,fun a h=>own a (xab _ (sb.subset h)),fun Hs3 H3 fl3 d3 As3 s3 w3 n3 hf r4 ne3 nd3 o3 st=>?_⟩ q⟩)
   have st':∀ x∈A0,x∉B->H3 x=H2 x:=fun x hx m=>st x (rs.own x hx).ne m
   obtain ⟨As4,x4,y4,z4,r5⟩:=g Hs3 H3 fl3 d3 As3 s3 hf r4 nd3 (fun a ha m=>(o3 a ha).2.elim id fun q=>absurd q (rs.own a m).ne) st'
   have eA:H3 a0=H2 a0:=st a0 (by rw [e]; exact fun z=>nomatch z) fun m=>na (sb.subset m)
   have cl:∀ a∈As4,Hs3 a=none/\(a∈a0 :: A0\/H2 a=none):=fun a h=>by
    rcases y4 a h with ⟨m,_⟩ | m
    ·exact ⟨n3 a (own a (xab _ m)) (rs.own a m).ne,.inl (xab _ m)⟩
    ·exact ⟨(o3 a m).1,(o3 a m).2.imp (fun q=>xab _ (sb.subset q)) id⟩
   refine k Hs3 H3 fl3 (.list _) (_ :: As4) s3 w3 n3 hf (.list hz (eA.trans e) r5) (by simp) (xaH.mpr ⟨fun m=>?_,x4⟩) (fun a h=>?_) fun a h1 h2=>st a h1 fun m=>h2 (xab _ (sb.subset m))
   ·rcases y4 _ m with ⟨q,_⟩ | q
    ·exact na q
    ·rcases (o3 _ q).2 with q | q
     ·exact na (sb.subset q)
     ·rw [e] at q; cases q
   ·rcases xak.mp h with rfl | h
    ·exact ⟨n3 _ (own _ xad) (by rw [e]; exact fun z=>nomatch z),.inl xad⟩
    ·exact cl a h
  | tup hz e hn rs =>
   obtain ⟨j,d',e1,e2,hd,q⟩:=q2
   obtain ⟨w,B,e3,r3,sb,g⟩:=rs.at e2 nd
   refine .inl (.inr ⟨_,w,.inl (.inl (g2.wf.sub _ _ e)),vq (by rw [<- rs.length]; exact e1) e3,f w H2 Hs2 true d' _ gg ⟨B,r3,r3.ne hd,sb.nodup nd,fun a h=>own a (sb.subset h),fun Hs3 H3 fl3 d3 As3 s3 w3 n3 hf r4 ne3 nd3 o3 st=>?_⟩ q⟩)
   obtain ⟨As4,x4,y4,z4,r5⟩:=g Hs3 H3 fl3 d3 As3 s3 hf r4 nd3 (fun a ha m=>(o3 a ha).2.elim id fun q=>absurd q (rs.own a m).ne) (fun x hx m=>st x (rs.own x hx).ne m)
   have hn2:flats (List.set _ j d3)=false:=uD e2 (by
    cases hh:d3.flat with
    | false=>rfl
    | true=>exact absurd (r4.nil_of hh) ne3)
   refine k Hs3 H3 fl3 (.tup _) As4 s3 w3 n3 hf (.tup hz (s3 _ _ e) hn2 r5) (z4 ne3) x4 (fun a h=>?_) fun a h1 h2=>st a h1 fun m=>h2 (sb.subset m)
   rcases y4 a h with ⟨m,_⟩ | m
   ·exact ⟨n3 a (own a m) (rs.own a m).ne,.inl m⟩
   ·exact ⟨(o3 a m).1,(o3 a m).2.imp (fun q=>sb.subset q) id⟩
  | _=>exact q2.elim
 | _=>exact q2.elim
end
section
variable {X:Cx} {K:PySem.W.Frag} {e:Expr} {p:WP} {te:WE} {apos cpos pos:Pos}
def jY (fl:Bool) (m:Md) (d:D):Option Bool:=match m with
 | .sh=>some (fl && d.flat)
 | .ow b=>some (fl && b)
 | .bo=>bif d.flat then some fl else none
def wApp (p:WP) (te:WE):WS:=fun E ρ=>p ρ fun fl d up=>match d with
 | .list xs=>te ρ fun m x=>xs.length<sizeLine/\match jY fl m x with
  | some fl2=>E.nx (up fl2 (.list (xs++[x])))
  | none=>False
 | _=>False
theorem x_ {Hs H:Hp} {fl fl2:Bool} {m:Md} {d:D} {v:V} {As:List Addr} (w:Wf Hs H) (r:RM K Hs H m d v As) (h:jY fl m d=some fl2):(fl2=true->fl=true)/\∃ B,B.Sublist As/\RepO K Hs H fl2 d v B:=by
 cases m with
 | sh =>
  cases h
  exact ⟨fun z=>by cases fl <;> simp_all,[],xbi _,.sh (fun z=>by cases fl <;> simp_all) r.2⟩
 | ow b =>
  cases h
  refine ⟨fun z=>by cases fl <;> simp_all,As,List.Sublist.refl _,r.1.wk fun z=>by cases fl <;> simp_all⟩
 | bo =>
  cases hf:d.flat with
  | true =>
   simp only [jY,hf,cond_true,Option.some.injEq] at h
   subst h
   exact ⟨id,[],xbi _,.sh (fun _=>hf) (r.flat w hf)⟩
  | false=>simp [jY,hf] at h
theorem Place.put {Hs1 H1 Hs2 H2:Hp} {σ:St} {fl:Bool} {xs:List D} {v:V} {up:Bool->D->Env} (pl:Place K Hs1 H1 σ fl (.list xs) v up) (g:Grow Hs1 H1 Hs2 H2) :
  ∃ a vs A,v=.ref a/\H2 a=some (.lst vs)/\H1 a=some (.lst vs)/\aA K Hs2 H2 fl xs vs A/\(a :: A).Nodup/\(∀ x∈a :: A,Hs2 x=none/\H1 x≠none) /\
   ∀ fl2 ys ws C,(fl2=true->fl=true)->aA K Hs2 H2 fl2 ys ws C->ws.length<=sizeLine->C.Nodup->a∉C->(∀ x∈C,x∈A\/(Hs2 x=none/\H1 x=none))->∃ tot2,SRel K Hs2 (up fl2 (.list ys)) σ (upd H2 a (.lst ws)) tot2:=by
 obtain ⟨As',r,ne,nd,own,k⟩:=pl.ex
 cases r with
 | sh hf _=>exact absurd rfl ne
 | @list a vs _ A hz e rs =>
  have e2:=g.all _ _ e
  have rs2:=rs.grow g.sh g.all
  have hw:∀ x∈a :: A,Hs1 x=none/\H1 x≠none:=fun x hx=>⟨own x hx,by
   rcases xak.mp hx with rfl | hx
   ·rw [e]; exact fun z=>nomatch z
   ·exact (rs.own x hx).ne⟩
  exact ⟨a,vs,A,rfl,e2,e,rs2,nd,fun x hx=>⟨g.hsn (hw x hx).1 (hw x hx).2,(hw x hx).2⟩,fun fl2 ys ws C hf rw' hz ndC naC hC=>k.node g hw (fun _ z=>by cases z) hf (.list hz upd_same (rw'.stay (Same.refl _) fun b hb=>upd_ne fun z=>naC (by subst z; exact hb))) ndC naC hC⟩
theorem Place.isL {Hs1 H1:Hp} {σ:St} {fl:Bool} {xs:List D} {v:V} {up:Bool->D->Env} (w:Wf Hs1 H1) (pl:Place K Hs1 H1 σ fl (.list xs) v up):∃ a vs,v=.ref a/\SqL K H1 a vs:=by
 obtain ⟨As',r,ne,nd,own,k⟩:=pl.ex
 cases r with
 | sh hf _=>exact absurd rfl ne
 | list hz e rs=>exact ⟨_,_,rfl,.inl (.inl e)⟩
theorem uU (ho:QP X K e p) {e2:Expr} (he:QE X K e2 te) (hK:X.K=K:=by rfl) (hs:swapsWith (.Call (.Attribute e "append" apos) [e2] [] cpos) none pos.line X.env=pure false:=by rfl)
  (hbase:attributeBase e "append" X.env (eval e X.env)=eval e X.env:=by rfl)
  (hfew:((backTo cpos (starEach [e2] X.env)).all (fun x=>!x.1) && (backToKw cpos (keywordEach [] X.env)).all (fun x=>x.1.isSome)
   && decide ([e2].length+([]:List Keyword).length+(if ([]:List Keyword).isEmpty then 0 else 1)<30))=true:=by rfl)
  (hline:(apos.endLine == cpos.line)=true:=by rfl) (hss:starEach (e2 :: []) X.env=(false,eval e2 X.env) :: starEach [] X.env:=by rfl) (hplain:(backTo cpos (starEach [] X.env)).any (·.1)=false:=by rfl) :
  QS X K L (.Expr (.Call (.Attribute e "append" apos) [e2] [] cpos) pos) (wApp p te):=by
 subst hK
 refine PS.imp (ps_expr (pe_bm PySem.F.plainAttrs_list PySem.F.slot_list_append PySem.F.type_list_append mt_append ho (pa_cons he pa_nil hss) hbase hfew hline hss hplain) hs) fun D σ H hx=>eX hx fun Hs ρ tot E sr h k1 k2 k3 k4=>?_
 refine ⟨Hs,ρ,tot,_,sr,h,fun v H1 Hs1 fl d up g1 p1 q1=>?_⟩
 cases d with
 | list xs =>
  obtain ⟨a1,vs1,e1,s1⟩:=p1.isL g1.wf
  subst e1
  refine ⟨.inl ⟨rfl,_,s1⟩,Hs1,ρ,tot,_,sr.grow g1,q1,fun y H2 Hs2 m x As g2 r2 f2 q2=>?_⟩
  obtain ⟨hz,q2⟩:=q2
  obtain ⟨a,vs,A,ea,e2,_,rs,nd,hn,k⟩:=p1.put g2
  cases ea
  have hl:=rs.length
  refine ⟨a1,vs,y,rfl,rfl,e2,by lia,?_⟩
  cases hp:jY fl m x with
  | none=>rw [hp] at q2; exact q2.elim
  | some fl2 =>
   rw [hp] at q2
   obtain ⟨hf,B,sb,rb⟩:=x_ g2.wf r2 hp
   obtain ⟨na,nA⟩:=xaH.mp nd
   have fB:∀ x∈B,Hs2 x=none/\H1 x=none:=fun x hx=>f2.2 x (sb.subset hx)
   have c1:(A++(B++[])).Nodup:=by
    rw [xaX]
    exact xar.mpr ⟨nA,sb.nodup f2.1,fun x hx z hz e=>by subst e; exact (hn x (xab _ hx)).2 (fB x hz).2⟩
   have c2:a1∉A++(B++[]):=by
    rw [xaX]
    intro m
    rcases xai.mp m with m | m
    ·exact na m
    ·exact (hn _ xad).2 (fB _ m).2
   have c3:∀ x∈A++(B++[]),x∈A\/(Hs2 x=none/\H1 x=none):=by
    rw [xaX]
    intro x hx
    exact (xai.mp hx).imp id fun z=>fB x z
   obtain ⟨tot2,sr2⟩:=k fl2 (xs++[x]) (vs++[y]) (A++(B++[])) hf ((rs.wk hf).append (.cons rb .nil)) (by rw [xaU]; simp; lia) c1 c2 c3
   exact k1 σ _ Hs2 _ tot2 (g1.sh.trans g2.sh) sr2 q2
 | _=>exact q1.elim
def qR:WE:=fun _ Q=>Q (.ow true) (.dT [])
theorem uz:QE X K (.Dict [] [] pos) qR:=PE.imp pe_dnewT fun σ H Qv hx=>ex4 hx fun Hs ρ tot Q sr h f=>fun a ha =>
 f _ _ Hs (.ow true) (.dT []) [a] (newL sr.wf ha fun _ z=>nomatch z) ⟨.dT (vs:=[]) ⟨xas _,fun p hp=>nomatch hp⟩ upd_same .nil,by simp⟩ ⟨by simp,fun b hb=>by
  obtain rfl:b=a:=by simpa using hb
  exact ⟨sr.wf.sub.free ha,ha⟩⟩ h
section
variable {κ:Type} [DecidableEq κ]
theorem uE {Hs H:Hp} {fl:Bool} {k:κ} {d:D} {v:V} (r:RepO K Hs H fl d v []) {kvs:List (κ × D)} {vs:List V} {As:List Addr} (qs:aA K Hs H fl (kvs.map (·.2)) vs As):∃ ws Bs,Bs.Sublist As /\
  aA K Hs H fl ((kvs.map fun kv=>if kv.1=k then (kv.1,d) else kv).map (·.2)) ws Bs/\((kvs.map (·.1)).zip vs).map (fun kv=>if kv.1=k then (kv.1,v) else kv)=(((kvs.map fun kv=>if kv.1=k then (kv.1,d) else kv)).map (·.1)).zip ws:=by
 induction kvs generalizing vs As with
 | nil=>exact ⟨[],[],xbi _,.nil,rfl⟩
 | cons p kvs ih =>
  obtain ⟨u,vs,A,B,rfl,rfl,q,qs⟩:=aA.c (d:=p.2) qs
  obtain ⟨ws,Bs,sb,rs,e⟩:=ih qs
  by_cases h:p.1=k
  ·refine ⟨v :: ws,[]++Bs,by simpa using sb.trans (xav _ _),?_,?_⟩
   ·simp only [xat,h,if_true]
    exact .cons r rs
   ·simp only [xat,xa4,h,if_true,e]
  ·refine ⟨u :: ws,A++Bs,sb.append_left _,?_,?_⟩
   ·simp only [xat,h,if_false]
    exact .cons q rs
   ·simp only [xat,xa4,h,if_false,e]
theorem xu {Hs H:Hp} {fl:Bool} {k:κ} {d:D} {v:V} (r:RepO K Hs H fl d v []) {kvs:List (κ × D)} {vs:List V} {As:List Addr} (q:aA K Hs H fl (kvs.map (·.2)) vs As) :
  ∃ ws Bs,Bs.Sublist As/\aA K Hs H fl ((putG kvs k d).map (·.2)) ws Bs/\putK ((kvs.map (·.1)).zip vs) k v=((putG kvs k d).map (·.1)).zip ws:=by
 have hl:=q.length
 rw [xag] at hl
 unfold putK putG
 rw [Bb hl]
 cases h:kvs.any fun kv=>decide (kv.1=k) with
 | true =>
  simp only [if_true]
  exact uE r q
 | false =>
  simp only [xao,if_false]
  refine ⟨vs++[v],As++([]++[]),by simp,?_,?_⟩
  ·rw [xbL]
   exact q.append (.cons r .nil)
  ·rw [xbL,List.zip_append (by rw [xag]; exact hl)]
   rfl
theorem vh {Hs H:Hp} {fl:Bool} {k:κ} {d:D} {v:V} (r:Rep K Hs d v) (hd:d.flat=true) {kvs:List (κ × D)} {vs:List V} {As:List Addr} (q:aA K Hs H fl (kvs.map (·.2)) vs As) :
  ∃ ws Bs,Bs.Sublist As/\aA K Hs H fl ((putG kvs k d).map (·.2)) ws Bs/\putK ((kvs.map (·.1)).zip vs) k v=((putG kvs k d).map (·.1)).zip ws:=xu (.sh (fun _=>hd) r) q
theorem gB {β:Type} (kvs:List (κ × β)) (k:κ) (v:β):(putG kvs k v).length<=kvs.length+1:=by
 unfold putG
 split
 ·rw [xag]; exact xb6 _ _
 ·simp
theorem lE {β:Type} {kvs:List (κ × β)} {k:κ} {v:β} {p:κ × β} (h:p∈putG kvs k v):p.1=k\/p.1∈kvs.map (·.1):=by
 unfold putG at h
 split at h
 ·obtain ⟨q,hq,e⟩:=xaj.mp h
  by_cases hk:q.1=k
  ·rw [if_pos hk] at e; subst e; exact .inl hk
  ·rw [if_neg hk] at e; subst e; exact .inr (xaj.mpr ⟨q,hq,rfl⟩)
 ·rcases xai.mp h with h | h
  ·exact .inr (xaj.mpr ⟨p,h,rfl⟩)
  ·have:p=(k,v):=by simpa using h
   subst this; exact .inl rfl
end
def sI (p:WP) (tk tv:WE):WS:=fun E ρ=>tv ρ fun _ x=>p ρ fun fl d up=>tk ρ fun _ y=>x.flat=true/\match d with
 | .dK kvs=>∃ k,y.key1=some k/\kvs.length<sizeLine/\E.nx (up fl (.dK (putG kvs k x)))
 | .dT kvs=>match y with
  | .tup ys=>∃ ks,gq ys=some ks/\kvs.length<sizeLine/\E.nx (up fl (.dT (putG kvs ks x)))
  | _=>False
 | _=>False
theorem vA {H:Hp} {d:D} {v:V} {k:Key} (r:Rep K H d v) (h:d.key1=some k):kOk k=true:=by
 cases r <;> simp [D.key1] at h <;> subst h
 ·rfl
 ·rename_i hz; simp [kOk,hz]
theorem xU {H:Hp} {ds:List D} {vs:List V} {ks:List Key} (r:Reps K H ds vs) (h:gq ds=some ks):ks.length=ds.length/\∀ k∈ks,kOk k=true:=by
 induction ds generalizing vs ks with
 | nil=>simp [gq] at h; subst h; exact ⟨rfl,fun k hk=>nomatch hk⟩
 | cons d ds ih =>
  obtain ⟨u,us,rfl,r,rs⟩:=r.c
  unfold gq at h
  cases e1:d.key1 with
  | none=>rw [e1] at h; simp at h
  | some k =>
   cases e2:gq ds with
   | none=>rw [e1,e2] at h; simp at h
   | some ks' =>
    rw [e1,e2] at h
    simp at h
    subst h
    obtain ⟨a,b⟩:=ih rs e2
    refine ⟨by simp [a],fun j hj=>?_⟩
    rcases xak.mp hj with rfl | hj
    ·exact vA r e1
    ·exact b j hj
theorem pq {a b c:Expr} {tk tv:WE} {pos':Pos} (hu:X.A.units+64<cLine) (ho:QP X K a p) (hi:QE X K b tk) (hv:QE X K c tv) (hs:swapsWith c (some (.Subscript a b pos')) pos.line X.env=pure false:=by rfl) :
  QS X K L (.Assign [.Subscript a b pos'] c pos) (sI p tk tv):=by
 refine PS.imp (ps_dput (by lia) ho hi hv hs) fun D σ H hx=>eX hx fun Hs ρ tot E sr h k1 k2 k3 k4=>?_
 refine ⟨Hs,ρ,tot,_,sr,h,fun v H1 Hs1 m1 x As1 g1 r1 f1 q1=>⟨Hs1,ρ,tot,_,sr.grow g1,q1,fun u H2 Hs2 fl d up g2 p2 q2=>⟨Hs2,ρ,tot,_,(sr.grow g1).grow g2,q2,fun y H3 Hs3 m3 yd As3 g3 r3 f3 q3=>?_⟩⟩⟩
 obtain ⟨hx,q3⟩:=q3
 have rx:Rep K Hs3 x v:=((r1.grow g2).grow g3).flat g3.wf hx
 have ry:=r3.rep g3.wf
 obtain ⟨As',r,ne,nd,own,k⟩:=p2.ex
 have sm:Same Hs Hs3:=(g1.sh.trans g2.sh).trans g3.sh
 have lv:∀ x∈As',Hs2 x=none/\H2 x≠none:=fun x hx=>⟨own x hx,(r.own x hx).ne⟩
 cases r with
 | sh hf _=>exact absurd rfl ne
 | @dK a0 vs kvs A kk e rs =>
  obtain ⟨key,hk,hz,q⟩:=q3
  have ey:=ry.key hk
  subst ey
  obtain ⟨na,nA⟩:=xaH.mp nd
  obtain ⟨ws,Bs,sb,rw',ew⟩:=vh (k:=key) rx hx (rs.grow g3.sh g3.all)
  have hl:kvs.length=vs.length:=by have:=rs.length; rwa [xag] at this
  refine ⟨a0,_,rfl,DPut.k (g3.all _ _ e) (by rw [xcf,xag,<- hl,xcx]; exact hz),?_⟩
  rw [ew]
  have nB:a0∉Bs:=fun z=>na (sb.subset z)
  obtain ⟨tot2,sr2⟩:=k.node (fl2:=fl) (d2:=.dK (putG kvs key x)) g3 lv (fun _ z=>by cases z) id (.dK ⟨xaA (gB _ _ _) hz,fun p hp=>(lE hp).elim (fun z=>by rw [z]; exact vA ry hk) fun z=>by obtain ⟨p',hp',e'⟩:=xaj.mp z; rw [<- e']; exact kk.2 p' hp'⟩ upd_same (rw'.stay (Same.refl _) fun b hb=>upd_ne fun z=>nB (by subst z; exact hb)))
   (sb.nodup nA) nB fun b hb=>.inl (sb.subset hb)
  exact k1 σ _ Hs3 _ tot2 sm sr2 q
 | @dT a0 vs kvs A kk e rs =>
  cases ry with
  | tup t1 e1 q1' =>
   obtain ⟨key,hk,hz,q⟩:=q3
   obtain ⟨b,eb,e5⟩:=Rep.keyT (.tup t1 e1 q1') hk
   cases eb
   obtain ⟨kl,ko⟩:=xU q1' hk
   obtain ⟨na,nA⟩:=xaH.mp nd
   obtain ⟨ws,Bs,sb,rw',ew⟩:=vh (k:=key) rx hx (rs.grow g3.sh g3.all)
   have hl:kvs.length=vs.length:=by have:=rs.length; rwa [xag] at this
   refine ⟨a0,_,rfl,DPut.t (g3.all _ _ e) e5 (by rw [xcf,xag,<- hl,xcx]; exact hz),?_⟩
   rw [ew]
   have nB:a0∉Bs:=fun z=>na (sb.subset z)
   have l1:=q1'.length
   obtain ⟨tot2,sr2⟩:=k.node (fl2:=fl) (d2:=.dT (putG kvs key x)) g3 lv (fun _ z=>by cases z) id (.dT ⟨xaA (gB _ _ _) hz,fun p hp=>(lE hp).elim (fun z=>by rw [z]; exact ⟨by lia,ko⟩) fun z=>by obtain ⟨p',hp',e'⟩:=xaj.mp z; rw [<- e']; exact kk.2 p' hp'⟩ upd_same (rw'.stay (Same.refl _) fun b hb=>upd_ne fun z=>nB (by subst z; exact hb)))
    (sb.nodup nA) nB fun b hb=>.inl (sb.subset hb)
   exact k1 σ _ Hs3 _ tot2 sm sr2 q
  | _=>exact q3.elim
 | _=>exact q3.elim
end
abbrev WJ:=Env->Str->(Str->Prop)->Prop
section
variable {X:Cx} {K:PySem.W.Frag} {e:Expr} {te:WE} {j:WJ}
def iK:List D->Option (List Str)
 | []=>some []
 | .str x :: xs=>(iK xs).map (x :: ·)
 | _ :: _=>none
def jf (to te:WE):WE:=fun ρ Q=>to ρ fun _ x=>match x with
 | .str z=>te ρ fun _ y=>match y with
  | .list ys=>∃ zs,iK ys=some zs/\(zs.map (·.length)).sum+zs.length * z.length<=16777216/\Q .sh (.str (Str.join z zs))
  | _=>False
 | _=>False
theorem yr (r:Reps K H ds vs) (q:Vals vs us) (h:iK ds=some zs):StrsAre us zs:=by
 induction ds generalizing vs us zs with
 | nil =>
  simp [iK] at h
  subst h
  have:=r.n0
  subst this
  rw [Paired.n0 q]; exact .nil
 | cons d ds ih =>
  obtain ⟨v,vs,rfl,r1,rs⟩:=r.c
  obtain ⟨u,us,rfl,q1,qs⟩:=Paired.c q
  cases r1 with
  | str hz =>
   simp only [iK] at h
   cases e:iK ds with
   | none=>rw [e] at h; cases h
   | some ys =>
    rw [e] at h
    cases h
    obtain ⟨t,rfl⟩:=q1
    exact .cons _ t (ih rs qs e)
  | _=>simp [iK] at h
theorem zW (hK:X.K=K:=by rfl):MtR X "str.join" (fun x xs H Q=>∃ z a ds vs zs,x=.str z/\xs=[.ref a]/\SqL K H a vs/\Reps K H ds vs/\iK ds=some zs/\(zs.map (·.length)).sum+zs.length * z.length<=16777216/\Q (.str (Str.join z zs)) H):=by
 subst hK
 intro pins s σ H x xs v us Q I rx rs h
 obtain ⟨z,a,ds,vs,zs,rfl,rfl,hs,rr,e,hz,q⟩:=h
 obtain ⟨t,rfl⟩:=rx
 obtain ⟨u,rfl,ru⟩:=Vals.one rs
 cases ru
 obtain ⟨its,rv,pl,_⟩:=I.list hs
 exact join_list pl.isList (by simpa using yr rr rv e) hz fun t' k=>⟨.str _,H,I.tok _,⟨t',rfl⟩,by rw [show Txt.join z zs=Str.join z zs from StrLaws.glued_eq_join z zs]; exact q⟩
theorem qX:∀ {zs:List Str},(Str.join z zs).length<=(zs.map (·.length)).sum+zs.length * z.length
 | []=>by show Str.empty.length<=_; exact xaA (show Str.empty.length<=0 by decide) (xas _)
 | [x]=>by simp [Str.join]
 | x :: y :: r=>by
  have ih:=qX (z:=z) (zs:=y :: r)
  show (x++z++Str.join z (y :: r)).length<=_
  rw [cO,cO]
  simp only [xat,List.sum_cons,xaN,Nat.add_mul,Nat.one_mul] at ih ⊢
  lia
theorem qi (ho:QE X K o to) (he:QE X K e te) (hK:X.K=K:=by rfl)
  (hbase:attributeBase o "join" X.env (eval o X.env)=eval o X.env:=by rfl)
  (hfew:((backTo cpos (starEach [e] X.env)).all (fun x=>!x.1) && (backToKw cpos (keywordEach [] X.env)).all (fun x=>x.1.isSome)
   && decide ([e].length+([]:List Keyword).length+(if ([]:List Keyword).isEmpty then 0 else 1)<30))=true:=by rfl)
  (hline:(apos.endLine == cpos.line)=true:=by rfl) (hss:starEach (e :: []) X.env=(false,eval e X.env) :: starEach [] X.env:=by rfl) (hplain:(backTo cpos (starEach [] X.env)).any (·.1)=false:=by rfl) :
  QE X K (.Call (.Attribute o "join" apos) [e] [] cpos) (jf to te):=by
 subst hK
 refine PE.imp (pe_bm PySem.F.plainAttrs_str PySem.F.slot_str_join PySem.F.type_str_join zW ho (pa_cons he pa_nil hss) hbase hfew hline hss hplain) fun σ H Qv hx=>ex4 hx fun Hs ρ tot Q sr h f=>?_
 refine ⟨Hs,ρ,tot,_,sr,h,fun v H1 Hs1 m x As g1 r1 f1 q1=>?_⟩
 have r:=r1.rep g1.wf
 cases r with
 | str hz =>
  refine ⟨rfl,Hs1,ρ,tot,_,sr.grow g1,q1,fun y H2 Hs2 m2 x2 As2 g2 r2 f2 q2=>?_⟩
  have rr:=r2.rep g2.wf
  cases rr with
  | list z s rs =>
   obtain ⟨zs,e,hz,q⟩:=q2
   exact ⟨_,_,_,_,zs,rfl,rfl,s,rs,e,hz,Fin.sh (Fin.after f (g1.trans g2)) g2.wf (.str (xaA qX (by rw [sizeLine_eq]; exact hz))) q⟩
  | _=>exact q2.elim
 | _=>exact q1.elim
def keyT (k:List Key):D:=.tup (k.map keyD)
def Cj:W1:=fun _ x Q=>match x with
 | .list xs=>∃ ks sh,xs=ks.map keyT/\(∀ k∈ks,shOf k=true :: sh)/\∀ ms:List (List Key),ms.Perm ks->(ms.Pairwise fun a b=>ltK b a=false)->Q (.ow true) (.list (ms.map keyT))
 | _=>False
theorem z_ {H:Hp} {ks:List Key} {vs:List V} (r:Reps K H (ks.map keyD) vs):vs=ks.map kV/\∀ k∈ks,kOk k=true:=by
 induction ks generalizing vs with
 | nil=>exact ⟨r.n0,fun k h=>nomatch h⟩
 | cons k ks ih =>
  obtain ⟨u,us,rfl,r1,rs⟩:=Reps.c (d:=keyD k) r
  obtain ⟨e,o⟩:=ih rs
  subst e
  cases k with
  | inl i=>cases r1; exact ⟨rfl,fun j hj=>by rcases xak.mp hj with rfl | hj; rfl; exact o j hj⟩
  | inr x =>
   cases r1 with
   | str hz=>exact ⟨rfl,fun j hj=>by rcases xak.mp hj with rfl | hj; simp [kOk,hz]; exact o j hj⟩
theorem Ak {H:Hp} {ks:List (List Key)} {vs:List V} (r:Reps K H (ks.map keyT) vs):cj H vs ks/\∀ k∈ks,k.length<=sizeLine/\∀ j∈k,kOk j=true:=by
 induction ks generalizing vs with
 | nil=>rw [r.n0]; exact ⟨.nil,fun k h=>nomatch h⟩
 | cons k ks ih =>
  obtain ⟨u,us,rfl,r1,rs⟩:=Reps.c (d:=keyT k) r
  obtain ⟨t,o⟩:=ih rs
  cases r1 with
  | tup hz e q =>
   obtain ⟨e2,o2⟩:=z_ q
   subst e2
   exact ⟨.cons ⟨_,rfl,e⟩ t,fun j hj=>by
    rcases xak.mp hj with rfl | hj
    ·exact ⟨by simpa using hz,o2⟩
    ·exact o j hj⟩
theorem gH:bootBuiltins "sorted" = some (.builtin "sorted"):=by decide +kernel
end
def shF (A:List Addr) (F:Nat->List Addr):Nat->List Addr
 | 0=>A
 | i+1=>F i
def Adr (K:PySem.W.Frag) (Hs H:Hp) (ρ:Env) (σ:St) (tot:List Addr) (F:Nat->List Addr):Prop:=(∀ i fl d,ρ[i]? = some (some (.ow fl d))->∃ v,σ[i]? = some (some v)/\F i≠[]/\RepO K Hs H fl d v (F i)) /\
  (∀ i,(F i).Sublist tot)/\∀ i j,i≠j->∀ a∈F i,a∉F j
theorem Adr.skip {K:PySem.W.Frag} {F:Nat->List Addr} (h:Adr K Hs H ρ σ tot F) (no:∀ fl d,o≠some (.ow fl d)):Adr K Hs H (o :: ρ) (u :: σ) tot (shF [] F):=by
 obtain ⟨a,b,c⟩:=h
 refine ⟨fun i fl d e=>?_,fun i=>?_,fun i j ne x hx=>?_⟩
 ·cases i with
  | zero=>simp at e; exact absurd e (no fl d)
  | succ i=>exact a i fl d (by simpa using e)
 ·cases i with
  | zero=>exact xbi _
  | succ i=>exact b i
 ·cases i with
  | zero=>exact mem0 hx
  | succ i =>
   cases j with
   | zero=>exact fun z=>mem0 z
   | succ j=>exact c i j (fun z=>ne (by rw [z])) x hx
theorem Adr.own {K:PySem.W.Frag} {tot B:List Addr} {F:Nat->List Addr} (h:Adr K Hs H ρ σ tot F) (n:(B++tot).Nodup) (hs:∀ fl d,sl=.ow fl d->B≠[]/\RepO K Hs H fl d v B):Adr K Hs H (some sl :: ρ) (some v :: σ) (B++tot) (shF B F):=by
 obtain ⟨a,b,c⟩:=h
 obtain ⟨n1,n2,n3⟩:=xar.mp n
 refine ⟨fun i fl d e=>?_,fun i=>?_,fun i j ne x hx=>?_⟩
 ·cases i with
  | zero=>simp at e; exact ⟨v,rfl,hs fl d e⟩
  | succ i=>exact a i fl d (by simpa using e)
 ·cases i with
  | zero=>exact xbb _ _
  | succ i=>exact (b i).trans (xav _ _)
 ·cases i with
  | zero =>
   cases j with
   | zero=>exact absurd rfl ne
   | succ j=>exact fun z=>n3 x hx x ((b j).subset z) rfl
  | succ i =>
   cases j with
   | zero=>exact fun z=>n3 x z x ((b i).subset hx) rfl
   | succ j=>exact c i j (fun z=>ne (by rw [z])) x hx
theorem SR.addrs {K:PySem.W.Frag} (s:SR K Hs H ρ σ tot):tot.Nodup->∃ F:Nat->List Addr,Adr K Hs H ρ σ tot F:=by
 induction s with
 | nil=>exact fun _=>⟨fun _=>[],fun i fl d e=>by simp at e,fun i=>xbi _,fun i j _ a h=>mem0 h⟩
 | non s ih =>
  intro n
  obtain ⟨F,h⟩:=ih n
  exact ⟨_,h.skip fun fl d z=>by cases z⟩
 | sh r s ih =>
  intro n
  obtain ⟨F,h⟩:=ih n
  exact ⟨_,h.skip fun fl d z=>by cases z⟩
 | xc s ih =>
  intro n
  obtain ⟨F,h⟩:=ih n
  exact ⟨_,h.skip fun fl d z=>by cases z⟩
 | ow ne r s ih =>
  intro n
  obtain ⟨F,h⟩:=ih (xar.mp n).2.1
  exact ⟨_,h.own n fun fl d e=>by cases e; exact ⟨ne,r⟩⟩
 | lk ne r s ih =>
  intro n
  obtain ⟨F,h⟩:=ih (xar.mp n).2.1
  exact ⟨_,h.own n fun fl d e=>by cases e⟩
abbrev Plan:=List (WE ⊕ Nat)
def mvs:Plan->List Nat
 | []=>[]
 | .inl _ :: r=>mvs r
 | .inr i :: r=>i :: mvs r
def movS:Option (Option Sl)->Option (Md × D)
 | some (some (.sh d))=>some (.sh,d)
 | some (some (.ow fl d))=>some (.ow fl,d)
 | _=>none
def jc:Plan->Env->(List (Md × D)->Prop)->Prop
 | [],_,Q=>Q []
 | .inl t :: r,ρ,Q=>t ρ fun m x=>jc r ρ fun ps=>Q ((m,x) :: ps)
 | .inr i :: r,ρ,Q=>match movS ρ[i]? with
  | some p=>jc r ρ fun ps=>Q (p :: ps)
  | none=>False
def tpM (K:PySem.W.Frag) (pl:Plan):TA:=fun σ H Qv=>∃ (Hs:Hp) (ρ:Env) (tot:List Addr) (F:Nat->List Addr) (Q:List (Md × D)->Prop),SRel K Hs ρ σ H tot/\(∀ i fl d,ρ[i]? = some (some (.ow fl d))->∃ v,σ[i]? = some (some v)/\F i≠[]/\RepO K Hs H fl d v (F i))/\(∀ i,(F i).Sublist tot)/\(∀ i j,i≠j->∀ a∈F i,a∉F j) /\
 jc pl ρ Q/\∀ vs H' Hs' ps As,Grow Hs H Hs' H'->RMs K Hs' H' ps vs As->As.Nodup->(∀ a∈As,Hs' a=none/\(H a=none\/∃ i∈mvs pl,a∈F i))->Q ps->Qv vs H'
abbrev QM (X:Cx) (K:PySem.W.Frag) (es:List Expr) (pl:Plan):Prop:=PA X es (tpM K pl)
section
variable {X:Cx} {K:PySem.W.Frag} {e:Expr} {es:List Expr} {te:WE} {pl:Plan} {pos:Pos}
theorem Dm:QM X K [] []:=PA.imp pa_nil fun σ H Qv hx=>by
 obtain ⟨Hs,ρ,tot,F,Q,sr,h1,h2,h3,h,f⟩:=hx
 exact f [] H Hs [] [] (Grow.refl sr.wf) .nil xaR (fun a h=>mem0 h) h
theorem qm_e (ha:QE X K e te) (hr:QM X K es pl) (hs:starEach (e :: es) X.env=(false,eval e X.env) :: starEach es X.env:=by rfl):QM X K (e :: es) (.inl te :: pl):=by
 refine PA.imp (pa_cons ha hr hs) fun σ H Qv hx9=>?_
 obtain ⟨Hs,ρ,tot,F,Q,sr,h1,h2,h3,h,f⟩:=hx9
 refine ⟨Hs,ρ,tot,_,sr,h,fun v H1 Hs1 m x As g1 r1 f1 q1=>⟨Hs1,ρ,tot,F,_,sr.grow g1,(fun i fl d e=>?_),h2,h3,q1,fun vs H2 Hs2 ps Bs g2 r2 nd2 o2 q2=>?_⟩⟩
 ·obtain ⟨v,a,b,c⟩:=h1 i fl d e
  exact ⟨v,a,b,c.grow g1.sh g1.all⟩
 ·refine f (v :: vs) H2 Hs2 _ _ (g1.trans g2) (.cons (r1.grow g2) r2) (xar.mpr ⟨f1.1,nd2,fun a ha b hb e=>?_⟩) (fun a ha=>?_) q2
  ·subst e
   rcases (o2 a hb).2 with z | ⟨i,_,z⟩
   ·exact (r1.own a ha).ne z
   ·exact (sr.sr.own a ((h2 i).subset z)).ne (f1.2 a ha).2
  ·rcases xai.mp ha with z | z
   ·exact ⟨g2.hsn (f1.2 a z).1 (r1.own a z).ne,.inl (f1.2 a z).2⟩
   ·exact ⟨(o2 a z).1,(o2 a z).2.imp g1.all.free id⟩
theorem qm_v (ha:PE X e (tVar i)) (hr:QM X K es pl) (hi:i∉mvs pl:=by decide) (hs:starEach (e :: es) X.env=(false,eval e X.env) :: starEach es X.env:=by rfl):QM X K (e :: es) (.inr i :: pl):=by
 refine PA.imp (pa_cons ha hr hs) fun σ H Qv hx9=>?_
 obtain ⟨Hs,ρ,tot,F,Q,sr,h1,h2,h3,h,f⟩:=hx9
 unfold jc at h
 cases hm:movS ρ[i]? with
 | none=>rw [hm] at h; exact h.elim
 | some p =>
  rw [hm] at h
  have key:∃ v A,σ[i]? = some (some v)/\RM K Hs H p.1 p.2 v A/\A.Nodup/\∀ a∈A,a∈F i:=by
   cases e1:ρ[i]? with
   | none=>rw [e1] at hm; cases hm
   | some o =>
    cases o with
    | none=>rw [e1] at hm; cases hm
    | some sl =>
     cases sl with
     | sh d =>
      rw [e1] at hm; cases hm
      obtain ⟨v,a,b⟩:=sr.sr.get e1
      exact ⟨v,[],a,⟨rfl,b⟩,xaR,fun a h=>nomatch h⟩
     | lk a fl d=>rw [e1] at hm; cases hm
     | xc a=>rw [e1] at hm; cases hm
     | ow fl d =>
      rw [e1] at hm; cases hm
      obtain ⟨v,a,b,c⟩:=h1 i fl d e1
      exact ⟨v,F i,a,⟨c,b⟩,(h2 i).nodup sr.nod,fun a h=>h⟩
  obtain ⟨v,A,ev,rm,ndA,hA⟩:=key
  refine ⟨v,ev,Hs,ρ,tot,F,_,sr,h1,h2,h3,h,fun vs H2 Hs2 ps Bs g2 r2 nd2 o2 q2=>?_⟩
  refine f (v :: vs) H2 Hs2 _ _ g2 (.cons (rm.grow g2) r2) (xar.mpr ⟨ndA,nd2,fun a ha b hb e=>?_⟩) (fun a ha=>?_) q2
  ·subst e
   rcases (o2 a hb).2 with z | ⟨j,hj,z⟩
   ·exact (rm.own a ha).ne z
   ·exact h3 i j (fun z=>hi (by rw [z]; exact hj)) a (hA a ha) z
  ·rcases xai.mp ha with z | z
   ·have:a∈tot:=(h2 i).subset (hA a z)
    exact ⟨g2.hsn (sr.own a this) (sr.sr.own a this).ne,.inr ⟨i,xad,hA a z⟩⟩
   ·exact ⟨(o2 a z).1,(o2 a z).2.imp id fun ⟨j,hj,q⟩=>⟨j,xab _ hj,q⟩⟩
def zy (pl:Plan):WS:=fun E ρ=>jc pl ρ fun ps=>ps.length<=sizeLine/\E.rt (rN ps) (.tup (ps.map (·.2)))
theorem zK {x1} (h:QM X K es pl):QS X K L (.Return (some (.Tuple es x1 tpos)) pos) (zy pl):=by
 refine PS.imp (ps_ret (pe_tup h)) fun D σ H hx=>eX hx fun Hs ρ tot E sr h k1 k2 k3 k4=>?_
 obtain ⟨F,h1,h2,h3⟩:=sr.sr.addrs sr.nod
 refine ⟨Hs,ρ,tot,F,_,sr,h1,h2,h3,h,fun vs H1 Hs1 ps As g1 r1 nd1 o1 q1=>?_⟩
 obtain ⟨hz,q⟩:=q1
 have rl:=r1.reps g1.wf
 have hl:=rl.length
 rw [xag] at hl
 refine ⟨by lia,fun p hp=>?_⟩
 have g2:=newT (vs:=vs) g1.wf hp
 have sm:Same Hs (upd Hs1 p (.tup vs)):=g1.sh.trans g2.sh
 unfold rN at q
 cases e1:ps.all okSh with
 | true =>
  rw [e1] at q
  exact k4 _ _ _ .sh _ [] sm g2.wf ⟨rfl,.tup (by lia) upd_same ((r1.sh g1.wf e1).same g2.sh)⟩ xaR (fun a h=>nomatch h) q
 | false =>
  rw [e1] at q
  cases e2:ps.all okOw with
  | false =>
   rw [e2] at q
   exact k4 _ _ _ .bo _ [] sm g2.wf ⟨rfl,.tup (by lia) upd_same (rl.same g2.all)⟩ xaR (fun a h=>nomatch h) q
  | true =>
   rw [e2] at q
   obtain ⟨Bs,sb,nz,ro⟩:=r1.ow (fl:=ps.all okFl) g1.wf e2 fun z=>z
   have hne:flats (ps.map (·.2))=false:=by
    cases hf:flats (ps.map (·.2)) with
    | false=>rfl
    | true=>rw [mU hf] at e1; cases e1
   exact k4 _ _ _ (.ow _) _ Bs sm g2.wf ⟨.tup (by lia) upd_same hne (ro.grow g2.sh g2.all),nz e1⟩ (sb.nodup nd1) (fun a ha=>g2.hsn (o1 a (sb.subset ha)).1 (ro.own a ha).ne) q
end
def spLaw:SpD:=fun ds Q=>∃ ns:List Int,ds=[.list (ns.map .int)]/\ns.length<=63/\∀ m,Q m (.bl true)
theorem ints_rep {K:PySem.W.Frag}:∀ (ns:List Int),Reps K H (ns.map .int) (ns.map V.int)
 | []=>.nil
 | n :: ns=>.cons (.int n) (ints_rep ns)
theorem wV {K:PySem.W.Frag} {H:Hp} {a:Addr} {ns:List Int} {E:XK} (hl:ns.length<=63) (hS:SqL K H a (ns.map V.int)):az K spLaw [.ref a] H (fun v _=>v=.bl true) E:=by
 refine ⟨[.list (ns.map .int)],fun _ d=>d=.bl true,.cons (.list (by rw [xag]; exact xaA hl (by decide)) hS (ints_rep ns)) .nil,⟨ns,rfl,hl,fun _=>rfl⟩,?_⟩
 intro v H' Hs' m d As s w r nd own q
 subst q
 have:=r.rep w
 cases this
 rfl
abbrev sg (x:Str):List Nat:=x.cps.toList
theorem qw (x y:Str):sg (x++y)=sg x++sg y:=by
 show (x.cps++y.cps).toList=_
 simp [sg]
theorem empty_app (x:Str):Str.empty++x=x:=um (by rw [<- sg,qw]; rfl)
def okS (x:Str):Prop:=∀ c∈sg x,c<0x110000
theorem zL (x:Str):PyData.strOk x=true↔okS x:=by
 unfold PyData.strOk okS sg
 rw [Array.all_eq_true']
 simp
theorem atI0 (x:α) (l:List α):atI (x :: l) 0=some x:=by simp [L2.atI,ixN]
theorem atI1 (x y:α) (l:List α):atI (x :: y :: l) 1=some y:=by
 have:=atI_nat (xs:=x :: y :: l) (j:=1) (v:=y) rfl
 exact this
theorem atI2 (x y z:α) (l:List α):atI (x :: y :: z :: l) 2=some z:=by
 have:=atI_nat (xs:=x :: y :: z :: l) (j:=2) (v:=z) rfl
 exact this
theorem Ck:Str.empty.length=0:=by decide
end L2.Q
namespace L2.Q.R
open PySem PySem.Spec PyProof.Rows L2.Q
section
variable {f:D->Prop} {k:Kt f}
theorem Gu:onK .non k=f .non:=rfl
theorem Iz:onK (.bl b) k=f (.bl b):=rfl
theorem Hq:onK (.int i) k=f (.int i):=rfl
theorem GX:onK (.str x) k=f (.str x):=rfl
theorem Fw:onK (.list xs) k=f (.list xs):=rfl
theorem Gy:onK (.tup xs) k=f (.tup xs):=rfl
theorem Il:onK (.dK xs) k=f (.dK xs):=rfl
theorem Ie:onK (.dT xs) k=f (.dT xs):=rfl
end
theorem Fg {f:Bool->Prop} {k:Kt f}:onK true k=f true:=rfl
theorem Ed {f:Bool->Prop} {k:Kt f}:onK false k=f false:=rfl
theorem GJ {d:D} {f:Md × D->Prop} {k:Kt f}:onK (Md.sh,d) k=f (.sh,d):=rfl
theorem Hw {b:Bool} {d:D} {f:Md × D->Prop} {k:Kt f}:onK (Md.ow b,d) k=f (.ow b,d):=rfl
theorem Ht {d:D} {f:Md × D->Prop} {k:Kt f}:onK (Md.bo,d) k=f (.bo,d):=rfl
theorem G7 {d:D} {f:Option Sl->Prop} {k:Kt f}:onK (some (.sh d)) k=f (some (.sh d)):=rfl
theorem GD {b:Bool} {d:D} {f:Option Sl->Prop} {k:Kt f}:onK (some (.ow b d)) k=f (some (.ow b d)):=rfl
theorem GZ {p:Md × D} {f:Option (Md × D)->Prop} {k:Kt f}:onK (some p) k=f (some p):=rfl
theorem Ig {p:Bool} {f:Option Bool->Prop} {k:Kt f}:onK (some p) k=f (some p):=rfl
theorem Hh {d:D} {f:Option (Option Sl)->Prop} {k:Kt f}:onK (some (some (.sh d))) k=f (some (some (.sh d))):=rfl
theorem GF {b:Bool} {d:D} {f:Option (Option Sl)->Prop} {k:Kt f}:onK (some (some (.ow b d))) k=f (some (some (.ow b d))):=rfl
section
variable {E:lK} {ρ:Env} {Q:Md->D->Prop} {B:Bool->Prop} {t u:WS} {te ta tb to':WE} {tt tu:WT} {tar:WA} {i j n:Nat} {m m':Md} {d d':D} {sp:SpD} {p:WP} {R:List (Md × D)->Prop}
theorem G6:fO E ρ=E.nx ρ:=rfl
theorem Jt:wSeq t u E ρ=t { E with nx:=u E } ρ:=rfl
theorem Jk:wRet te E ρ=te ρ E.rt:=rfl
def put (sl:Option Sl) (k:Sl->Prop):Prop:=match sl with
 | some s=>k s
 | none=>False
theorem Gw:put (some (.sh d)) k=k (.sh d):=rfl
theorem Gk:put (some (.ow b d)) k=k (.ow b d):=rfl
theorem Jg:wSet i te E ρ=te ρ fun m d=>onK (asg m d) (f:=fun o=>put o fun sl=>E.nx (ρ.set i (some sl))) ⟨⟩:=rfl
theorem Ji:wIfS tt t u E ρ=tt ρ fun b=>onK b (f:=fun b=>if b=true then t E ρ else u E ρ) ⟨⟩:=rfl
theorem G8:uo i E ρ=onK ρ[i]? (f:=fun o=>match o with
 | some (some (.sh d))=>E.rt .sh d
 | some (some (.ow fl d))=>E.rt (.ow fl) d
 | _=>False) ⟨⟩:=rfl
theorem G5:zy pl E ρ=jc pl ρ fun ps=>ps.length<=sizeLine/\E.rt (rN ps) (.tup (ps.map (·.2))):=rfl
theorem Ci:jc [] ρ R=R []:=rfl
theorem Ew:jc (.inl te :: r) ρ R=te ρ fun m x=>jc r ρ fun ps=>R ((m,x) :: ps):=rfl
def mov (o:Option (Md × D)) (k:Md × D->Prop):Prop:=match o with
 | some p=>k p
 | none=>False
theorem DX {p:Md × D} {k:Md × D->Prop}:mov (some p) k=k p:=rfl
theorem Ep:jc (.inr i :: r) ρ R=onK (movS ρ[i]?) (f:=fun o=>mov o fun p=>jc r ρ fun ps=>R (p :: ps)) ⟨⟩:=rfl
theorem HW:wFrz i t E ρ=t E (frzE i ρ):=rfl
-- tests
def bol (d:D) (B:Bool->Prop):Prop:=match d with
 | .bl b=>B b
 | _=>False
theorem Gv:bol (.bl b) B=B b:=rfl
theorem wB_:wB te ρ B=te ρ fun _ x=>onK x (f:=fun x=>bol x B) ⟨⟩:=rfl
theorem Jm:wAnd tt tu ρ B=tt ρ fun c=>onK c (f:=fun c=>if c=true then tu ρ B else B false) ⟨⟩:=rfl
theorem wOr_:wOr tt tu ρ B=tt ρ fun c=>onK c (f:=fun c=>if c=true then B true else tu ρ B) ⟨⟩:=rfl
theorem Ij:wYes ρ B=B true:=rfl
-- expressions
theorem Jb:wVar i ρ Q=onK ρ[i]? (f:=fun o=>useS o Q) ⟨⟩:=rfl
theorem Ey:useS (some (some (.sh d))) Q=Q .sh d:=rfl
theorem Ex:useS (some (some (.ow b d))) Q=Q .bo d:=rfl
theorem wC_:wC d ρ Q=Q .sh d:=rfl
theorem wOp_:wOp f ta tb ρ Q=ta ρ fun m x=>tb ρ fun n y=>f m x n y Q:=rfl
theorem wUn_:wUn f ta ρ Q=ta ρ fun m x=>f m x Q:=rfl
theorem Gq:aj te tar ρ R=te ρ fun m x=>tar ρ fun ps=>R ((m,x) :: ps):=rfl
theorem Jf:wNil ρ R=R []:=rfl
theorem Ii:wTup tar ρ Q=tar ρ fun ps=>ps.length<=sizeLine/\Q (rN ps) (.tup (ps.map (·.2))):=rfl
theorem Ik:wLst tar ρ Q=tar ρ fun ps=>ps.length<=sizeLine/\Q (zg ps) (.list (ps.map (·.2))):=rfl
theorem Hv:aL sp tar ρ Q=tar ρ fun ps=>sp (ps.map (·.2)) fun m d=>onK (m,d) (f:=fun p=>Q (retM p.1 p.2) p.2) ⟨⟩:=rfl
-- operators
section
variable {x y:Str} {a b:Int} {xs ys:List D} {kvs:List (Key × D)} {kts:List (List Key × D)}
theorem Gb:fAdd m (.int a) m' (.int b) Q=Q .sh (.int (a+b)):=rfl
theorem Fd:fAdd m (.str x) m' (.str y) Q=(x.length+y.length<=sizeLine/\Q .sh (.str (x++y))):=rfl
theorem Fq:fAdd m (.list xs) m' (.list ys) Q=(xs.length+ys.length<=sizeLine/\((flats xs=true/\flats ys=true/\Q (.ow true) (.list (xs++ys)))\/(m=.sh/\m'=.sh/\Q (.ow false) (.list (xs++ys))))):=rfl
theorem Gi:fAdd m (.tup xs) m' (.tup ys) Q=(xs≠[]/\xs.length+ys.length<=sizeLine/\flats xs=true/\flats ys=true/\Q .sh (.tup (xs++ys))):=rfl
theorem Fj:fSub m (.int a) m' (.int b) Q=Q .sh (.int (a - b)):=rfl
theorem FJ:fMul m (.int a) m' (.int b) Q=(CMul a b/\Q .sh (.int (a * b))):=rfl
theorem FQ:fDiv m (.int a) m' (.int b) Q=((0<b/\b<1073741824)/\Q .sh (.int (a / b))):=rfl
theorem Ft:fMod m (.int a) m' (.int b) Q=(0<b/\Q .sh (.int (a % b))):=rfl
theorem Hf:fLt m (.int a) m' (.int b) Q=Q .sh (.bl (decide (a<b))):=rfl
theorem HF:fLt m (.str x) m' (.str y) Q=Q .sh (.bl (ltS x y)):=rfl
theorem GR:fGt m (.int a) m' (.int b) Q=Q .sh (.bl (decide (b<a))):=rfl
theorem G_:fEq m (.int a) m' (.int b) Q=Q .sh (.bl (decide (a=b))):=rfl
theorem Hk:fEq m (.str x) m' (.str y) Q=Q .sh (.bl (decide (x=y))):=rfl
theorem Gj:fEq m (.bl k) m' (.bl l) Q=Q .sh (.bl (decide (k=l))):=rfl
theorem IK:fEq m (.list xs) m' d Q=(okD 12 (.list xs)=true/\okD 12 d=true/\Q .sh (.bl (eqD (.list xs) d))):=by cases d <;> rfl
theorem Im:fEq m (.tup xs) m' d Q=(okD 12 (.tup xs)=true/\okD 12 d=true/\Q .sh (.bl (eqD (.tup xs) d))):=by cases d <;> rfl
theorem Jq:fEq m .non m' d Q=(okD 12 .non=true/\okD 12 d=true/\Q .sh (.bl (eqD .non d))):=by cases d <;> rfl
theorem Hb:fNe m (.int a) m' (.int b) Q=Q .sh (.bl (!decide (a=b))):=rfl
theorem Gm:fNe m (.str x) m' (.str y) Q=Q .sh (.bl (!decide (x=y))):=rfl
theorem Jj:fNe m (.list xs) m' d Q=(okD 12 (.list xs)=true/\okD 12 d=true/\Q .sh (.bl (!eqD (.list xs) d))):=by cases d <;> rfl
theorem IW:fNe m (.tup xs) m' d Q=(okD 12 (.tup xs)=true/\okD 12 d=true/\Q .sh (.bl (!eqD (.tup xs) d))):=by cases d <;> rfl
theorem Ja:fNe m .non m' d Q=(okD 12 .non=true/\okD 12 d=true/\Q .sh (.bl (!eqD .non d))):=by cases d <;> rfl
theorem HR:fNeg m (.int a) Q=Q .sh (.int (-a)):=rfl
theorem Ip:fIx m (.list xs) m' (.int a) Q = ∃ d,atI xs a=some d/\onK d (f:=fun d=>Q (itm m d) d) ⟨⟩:=rfl
theorem Ih:fIx m (.tup xs) m' (.int a) Q = ∃ d,atI xs a=some d/\onK d (f:=fun d=>Q (itm m d) d) ⟨⟩:=rfl
theorem Iw:fIx m (.str x) m' (.int a) Q = ∃ c,atI x.cps.toList a=some c/\Q .sh (.str ⟨#[c]⟩):=rfl
theorem H_:fIx m (.dK kvs) m' d Q = ∃ k d',d.key1=some k/\getG kvs k=some d'/\onK d' (f:=fun d'=>Q (itm m d') d') ⟨⟩:=rfl
theorem Jh:fIx m (.dT kts) m' (.tup ys) Q = ∃ ks d',gq ys=some ks/\getG kts ks=some d'/\onK d' (f:=fun d'=>Q (itm m d') d') ⟨⟩:=rfl
theorem Hl:fLen m (.str x) Q=Q .sh (.int x.length):=rfl
theorem Hy:fLen m (.list xs) Q=Q .sh (.int xs.length):=rfl
theorem Hu:fLen m (.tup xs) Q=Q .sh (.int xs.length):=rfl
theorem Hi:fLen m (.dK kvs) Q=Q .sh (.int kvs.length):=rfl
theorem GC:fLen m (.dT kts) Q=Q .sh (.int kts.length):=rfl
theorem Fb:rY m (.list xs) Q=((flats xs=true/\Q (.ow true) (.list xs))\/(m=.sh/\Q (.ow false) (.list xs))):=rfl
theorem Ez:rY m (.tup xs) Q=((flats xs=true/\Q (.ow true) (.list xs))\/(m=.sh/\Q (.ow false) (.list xs))):=rfl
theorem Fv:rY m (.dT kts) Q=Q (.ow true) (.list (kts.map fun kv=>.tup (kv.1.map keyD))):=rfl
theorem wSl_:wSl te tl th ρ Q=te ρ fun m x=>tl ρ fun lo=>th ρ fun hi=>fSl m x lo hi Q:=rfl
theorem DW:jB ρ O=O none:=rfl
def int' (d:D) (k:Int->Prop):Prop:=match d with
 | .int i=>k i
 | _=>False
theorem Gn:int' (.int a) k=k a:=rfl
theorem Ho:nU te ρ O=te ρ fun _ x=>onK x (f:=fun x=>int' x fun i=>O (some i)) ⟨⟩:=by unfold nU onK int'; rfl
theorem IV {lo hi:Option Int}:fSl m (.str x) lo hi Q=Q .sh (.str (cutS x lo hi)):=rfl
theorem Jo {lo hi:Option Int}:fSl m (.list xs) lo hi Q=((flats xs=true/\Q (.ow true) (.list (cutG xs lo hi)))\/(m=.sh/\Q (.ow false) (.list (cutG xs lo hi)))):=rfl
theorem Jp {lo hi:Option Int}:fSl m (.tup xs) lo hi Q=(flats xs=true/\¬ (HT.sIx xs.length 0 lo=0/\HT.sIx xs.length xs.length hi=xs.length)/\Q .sh (.tup (cutG xs lo hi))):=rfl
end
-- texts
def str' (d:D) (k:Str->Prop):Prop:=match d with
 | .str x=>k x
 | _=>False
theorem Hd:str' (.str x) k=k x:=rfl
def list' (d:D) (k:List D->Prop):Prop:=match d with
 | .list x=>k x
 | _=>False
theorem Et:list' (.list x) k=k x:=rfl
theorem Ek:jf to' te ρ Q=to' ρ fun _ x=>onK x (f:=fun x=>str' x fun z=>te ρ fun _ y=>onK y (f:=fun y=>list' y fun ys=>∃ zs,iK ys=some zs/\(zs.map (·.length)).sum+zs.length * z.length<=16777216/\Q .sh (.str (Str.join z zs))) ⟨⟩) ⟨⟩:=by unfold jf onK str' list'; rfl
-- places
theorem wpN_:wpN i ρ P=onK ρ[i]? (f:=fun o=>match o with
 | some (some (.ow fl d))=>P fl d fun fl2 d2=>ρ.set i (some (.ow fl2 d2))
 | _=>False) ⟨⟩:=rfl
def fl' (o:Option Bool) (k:Bool->Prop):Prop:=match o with
 | some b=>k b
 | none=>False
theorem DY:fl' (some b) k=k b:=rfl
theorem Ia:wApp p te E ρ=p ρ fun fl d up=>onK d (f:=fun d=>list' d fun xs=>te ρ fun m x=>xs.length<sizeLine/\onK (jY fl m x) (f:=fun o=>fl' o fun fl2=>E.nx (up fl2 (.list (xs++[x])))) ⟨⟩) ⟨⟩:=by unfold wApp onK list' fl'; rfl
theorem Eo:qR ρ Q=Q (.ow true) (.dT []):=rfl
def dct (d y:D) (k1:List (Key × D)->Prop) (k2:List (List Key × D)->List D->Prop):Prop:=match d with
 | .dK kvs=>k1 kvs
 | .dT kvs=>match y with
  | .tup ys=>k2 kvs ys
  | _=>False
 | _=>False
theorem Iu:dct (.dK kvs) y k1 k2=k1 kvs:=rfl
theorem HQ:dct (.dT kvs) (.tup ys) k1 k2=k2 kvs ys:=rfl
theorem Hr:sI p tk tv E ρ=tv ρ fun _ x=>p ρ fun fl d up=>tk ρ fun _ y=>x.flat=true/\onK d (f:=fun d=>dct d y (fun kvs=>∃ k,y.key1=some k/\kvs.length<sizeLine/\E.nx (up fl (.dK (putG kvs k x)))) (fun kvs ys=>∃ ks,gq ys=some ks/\kvs.length<sizeLine/\E.nx (up fl (.dT (putG kvs ks x))))) ⟨⟩:=by
 unfold sI onK dct
 rfl
-- loops
variable {LQ:List D->Prop}
theorem Io:wFor wi g b E ρ=wi ρ fun ds=>n8 g b E ds ρ:=rfl
theorem Fx:oX te ρ LQ=te ρ fun m d=>nZ m/\onK d (f:=fun d=>list' d LQ) ⟨⟩:=by unfold oX onK list'; rfl
def tup' (d:D) (k:List D->Prop):Prop:=match d with
 | .tup x=>k x
 | _=>False
theorem Gz:tup' (.tup x) k=k x:=rfl
theorem Fl:cg te ρ LQ=te ρ fun _ d=>onK d (f:=fun d=>int' d fun j=>j<=16777216/\-(2 ^ 62)<=j/\LQ (nu 0 j.toNat)) ⟨⟩:=by unfold cg onK int'; rfl
theorem Ef:nZ .sh=True:=rfl
theorem Ec:nZ (.ow b)=True:=rfl
theorem DR:nZ .bo=False:=rfl
theorem gN_:gN i d ρ N=N (ρ.set i (some (.sh d))):=rfl
theorem gT_:gT n gs d ρ N=onK d (f:=fun d=>tup' d fun ds=>ds.length=n/\gs ds ρ N) ⟨⟩:=by unfold gT onK tup'; rfl
theorem Hn:eZ g gs (d :: ds) ρ N=g d ρ fun ρ'=>gs ds ρ' N:=rfl
theorem Js:sG [] ρ N=N ρ:=by simp [sG]
theorem G4:d_ wi g tt te tn ix ρ Q=wi ρ fun ds=>gh g tt te ds (Af tn ix ρ) fun out=>Q (.ow true) (.list out):=rfl
end
theorem B {c:Bool} {f:Bool->Prop} {k:Kt f} (h1:c=true->f true) (h2:c=false->f false):onK c k:=by
 cases c with
 | true=>exact h1 rfl
 | false=>exact h2 rfl
theorem D {p:Prop} [Decidable p] {f:Bool->Prop} {k:Kt f} (h1:p->f true) (h2:¬ p->f false):onK (decide p) k :=
 B (fun h=>h1 (of_decide_eq_true h)) fun h=>h2 (of_decide_eq_false h)
theorem T {c:Bool} {f:Bool->Prop} {k:Kt f} (h:c=true) (h1:f true):onK c k:=by subst h; exact h1
theorem F {c:Bool} {f:Bool->Prop} {k:Kt f} (h:c=false) (h1:f false):onK c k:=by subst h; exact h1
end L2.Q.R
namespace L2
open PySem PySem.Spec PyProof.Rows
end L2
namespace L2.Q
open PySem PySem.Spec PyProof.Rows
section
variable {p:Pos}
def Gs:W1:=fun _ x Q=>match x with
 | .list xs=>∃ ks b,xs=ks.map keyD/\(∀ k∈ks,isI k=b)/\∀ ms:List Key,ms.Perm ks->(ms.Pairwise fun a b=>lt1 b a=false)->Q (.ow true) (.list (ms.map keyD))
 | .dK kvs=>∃ b,(∀ p∈kvs,isI p.1=b)/\∀ ms:List Key,ms.Perm (kvs.map (·.1))->(ms.Pairwise fun a b=>lt1 b a=false)->Q (.ow true) (.list (ms.map keyD))
 | _=>False
end
abbrev WIL:=Env->(List D->Prop)->Prop
section
variable {X:Cx} {K:PySem.W.Frag}
theorem gO (hN:X.N.Nodup) (hi0:X.N[i]? = some x) (hx:Loc X.env.scope x) (hc:X.calm=true)
  (hi:QIb X K tg iter wi) (O:bx X scope tn cn ix)
  (hg:∀ C fp s₃ H₃,QG (cB X scope C (tn++cn) fp s₃ H₃) K tg g) (hcs:∀ C fp s₃ H₃,QTs (cB X scope C (tn++cn) fp s₃ H₃) K ifs tc) (he:∀ C fp s₃ H₃,QE (cB X scope C (tn++cn) fp s₃ H₃) K elt te)
  (hsw:swapsWith (.ListComp elt [⟨tg,iter,ifs,0⟩] scope pos) (some (.Name x pos')) spos.line X.env=pure true:=by rfl)
  (hs:∀ x,foldedSetIterable iter X.env x=pure x:=by intro _; rfl) (hf:X.fn x=true\/X.env.scope.names.lookup x=some .local:=by first | exact .inl rfl | exact .inr rfl | assumption) :
  QS X K L (.Assign [.Name x pos'] (.ListComp elt [⟨tg,iter,ifs,0⟩] scope pos) spos) (wSet i (d_ wi g tc te tn.length ix)) :=
 PS.imp (tK hN hi0 hx hc hi O hg hcs he hsw hs hf) fun D σ H hx=>eX hx fun Hs ρ tot E sr h k1 k2 k3 k4=>by
  refine jk ⟨Hs,ρ,tot,_,sr,h,fun v H1 Hs1 m d As g1 r1 f1 q1=>?_⟩
  have q1:match asg m d with
   | some sl=>E.nx (ρ.set i (some sl))
   | none=>False:=q1
  cases e:asg m d with
  | none=>rw [e] at q1; exact q1.elim
  | some sl =>
   rw [e] at q1
   obtain ⟨tot',s'⟩:=(sr.grow g1).set i r1 f1.1 (fun a ha=>⟨(f1.2 a ha).1,fun m=>(sr.sr.own a m).ne (f1.2 a ha).2⟩) e
   exact k1 _ H1 Hs1 _ tot' g1.sh s' q1
end
end L2.Q
namespace L2.Q.R
open PySem PySem.Spec PyProof.Rows L2.Q
section
variable {ρ:Env} {Q:Md->L2.Q.D->Prop} {te:WE} {i:Nat} {d:L2.Q.D} {p:WP} {a:Addr} {b:Bool} {LQ:List L2.Q.D->Prop}
theorem HH {f:Option Sl->Prop} {k:Kt f}:onK (some (.lk a b d)) k=f (some (.lk a b d)):=rfl
theorem HJ {f:Option (Option Sl)->Prop} {k:Kt f}:onK (some (some (.lk a b d))) k=f (some (some (.lk a b d))):=rfl
theorem FW:useS (some (some (.lk a b d))) Q=Q .bo d:=rfl
def own' (o:Option (Option Sl)) (k:Bool->L2.Q.D->Prop):Prop:=match o with
 | some (some (.ow fl d))=>k fl d
 | _=>False
theorem Gf:own' (some (some (.ow b d))) k=k b d:=rfl
theorem Eu:iy te ρ LQ=te ρ fun _ d=>onK d (f:=fun d=>list' d LQ) ⟨⟩:=by unfold iy onK list'; rfl
def wpAt (d:L2.Q.D) (i:Int) (P:Bool->L2.Q.D->(Bool->L2.Q.D->Env)->Prop) (up:Bool->L2.Q.D->Env):Prop:=match d with
 | .list ds=>∃ j d',ixN ds.length i=some j/\ds[j]? = some d'/\d'.flat=false/\onK d' (f:=fun d'=>P true d' fun fl2 d2=>up fl2 (.list (ds.set j d2))) ⟨⟩
 | .tup ds=>∃ j d',ixN ds.length i=some j/\ds[j]? = some d'/\d'.flat=false/\onK d' (f:=fun d'=>P true d' fun fl2 d2=>up fl2 (.tup (ds.set j d2))) ⟨⟩
 | _=>False
section
variable {P:Bool->L2.Q.D->(Bool->L2.Q.D->Env)->Prop} {up:Bool->L2.Q.D->Env} {ds:List L2.Q.D} {j:Int}
theorem GK:wpAt (.list ds) j P up = ∃ k d',ixN ds.length j=some k/\ds[k]? = some d'/\d'.flat=false/\onK d' (f:=fun d'=>P true d' fun fl2 d2=>up fl2 (.list (ds.set k d2))) ⟨⟩:=rfl
theorem G3:wpAt (.tup ds) j P up = ∃ k d',ixN ds.length j=some k/\ds[k]? = some d'/\d'.flat=false/\onK d' (f:=fun d'=>P true d' fun fl2 d2=>up fl2 (.tup (ds.set k d2))) ⟨⟩:=rfl
theorem Je:wpIx p te ρ P=p ρ fun fl d up=>te ρ fun _ y=>fl=true/\onK y (f:=fun y=>int' y fun i=>onK d (f:=fun d=>wpAt d i P up) ⟨⟩) ⟨⟩:=by
 unfold wpIx onK int' wpAt
 rfl
end
end
end L2.Q.R
namespace L2
open PySem PySem.Spec PyProof.Rows Builtin Builtin.Str Builtin.Int
end L2
namespace L2
open PySem PySem.Spec PyProof.Rows
end L2
namespace L2.Q
open PySem PySem.Spec PyProof.Rows
section
variable {X:Cx} {K:PySem.W.Frag} {e a b:Expr} {ta tb:WE} {p pos:Pos} {x:Str} {id:String}
theorem Bw:bootBuiltins "max" = some (.builtin "max"):=by decide +kernel
theorem qx:bootBuiltins "min" = some (.builtin "min"):=by decide +kernel
def Ar:R2:=fun x y H Q=>match x,y with
 | .int i,.int j=>Q (.int (if j<i then j else i)) H
 | _,_=>False
def sS:W2:=fun _ x _ y Q=>match x,y with
 | .int i,.int j=>Q .sh (.int (if j<i then j else i))
 | _,_=>False
theorem k_:Br2 K Ar sS:=by
 intro Hs H m x v As n y u Bs Qd Qv w rx ry h f
 have r1:=rx.rep w
 have r2:=ry.rep w
 cases r1 with
 | int i=>cases r2 with
  | int j=>exact f.sh w (.int _) h
  | _=>exact h.elim
 | _=>cases r2 <;> exact h.elim
theorem lA (hc:CallR X (.builtin id) fun xs H Q=>∃ x y,xs=[x,y]/\r x y H Q) (br:Br2 K r f) (hg:Gl X x) (hm:X.mg x=none) (hv:bootBuiltins x=some (.builtin id)) (ha:QE X K a ta) (hb:QE X K b tb)
  (hs:starEach [a,b] X.env=(false,eval a X.env) :: starEach [b] X.env:=by rfl) (hs2:starEach [b] X.env=(false,eval b X.env) :: starEach [] X.env:=by rfl) (hn:x ≠ "__name__" := by decide) (hdb:(x == ("__debug__" : Str))=false:=by decide)
  (hpl:(backTo pos (starEach [b] X.env)).any (·.1)=false:=by rfl):QE X K (.Call (.Name x p) [a,b] [] pos) (wOp f ta tb):=by
 refine PE.imp (pe_callB hc hg hm hv (pa_cons ha (pa_cons hb pa_nil hs2) hs) hn hdb hs hpl) fun σ H Qv h=>?_
 obtain ⟨Hs,ρ,tot,Q,sr,h,fin⟩:=jy br σ H Qv h
 exact ⟨Hs,ρ,tot,Q,sr,h,fun v H1 Hs1 m x As g1 r1 f1 q1=>by
  obtain ⟨Hs2,ρ2,tot2,Q2,sr2,h2,fin2⟩:=fin v H1 Hs1 m x As g1 r1 f1 q1
  exact ⟨Hs2,ρ2,tot2,Q2,sr2,h2,fun u H2 Hs3 n y Bs g2 r2 f2 q2=>⟨v,u,rfl,fin2 u H2 Hs3 n y Bs g2 r2 f2 q2⟩⟩⟩
theorem qI (hc:X.calm=true:=by rfl):CallR X (.builtin "min") fun xs H Q=>∃ x y,xs=[x,y]/\Ar x y H Q:=fun pins s σ H xs us Q I r hx9=>by
 obtain ⟨x,y,e,q⟩:=hx9
 subst e
 unfold Ar at q
 split at q
 ·exact call_min2 hc pins s σ H _ us Q I r ⟨_,_,rfl,q⟩
 ·exact q.elim
end
end L2.Q
namespace L2.Q.R
open PySem PySem.Spec PyProof.Rows L2.Q
section
variable {Q:Md->L2.Q.D->Prop} {m m':Md} {a b:Int}
theorem Hj:sS m (.int a) m' (.int b) Q=Q .sh (.int (if b<a then b else a)):=rfl
end
end L2.Q.R
namespace L2.Q
open PySem PySem.Spec PyProof.Rows
theorem cu (O:Nat->List D->Prop) (Iv:Env->Prop):∀ (xs:List D) (i:Nat) (pre:List D) (ρ:Env) (k:List D->Prop),Iv ρ->O i pre ->
  (∀ j x,xs[j]? = some x->∀ ρ,Iv ρ->∀ out,O (i+j) out->∀ N1:Env->Prop,∀ N2:Env->D->Prop,(∀ ρ' d,Iv ρ'->O (i+j+1) (out++[d])->N2 ρ' d)->g x ρ fun ρ1=>tc ρ1 fun b=>if b=true then te ρ1 fun m d=>okEl m d/\N2 ρ1 d else N1 ρ1) ->
  (∀ out,O (i+xs.length) (pre++out)->k out)->gh g tc te xs ρ k
 | [],i,pre,_,k,_,h0,_,h=>h [] (by simpa using h0)
 | x :: xs,i,pre,ρ,k,iv,h0,hs,h=>by
  refine hs 0 x rfl ρ iv pre h0 _ _ (fun ρ' d iv' o'=>?_)
  refine cu O Iv xs (i+1) (pre++[d]) ρ' _ iv' o' (fun j y hy ρ iv out ho=>?_) fun out ho=>?_
  ·have:=hs (j+1) y (by simpa using hy) ρ iv out (by rwa [show i+(j+1)=i+1+j by lia])
   rwa [show i+(j+1)+1=i+1+j+1 by lia] at this
  ·refine h (d :: out) ?_
   rw [xaZ] at ho
   rwa [xaN,show i+(xs.length+1)=i+1+xs.length by lia]
end L2.Q
namespace TS
open PySem PySem.SetTable
def fk:Nat->Nat->Nat
 | 0,s=>s
 | k+1,s=>5 * fk k s+1
theorem BK (a b s:Nat):fk (a+b) s=fk b (fk a s):=by
 induction b with
 | zero=>rfl
 | succ b ih=>show 5 * fk (a+b) s+1=5 * fk b (fk a s)+1; rw [ih]
theorem vo (n s:Nat):4 * fk n s+1=5 ^ n * (4 * s+1):=by
 induction n with
 | zero=>simp [fk]
 | succ n ih =>
  show 4 * (5 * fk n s+1)+1=5 ^ (n+1) * (4 * s+1)
  rw [xbn,xcy (5 ^ n) 5,xbU,<- ih]; lia
theorem xj (m:Nat):∃ q,5 ^ 2 ^ m=1+2 ^ (m+2) * q/\q % 2=1:=by
 induction m with
 | zero=>exact ⟨1,by decide,by decide⟩
 | succ m ih =>
  obtain ⟨q,e,o⟩:=ih
  refine ⟨q+2 ^ (m+1) * (q * q),?_,?_⟩
  ·have hp:5 ^ 2 ^ (m+1)=(5 ^ 2 ^ m) ^ 2:=by rw [xbn 2 m,Nat.pow_mul]
   rw [hp,e]
   clear e hp
   have e1:2 ^ (m+1+2)=2 * 2 ^ (m+2):=by rw [show m+1+2=(m+2)+1 by exact Nat.add_assoc ..,xbn]; lia
   have e2:2 ^ (m+2)=2 * 2 ^ (m+1):=by rw [show m+2=(m+1)+1 by rfl,xbn]; lia
   rw [e1,e2]
   generalize 2 ^ (m+1)=y
   rw [Nat.pow_two]
   simp only [Nat.mul_add,Nat.add_mul,Nat.one_mul,Nat.mul_one]
   have a1:2 * y * q * (2 * y * q)=2 * (2 * y) * (y * (q * q)):=by
    simp only [xbU,Nat.mul_left_comm,xcy]
   have a2:2 * (2 * y) * q=2 * y * q+2 * y * q:=by
    rw [xbU 2 (2 * y) q]; lia
   rw [a1,a2]; lia
  ·have:2 ^ (m+1) * (q * q) % 2=0:=by
    rw [xbn,xcy (2 ^ m) 2,xbU,Nat.mul_mod_right]
   lia
theorem Al (m x:Nat):∃ r,fk (2 ^ m) x=x+2 ^ m * r/\r % 2=1:=by
 obtain ⟨q,e,o⟩:=xj m
 have c:=vo (2 ^ m) x
 rw [e] at c
 refine ⟨q * (4 * x+1),?_,?_⟩
 ·have e2:2 ^ (m+2)=4 * 2 ^ m:=by rw [Nat.pow_add]; lia
  rw [e2,Nat.add_mul,Nat.one_mul,xbU,xbU] at c
  lia
 ·rw [Nat.mul_mod,o,Nat.one_mul]; lia
theorem DG (m s e:Nat):∃ k,k+1<=2 ^ m/\fk k s % 2 ^ m=e % 2 ^ m:=by
 induction m with
 | zero=>exact ⟨0,by decide,by simp [Nat.mod_one]⟩
 | succ m ih =>
  obtain ⟨k,hk,h⟩:=ih
  have hp:2 ^ (m+1)=2 ^ m * 2:=xbn ..
  have hpos:0<2 ^ m:=Nat.pow_pos (by decide)
  have key:∀ a:Nat,a % (2 ^ m * 2)=a % 2 ^ m+2 ^ m * (a / 2 ^ m % 2):=fun a=>Nat.mod_mul
  by_cases c:fk k s / 2 ^ m % 2=e / 2 ^ m % 2
  ·exact ⟨k,by walk_at "s4",by rw [hp,key,key,h,c]⟩
  ·refine ⟨k+2 ^ m,by lia,?_⟩
   obtain ⟨r,er,ro⟩:=Al m (fk k s)
   rw [BK,er,hp,key,key,Nat.add_mul_mod_self_left,h,Nat.add_mul_div_left _ _ hpos]
   have:(fk k s / 2 ^ m+r) % 2=e / 2 ^ m % 2:=by lia
   rw [this]
def adv (M:Nat) (p:Probe):Probe :=
 if p.more>0 then { p with j:=p.j+1,more:=p.more - 1 } else
 { p with j:=(leap M p.i p.perturb).1,more:=runEnd M (leap M p.i p.perturb).1 - (leap M p.i p.perturb).1,i:=(leap M p.i p.perturb).1,perturb:=(leap M p.i p.perturb).2 }
def ps (M:Nat) (h:Int):Nat->Probe
 | 0=>{ j:=bits h % (M+1),more:=runEnd M (bits h % (M+1)) - bits h % (M+1),i:=bits h % (M+1),perturb:=bits h,dummy:=none }
 | n+1=>adv M (ps M h n)
def J (M:Nat) (h:Int) (n:Nat):Nat:=(ps M h n).j
theorem qg (h:i<=M):i<=runEnd M i/\runEnd M i<=M/\runEnd M i<=i+9:=by
 unfold runEnd; split <;> lia
theorem Bm (M:Nat) (h:Int):∀ n,(ps M h n).i<=M/\(ps M h n).j+(ps M h n).more<=M/\(ps M h n).dummy=none/\(ps M h n).more<=9
 | 0=>by
  have h0:bits h % (M+1)<=M:=xb2 (xci _ (xcz _))
  have:=qg h0
  exact ⟨h0,by show bits h % (M+1)+(runEnd M (bits h % (M+1)) - bits h % (M+1))<=M; lia,rfl,by show runEnd M (bits h % (M+1)) - bits h % (M+1)<=9; lia⟩
 | n+1=>by
  obtain ⟨a,b,c,d⟩:=Bm M h n
  show (adv M (ps M h n)).i<=M/\_/\(adv M (ps M h n)).dummy=none/\_
  unfold adv
  by_cases hm:(ps M h n).more>0
  ·simp only [hm,if_true]
   show _/\(adv M (ps M h n)).j+(adv M (ps M h n)).more<=M/\_/\(adv M (ps M h n)).more<=9
   simp only [adv,hm,if_true]
   exact ⟨a,by lia,c,by walk_at "s4"⟩
  ·simp only [hm,if_false]
   show _/\(adv M (ps M h n)).j+(adv M (ps M h n)).more<=M/\_/\(adv M (ps M h n)).more<=9
   simp only [adv,hm,if_false]
   have h0:(leap M (ps M h n).i (ps M h n).perturb).1<=M:=xb2 (xci _ (xcz _))
   have:=qg h0
   exact ⟨h0,by lia,c,by lia⟩
theorem J_le (M:Nat) (h:Int) (n:Nat):J M h n<=M:=by
 have:=Bm M h n
 unfold J; lia
theorem tW (M:Nat) (h:Int) (n:Nat):∀ r,r<=(ps M h n).more->ps M h (n+r)={ ps M h n with j:=(ps M h n).j+r,more:=(ps M h n).more - r }
 | 0,_=>rfl
 | r+1,hr=>by
  show adv M (ps M h (n+r))=_
  rw [tW M h n r (by exact xaF ‹_›)]
  unfold adv
  rw [if_pos (show (ps M h n).more - r>0 by lia)]
  simp only [Probe.mk.injEq,true_and,and_true]
  walk_at "s1"
def lp (M:Nat) (h:Int):Nat->Nat × Nat
 | 0=>(bits h % (M+1),bits h)
 | k+1=>leap M (lp M h k).1 (lp M h k).2
def blk (M:Nat) (h:Int):Nat->Nat
 | 0=>0
 | k+1=>blk M h k+(runEnd M (lp M h k).1 - (lp M h k).1)+1
theorem Aj (M:Nat) (h:Int):∀ k,(lp M h k).1<=M
 | 0=>xb2 (xci _ (xcz _))
 | k+1=>xb2 (xci _ (xcz _))
theorem uX (M:Nat) (h:Int):∀ k,blk M h k<=10 * k
 | 0=>xaf _
 | k+1=>by
  have:=uX M h k
  have:=qg (Aj M h k)
  show blk M h k+_+1<=_; lia
theorem qN (M:Nat) (h:Int):∀ k,ps M h (blk M h k)={ j:=(lp M h k).1,more:=runEnd M (lp M h k).1 - (lp M h k).1,i:=(lp M h k).1,perturb:=(lp M h k).2,dummy:=none }
 | 0=>rfl
 | k+1=>by
  have ih:=qN M h k
  have e:=tW M h (blk M h k) (runEnd M (lp M h k).1 - (lp M h k).1) (by rw [ih]; exact xaf _)
  show adv M (ps M h (blk M h k+(runEnd M (lp M h k).1 - (lp M h k).1)))=_
  rw [e,ih]
  unfold adv
  rw [if_neg (by simp)]
  rfl
theorem y_ (M:Nat) (h:Int):∀ k,(lp M h k).2=bits h / 32 ^ k
 | 0=>by simp [lp]
 | k+1=>by
  show (lp M h k).2 / 32=_
  rw [y_ M h k,Nat.div_div_eq_div_mul,xbn]
theorem zJ (h:Int):bits h<2 ^ 64:=by
 unfold bits
 have h1:=Int.emod_nonneg h (show (2 ^ 64:Int)≠0 by decide)
 have h2:=xcm h (show (0:Int)<2 ^ 64 by decide)
 lia
theorem uW (M:Nat) (h:Int):∀ k,(lp M h (13+k)).1 % (M+1)=fk k (lp M h 13).1 % (M+1)
 | 0=>rfl
 | k+1=>by
  have e:(lp M h (13+k)).2=0:=by
   rw [y_]
   refine Nat.div_eq_of_lt (xau (zJ h) ?_)
   exact xaA (by decide:2 ^ 64<=32 ^ 13) (Nat.pow_le_pow_right (by decide) (by exact xb6 _ _))
  show (leap M (lp M h (13+k)).1 (lp M h (13+k)).2).1 % (M+1)=_
  unfold leap
  rw [e]
  show ((lp M h (13+k)).1 * 5+1+0 / 32) % (M+1) % (M+1)=(5 * fk k (lp M h 13).1+1) % (M+1)
  rw [Nat.mod_mod,Nat.zero_div,xbY,Nat.add_mod,Nat.mul_mod,uW M h k,<- Nat.mul_mod,<- Nat.add_mod,xcy]
theorem cover (hM:M+1=2 ^ m) (h:Int) (he:e<=M):∃ k,k<=M+13/\(lp M h k).1=e:=by
 obtain ⟨k,hk,q⟩:=DG m (lp M h 13).1 e
 rw [<- hM] at hk q
 refine ⟨13+k,by lia,?_⟩
 have:=uW M h k
 rw [q] at this
 rwa [Nat.mod_eq_of_lt (xbz (Aj M h _)),Nat.mod_eq_of_lt (xbz he)] at this
theorem BZ (M:Nat) (h:Int) (k:Nat):J M h (blk M h k)=(lp M h k).1:=by unfold J; rw [qN]
theorem sJ (hM:M+1=2 ^ m) (h:Int) (occ:Nat->Bool) (he:e<=M) (hf:occ e=false):∃ n,n<=10 * (M+13)/\occ (J M h n)=false/\∀ k<n,occ (J M h k)=true:=by
 obtain ⟨k,hk,q⟩:=cover hM h he
 have hb:=uX M h k
 have hB:occ (J M h (blk M h k))=false:=by rw [BZ,q]; exact hf
 generalize blk M h k=b at hb hB
 have go:∀ b,occ (J M h b)=false->∃ n,n<=b/\occ (J M h n)=false/\∀ k<n,occ (J M h k)=true:=by
  intro b
  induction b using Nat.strongRecOn with
  | ind b ih =>
   intro hB
   by_cases c:∃ k,k<b/\occ (J M h k)=false
   ·obtain ⟨k,h1,h2⟩:=c
    obtain ⟨n,a1,a2,a3⟩:=ih k h1 h2
    exact ⟨n,by lia,a2,a3⟩
   ·refine ⟨b,xaf _,hB,fun k hk=>?_⟩
    cases z:occ (J M h k) with
    | true=>rfl
    | false=>exact absurd ⟨k,hk,z⟩ c
 obtain ⟨n,a1,a2,a3⟩:=go b hB
 exact ⟨n,by lia,a2,a3⟩
def Up (xs:Array Nat):Prop:=∀ i j:Nat,i<j->j<xs.size->xs.getD i 0<xs.getD j 0
theorem qQ {xs:Array Nat} {i d d':Nat} (h:i<xs.size):xs.getD i d=xs.getD i d':=by simp [Array.getD,h]
theorem mV {xs:Array Nat} (U:Up xs) (j:Nat):∀ (fuel lo hi:Nat),hi - lo<=fuel->lo<=hi->hi<=xs.size->(∀ i<lo,xs.getD i 0<j)->(∀ i,hi<=i->i<xs.size->j<=xs.getD i 0) ->
  below.go xs j fuel lo hi<=xs.size/\(∀ i<below.go xs j fuel lo hi,xs.getD i 0<j)/\(∀ i,below.go xs j fuel lo hi<=i->i<xs.size->j<=xs.getD i 0)
 | 0,lo,hi,hf,h1,h2,h3,h4=>by
  obtain rfl:lo=hi:=by lia
  exact ⟨h2,h3,h4⟩
 | fuel+1,lo,hi,hf,h1,h2,h3,h4=>by
  unfold below.go
  by_cases c:lo<hi
  ·rw [if_pos c]
   dsimp only
   have hm:(lo+hi) / 2<xs.size:=by lia
   by_cases d:xs.getD ((lo+hi) / 2) j<j
   ·rw [if_pos d]
    rw [qQ (d':=0) hm] at d
    refine mV U j fuel _ _ (by lia) (by lia) h2 (fun i hi'=>?_) h4
    by_cases e:i=(lo+hi) / 2
    ·rw [e]; exact d
    ·exact xcv (U i _ (by lia) hm) d
   ·rw [if_neg d]
    rw [qQ (d':=0) hm] at d
    refine mV U j fuel _ _ (by lia) (by lia) (by exact xaF ‹_›) h3 fun i hi' hs=>?_
    by_cases e:i=(lo+hi) / 2
    ·rw [e]; exact xbc ‹_›
    ·have:=U ((lo+hi) / 2) i (by lia) hs; lia
  ·rw [if_neg c]
   obtain rfl:lo=hi:=by lia
   exact ⟨h2,h3,h4⟩
theorem bj (U:Up xs) (j:Nat):below xs j<=xs.size/\(∀ i<below xs j,xs.getD i 0<j)/\(∀ i,below xs j<=i->i<xs.size->j<=xs.getD i 0) :=
 mV U j xs.size 0 xs.size (by lia) (by lia) (xaf _) (fun i h=>absurd h (xbv i)) fun i h1 h2=>by lia
theorem below_at (U:Up xs) (h:i<xs.size):below xs (xs.getD i 0)=i:=by
 obtain ⟨a,b,c⟩:=bj U (xs.getD i 0)
 by_cases h1:below xs (xs.getD i 0)<i
 ·have:=c _ (xaf _) (by lia)
  have:=U _ i h1 h
  lia
 ·by_cases h2:i<below xs (xs.getD i 0)
  ·have:=b i h2; lia
  ·lia
theorem tD (U:Up xs) (h:i<xs.size):below xs (xs.getD i 0+1)=i+1:=by
 obtain ⟨a,b,c⟩:=bj U (xs.getD i 0+1)
 by_cases h1:below xs (xs.getD i 0+1)<i+1
 ·have:=c i (by lia) h; lia
 ·by_cases h2:i+1<below xs (xs.getD i 0+1)
  ·have:=b (i+1) h2
   have:=U i (i+1) (by lia) (by lia); lia
  ·lia
def taken (xs:Array Nat) (j:Nat):Bool:=xs[below xs j]? == some j
theorem u_ {xs:Array Nat} {i j:Nat} (h:xs[i]? = some j):i<xs.size/\xs.getD i 0=j:=by
 obtain ⟨h1,h2⟩:=xa7.mp h
 exact ⟨h1,by simp [Array.getD,h1,h2]⟩
theorem uf {xs:Array Nat} {i:Nat} (h:i<xs.size):xs[i]? = some (xs.getD i 0):=by simp [Array.getD,h]
theorem dU {xs:Array Nat} (U:Up xs) {j:Nat}:taken xs j=true↔∃ i,i<xs.size/\xs.getD i 0=j:=by
 unfold taken
 rw [beq_iff_eq]
 constructor
 ·intro h; exact ⟨_,u_ h⟩
 ·rintro ⟨i,h,rfl⟩
  rw [below_at U h]
  exact uf h
theorem iM {xs:Array Nat} (U:Up xs) {j:Nat} (h:taken xs j=true):below xs j<xs.size/\xs.getD (below xs j) 0=j:=by
 unfold taken at h
 rw [beq_iff_eq] at h
 exact u_ h
theorem cH (xs:Array α) (x:α) (h:p<=xs.size):(insertAt xs p x).size=xs.size+1:=by
 unfold insertAt
 simp
 lia
theorem ins_get (xs:Array α) (x:α) (h:p<=xs.size) (i:Nat):(insertAt xs p x)[i]? = if i<p then xs[i]? else if i=p then some x else xs[i - 1]? := by
 unfold insertAt
 have hs:((xs.extract 0 p).push x).size=p+1:=by simp; lia
 by_cases h1:i<p
 ·rw [if_pos h1,Array.getElem?_append_left (by lia),Array.getElem?_push,if_neg (by simp; lia),xbK]
  rw [if_pos (by lia)]; simp
 ·rw [if_neg h1]
  by_cases h2:i=p
  ·rw [if_pos h2,Array.getElem?_append_left (by lia),Array.getElem?_push,if_pos (by simp; lia)]
  ·rw [if_neg h2,Array.getElem?_append_right (by lia),hs,xbK]
   by_cases h3:i - (p+1)<min xs.size xs.size - p
   ·rw [if_pos h3]
    congr 1; lia
   ·rw [if_neg h3,xa1 (by lia)]
theorem cR (h:p<=xs.size) (i:Nat):(insertAt xs p x).getD i 0=if i<p then xs.getD i 0 else if i=p then x else xs.getD (i - 1) 0:=by
 have e:∀ (ys:Array Nat) (k:Nat),ys.getD k 0=ys[k]?.getD 0:=fun ys k=>by
  simp [xaT]
 rw [e,ins_get xs x h]
 split
 ·rw [e]
 ·split
  ·rfl
  ·rw [e]
theorem zb (U:Up xs) (hj:taken xs j=false):Up (insertAt xs (below xs j) j):=by
 obtain ⟨a,b,c⟩:=bj U j
 have ne:∀ i,i<xs.size->xs.getD i 0≠j:=fun i hi e=>by
  have:=(dU U (j:=j)).mpr ⟨i,hi,e⟩
  rw [hj] at this; cases this
 intro i k hik hk
 rw [cH xs j a] at hk
 rw [cR a,cR a]
 by_cases h1:k<below xs j
 ·rw [if_pos (by lia),if_pos h1]; exact U i k hik (by lia)
 ·rw [if_neg h1]
  by_cases h2:k=below xs j
  ·rw [if_pos h2,if_pos (by lia)]; exact b i (by lia)
  ·rw [if_neg h2]
   by_cases h3:i<below xs j
   ·rw [if_pos h3]; exact U i (k - 1) (by lia) (by lia)
   ·rw [if_neg h3]
    by_cases h4:i=below xs j
    ·rw [if_pos h4]
     have:=c (k - 1) (by lia) (by lia)
     have:=ne (k - 1) (by lia)
     lia
    ·rw [if_neg h4]; exact U (i - 1) (k - 1) (by lia) (by lia)
theorem vf (U:Up xs) (hj:taken xs j=false):taken (insertAt xs (below xs j) j) k=(decide (k=j) || taken xs k):=by
 have a:=(bj U j).1
 have U':=zb U hj
 apply xbf.mpr
 rw [dU U',Bool.or_eq_true,decide_eq_true_eq,dU U]
 rw [cH xs j a]
 constructor
 ·rintro ⟨i,hi,e⟩
  rw [cR a] at e
  by_cases h1:i<below xs j
  ·rw [if_pos h1] at e; exact .inr ⟨i,by lia,e⟩
  ·rw [if_neg h1] at e
   by_cases h2:i=below xs j
   ·rw [if_pos h2] at e; exact .inl e.symm
   ·rw [if_neg h2] at e; exact .inr ⟨i - 1,by lia,e⟩
 ·rintro (rfl | ⟨i,hi,e⟩)
  ·exact ⟨below xs k,by lia,by rw [cR a,if_neg (by lia),if_pos rfl]⟩
  ·by_cases h1:i<below xs j
   ·exact ⟨i,by lia,by rw [cR a,if_pos h1]; exact e⟩
   ·exact ⟨i+1,by lia,by rw [cR a,if_neg (by lia),if_neg (by lia)]; exact e⟩
def Reach (M:Nat) (place:Array Nat) (h:Int) (j:Nat):Prop:=∃ n,n<=10 * (M+13)/\J M h n=j/\∀ k<n,taken place (J M h k)=true
structure TI {α:Type} (t:SetTable) (es:Array (Int × α)):Prop where
 pw:∃ m,t.mask+1=2 ^ m/\3<=m
 sz:t.place.size=es.size
 up:Up t.place
 le:∀ i,i<t.place.size->t.place.getD i 0<=t.mask
 dm:t.dummies = #[]
 few:es.size * 5<t.mask * 3
 path:∀ i h x,es[i]? = some (h,x)->Reach t.mask t.place h (t.place.getD i 0)
section
variable {α:Type} {t:SetTable} {es:Array (Int × α)}
theorem TI.slot (T:TI t es) (j:Nat):t.slot j=if taken t.place j then .live (below t.place j) else .empty:=by
 unfold SetTable.slot taken
 dsimp only
 split
 ·rfl
 ·have:has t.dummies j=false:=by rw [T.dm]; rfl
  rw [this]; rfl
theorem TI.fits (T:TI t es):t.fits es.size=true:=by
 have:=T.few
 simp only [SetTable.fits,fill,T.dm,T.sz,xaB,beq_iff_eq,decide_eq_true_eq,true_and]
 simp; lia
theorem TI.odd (T:TI t es):t.gaveWay=false:=by
 obtain ⟨m,h,h3⟩:=T.pw
 unfold SetTable.gaveWay
 rw [beq_eq_false_iff_ne]
 have:2 ^ m=2 * 2 ^ (m - 1):=by
  rw [show m=(m - 1)+1 by lia,xbn]; simp; lia
 lia
theorem TI.free (T:TI t es):∃ e,e<=t.mask/\taken t.place e=false:=by
 have hf:=T.few
 have hs:=T.sz
 by_cases c:∃ e,e<=t.mask/\taken t.place e=false
 ·exact c
 ·exfalso
  have all:∀ e,e<=t.mask->taken t.place e=true:=fun e he=>by
   cases z:taken t.place e with
   | true=>rfl
   | false=>exact absurd ⟨e,he,z⟩ c
  -- slot e stands at place at most e
  have go:∀ e,e<=t.mask->e<=below t.place e:=by
   intro e
   induction e with
   | zero=>intro _; exact xas _
   | succ e ih =>
    intro he
    have h1:=iM T.up (all e (by exact xaF ‹_›))
    have h2:=iM T.up (all (e+1) he)
    have:=ih (by exact xaF ‹_›)
    obtain ⟨_,b,c⟩:=bj T.up (e+1)
    by_cases z:below t.place e<below t.place (e+1)
    ·walk_at "s1"
    ·have:=c (below t.place e) (by exact xbc ‹_›) h1.1
     lia
  have:=go t.mask (xaf _)
  have:=(iM T.up (all t.mask (xaf _))).1
  lia
theorem TI.put (T:TI t es) (hj:j<=t.mask) (hn:taken t.place j=false) (hr:Reach t.mask t.place h j) (ht:t'.mask=t.mask) (hp:t'.place=insertAt t.place (below t.place j) j) (hd:t'.dummies = #[])
  (hf:(es.size+1) * 5<t.mask * 3):TI t' (insertAt es (below t.place j) (h,x)):=by
 have a:=(bj T.up j).1
 have a':below t.place j<=es.size:=by rw [<- T.sz]; exact a
 refine ⟨by rw [ht]; exact T.pw,by rw [hp,cH _ _ a,cH _ _ a',T.sz],by rw [hp]; exact zb T.up hn,fun i hi=>?_,hd,by rw [cH _ _ a',ht]; exact hf,fun i g y e=>?_⟩
 ·rw [hp,cH _ _ a] at hi
  rw [hp,cR a,ht]
  split
  ·exact T.le i (by lia)
  ·split
   ·exact hj
   ·exact T.le (i - 1) (by lia)
 ·have mono:∀ {g:Int} {k:Nat},Reach t.mask t.place g k->Reach t'.mask t'.place g k:=fun {g k} ⟨n,h1,h2,h3⟩=>⟨n,by rw [ht]; exact h1,by rw [ht]; exact h2,fun q hq=>by
   rw [hp,ht,vf T.up hn,h3 q hq,Bool.or_true]⟩
  rw [ins_get es _ a'] at e
  rw [hp,cR a,<- hp]
  by_cases h1:i<below t.place j
  ·rw [if_pos h1] at e ⊢
   exact mono (T.path i g y e)
  ·rw [if_neg h1] at e ⊢
   by_cases h2:i=below t.place j
   ·rw [if_pos h2] at e ⊢
    cases e
    exact mono hr
   ·rw [if_neg h2] at e ⊢
    exact mono (T.path (i - 1) g y e)
end
theorem gm [DecidableEq α]:∀ {l m:List α},l.Nodup->(∀ x∈l,x∈m)->l.length<=m.length
 | [],_,_,_=>xas _
 | x :: l,m,nd,h=>by
  rw [xaH] at nd
  have hx:=h x xad
  have:=gm (l:=l) (m:=m.erase x) nd.2 fun y hy=>(List.mem_erase_of_ne (fun e=>nd.1 (by rw [<- e]; exact hy))).mpr (h y (xab _ hy))
  rw [List.length_erase_of_mem hx] at this
  have:0<m.length:=List.length_pos_of_mem hx
  simp only [xaN]; lia
def occ (owner:Array (Option Nat)) (j:Nat):Bool:=(owner.getD j (some 0)).isSome
theorem m9 (h:Int) (owner:Array (Option Nat)):∀ (fuel k:Nat),(∀ q<blk M h k,occ owner (J M h q)=true)->(∃ K,k<=K/\K<k+fuel/\K<=M+13/\occ owner (lp M h K).1=false) ->
  ∃ j n,layClean.free M owner fuel (lp M h k).1 (lp M h k).2=some j/\J M h n=j/\n<=10 * (M+13)/\occ owner j=false/\∀ q<n,occ owner (J M h q)=true
 | 0,k,_,⟨K,h1,h2,_⟩=>by lia
 | fuel+1,k,hq,⟨K,h1,h2,h3,h4⟩=>by
  have hrun:∀ r,r<=runEnd M (lp M h k).1 - (lp M h k).1->J M h (blk M h k+r)=(lp M h k).1+r:=fun r hr=>by
   unfold J
   rw [tW M h (blk M h k) r (by rw [qN]; exact hr),qN]
  have hle:=qg (Aj M h k)
  have e:∀ r,(owner.getD ((lp M h k).1+r) (some 0)).isNone = !occ owner ((lp M h k).1+r):=fun r=>by
   unfold occ; cases owner.getD ((lp M h k).1+r) (some 0) <;> rfl
  unfold layClean.free
  cases hf:(List.range (runEnd M (lp M h k).1+1 - (lp M h k).1)).find? fun r=>(owner.getD ((lp M h k).1+r) (some 0)).isNone with
  | some r =>
   obtain ⟨a1,a2,a3⟩:=List.find?_range_eq_some.mp hf
   have a2:r<runEnd M (lp M h k).1+1 - (lp M h k).1:=by simpa using a2
   rw [e] at a1
   have a1:occ owner ((lp M h k).1+r)=false:=by simpa using a1
   have occs:∀ q<blk M h k+r,occ owner (J M h q)=true:=fun q hqq=>by
    by_cases z:q<blk M h k
    ·exact hq q z
    ·have:=a3 (q - blk M h k) (by lia)
     rw [e] at this
     have hj:=hrun (q - blk M h k) (by lia)
     rw [show blk M h k+(q - blk M h k)=q by lia] at hj
     rw [hj]
     simpa using this
   refine ⟨_,blk M h k+r,rfl,hrun r (by lia),?_,a1,occs⟩
   have hb:=uX M h K
   by_cases z:blk M h k+r<=blk M h K
   ·lia
   ·have:=occs (blk M h K) (by lia)
    rw [BZ,h4] at this; cases this
  | none =>
   have hn:=List.find?_eq_none.mp hf
   have occr:∀ r,r<=runEnd M (lp M h k).1 - (lp M h k).1->occ owner ((lp M h k).1+r)=true:=fun r hr=>by
    have:=hn r (by simp; lia)
    rw [e] at this
    simpa using this
   dsimp only
   have hK:K≠k:=fun z=>by
    subst z
    have:=occr 0 (xas _)
    rw [xbY,h4] at this; cases this
   refine m9 h owner fuel (k+1) (fun q hqq=>?_) ⟨K,by lia,by lia,h3,h4⟩
   by_cases z:q<blk M h k
   ·exact hq q z
   ·have hqq:q<blk M h k+(runEnd M (lp M h k).1 - (lp M h k).1)+1:=hqq
    have hj:=hrun (q - blk M h k) (by lia)
    rw [show blk M h k+(q - blk M h k)=q by lia] at hj
    rw [hj]
    exact occr _ (by lia)
structure OI (M:Nat) (hs:List Int) (owner:Array (Option Nat)):Prop where
 sz:owner.size=M+1
 lt:∀ j v:Nat,owner[j]? = some (some v)->v<hs.length
 inj:∀ j j' v:Nat,owner[j]? = some (some v)->owner[j']? = some (some v)->j=j'
 all:∀ v:Nat,v<hs.length->∃ j:Nat,owner[j]? = some (some v)
 path:∀ j v:Nat,owner[j]? = some (some v)->∃ n,n<=10 * (M+13)/\J M (hs.getD v 0) n=j/\∀ q<n,occ owner (J M (hs.getD v 0) q)=true
theorem pK (h:j<owner.size):occ owner j=true↔∃ v,owner[j]? = some (some v):=by
 unfold occ
 rw [xaP h]
 simp only [Array.getD,h,dite_true,Option.some.injEq]
 cases hh:owner[j] with
 | none =>
  have:owner.getInternal j h=none:=hh
  rw [this]; simp
 | some v =>
  have:owner.getInternal j h=some v:=hh
  rw [this]; simp
theorem OI.free (O:OI M hs owner) (hl:hs.length<=M):∃ e,e<=M/\occ owner e=false:=by
 by_cases c:∃ e,e<=M/\occ owner e=false
 ·exact c
 ·exfalso
  have all:∀ e,e<=M->∃ v,owner[e]? = some (some v):=fun e he=>by
   refine (pK (by rw [O.sz]; lia)).mp ?_
   cases z:occ owner e with
   | true=>rfl
   | false=>exact absurd ⟨e,he,z⟩ c
  have nd:((List.range (M+1)).map fun j=>(owner.getD j none).getD 0).Nodup:=by
   rw [xbt,xaL]
   refine List.Pairwise.imp_of_mem ?_ (xbt.mp List.nodup_range)
   intro a b ha hb hne z
   obtain ⟨va,ea⟩:=all a (by have:=xaV.mp ha; lia)
   obtain ⟨vb,eb⟩:=all b (by have:=xaV.mp hb; lia)
   rw [xaT,xaT,ea,eb] at z
   have z:va=vb:=z
   subst z
   exact hne (O.inj _ _ _ ea eb)
  have:=gm (m:=List.range hs.length) nd fun x hx=>by
   obtain ⟨j,hj,rfl⟩:=xaj.mp hx
   obtain ⟨v,e⟩:=all j (by have:=xaV.mp hj; lia)
   rw [xaT,e]
   exact xaV.mpr (O.lt _ _ e)
  simp at this
  lia
theorem OI.lay (hM:M+1=2 ^ m) (O:OI M hs owner) (hl:hs.length<=M) (h:Int) :
  ∃ j,layClean.free M owner (turns M) (bits h % (M+1)) (bits h)=some j/\OI M (hs++[h]) (owner.setIfInBounds j (some hs.length)):=by
 obtain ⟨e,he,hf⟩:=O.free hl
 obtain ⟨K,hK,hKe⟩:=cover hM h he
 obtain ⟨j,n,e1,e2,e3,e4,e5⟩:=m9 h owner (turns M) 0 (fun q hq=>absurd hq (xbv q)) ⟨K,xas _,by unfold turns; lia,hK,by rw [hKe]; exact hf⟩
 refine ⟨j,e1,?_⟩
 have hj:j<owner.size:=by rw [O.sz,<- e2]; exact xbz (J_le M h n)
 have get:∀ i,(owner.setIfInBounds j (some hs.length))[i]? = if j=i then some (some hs.length) else owner[i]? := fun i=>by
  rw [Array.getElem?_setIfInBounds]
  by_cases z:j=i
  ·subst z; simp [hj]
  ·simp [z]
 have oc:∀ i,occ owner i=true->occ (owner.setIfInBounds j (some hs.length)) i=true:=fun i hi=>by
  unfold occ at hi ⊢
  rw [xaT] at hi ⊢
  rw [get]
  split
  ·rfl
  ·exact hi
 have hne:∀ v,owner[j]?≠some (some v):=fun v z=>by
  have:=(pK hj).mpr ⟨v,z⟩
  rw [e4] at this; cases this
 refine ⟨by rw [Array.size_setIfInBounds]; exact O.sz,fun i v z=>?_,fun i i' v z z'=>?_,fun v hv=>?_,fun i v z=>?_⟩
 ·rw [get] at z
  split at z
  ·cases z; simp
  ·have:=O.lt i v z; simp; lia
 ·rw [get] at z z'
  split at z
  ·cases z
   split at z'
   ·lia
   ·exact absurd (O.lt _ _ z') (xaW _)
  ·split at z'
   ·cases z'
    exact absurd (O.lt _ _ z) (xaW _)
   ·exact O.inj i i' v z z'
 ·simp at hv
  by_cases c:v=hs.length
  ·exact ⟨j,by rw [get,if_pos rfl,c]⟩
  ·obtain ⟨i,hi⟩:=O.all v (by lia)
   refine ⟨i,?_⟩
   rw [get,if_neg (fun z=>hne v (by rw [z]; exact hi))]
   exact hi
 ·rw [get] at z
  split at z
  ·rename_i hji
   cases z
   refine ⟨n,e3,?_,fun q hq=>oc _ ?_⟩
   ·rw [xbh,xaM (xaf _)]
    simp [e2,hji]
   ·have:=e5 q hq
    rw [xbh,xaM (xaf _)]
    simpa using this
  ·have hv:=O.lt i v z
   obtain ⟨n',a1,a2,a3⟩:=O.path i v z
   have eg:(hs++[h]).getD v 0=hs.getD v 0:=by
    rw [xbh,xbh,xa0 hv]
   rw [eg]
   exact ⟨n',a1,a2,fun q hq=>oc _ (a3 q hq)⟩
theorem OI.nil (M:Nat):OI M [] (Array.replicate (M+1) none):=by
 have no:∀ (j v:Nat),¬ (Array.replicate (M+1) (none:Option Nat))[j]? = some (some v):=fun j v z=>by
  rw [Array.getElem?_replicate] at z
  split at z <;> cases z
 exact ⟨by simp,fun j v z=>absurd z (no j v),fun j j' v z _=>absurd z (no j v),fun v hv=>absurd hv (xbv v),fun j v z=>absurd z (no j v)⟩
theorem zP (hM:M+1=2 ^ m) (hs:Array Int) (hl:hs.size<=M):∃ owner,layClean M hs=some owner/\OI M hs.toList owner:=by
 have go:∀ (l pre:List Int) (owner:Array (Option Nat)),OI M pre owner->pre.length+l.length<=M->∃ owner',l.foldl (fun acc h=>do
   let (owner,k) ← acc
   let j ← layClean.free M owner (turns M) (bits h % (M+1)) (bits h)
   pure (owner.setIfInBounds j (some k),k+1)) (some (owner,pre.length))=some (owner',pre.length+l.length)/\OI M (pre++l) owner':=by
  intro l
  induction l with
  | nil=>intro pre owner O _; exact ⟨owner,rfl,by rw [xaX]; exact O⟩
  | cons h l ih =>
   intro pre owner O hz
   rw [xaN] at hz
   obtain ⟨j,e,O'⟩:=O.lay hM (by lia) h
   obtain ⟨o2,e2,O2⟩:=ih (pre++[h]) _ O' (by simp; lia)
   refine ⟨o2,?_,by rw [xaZ] at O2; exact O2⟩
   rw [List.foldl_cons]
   have:(do
    let (owner,k) ← (some (owner,pre.length):Option (Array (Option Nat) × Nat))
    let j ← layClean.free M owner (turns M) (bits h % (M+1)) (bits h)
    pure (owner.setIfInBounds j (some k),k+1))=some (owner.setIfInBounds j (some pre.length),(pre++[h]).length):=by
    simp [e]
   rw [this,e2]
   simp; lia
 obtain ⟨o,e,O⟩:=go hs.toList [] _ (OI.nil M) (by simpa using hl)
 refine ⟨o,?_,by simpa using O⟩
 unfold layClean
 rw [<- Array.foldl_toList]
 have e':=e
 simp only [List.length_nil] at e'
 rw [e']
 rfl
theorem ie:∀ (fuel a:Nat),3<=a->n<2 ^ (a+fuel)->∃ b,3<=b/\sizeAbove.go n fuel (2 ^ a)=2 ^ b/\n<2 ^ b/\(2 ^ b<=2 * n\/b=a)
 | 0,a,ha,h=>⟨a,ha,rfl,by simpa using h,.inr rfl⟩
 | fuel+1,a,ha,h=>by
  unfold sizeAbove.go
  by_cases c:2 ^ a<=n
  ·rw [if_pos c]
   obtain ⟨b,h1,h2,h3,h4⟩:=ie fuel (a+1) (by lia) (by rw [show a+1+fuel=a+(fuel+1) by lia]; exact h)
   refine ⟨b,h1,by rw [xbn] at h2; exact h2,h3,?_⟩
   rcases h4 with h4 | h4
   ·exact .inl h4
   ·left
    rw [h4,xbn]; lia
  ·rw [if_neg c]
   exact ⟨a,ha,rfl,by lia,.inr rfl⟩
theorem jP (h:n<2 ^ 60):∃ b,3<=b/\sizeAbove n=2 ^ b/\n<2 ^ b/\(2 ^ b<=2 * n\/b=3) :=
 ie 64 3 (xaf _) (xcv h (by decide))
section
variable {α:Type}
def bw (M:Nat) (owner:Array (Option Nat)):List (Nat × Nat):=(List.range (M+1)).filterMap fun j=>(owner.getD j none).map (j,·)
theorem dC:p∈bw M owner↔p.1<M+1/\owner[p.1]? = some (some p.2):=by
 unfold bw
 rw [xcj]
 constructor
 ·rintro ⟨j,hj,e⟩
  rw [xaT] at e
  cases h:owner[j]? with
  | none=>rw [h] at e; cases e
  | some o =>
   rw [h] at e
   cases o with
   | none=>cases e
   | some v =>
    cases e
    exact ⟨xaV.mp hj,h⟩
 ·rintro ⟨h1,h2⟩
  exact ⟨p.1,xaV.mpr h1,by rw [xaT,h2]; rfl⟩
theorem pU (M:Nat) (owner:Array (Option Nat)):((bw M owner).map (·.1)).Pairwise (· < ·):=by
 unfold bw
 rw [xaL,List.pairwise_filterMap]
 refine List.Pairwise.imp ?_ List.pairwise_lt_range
 intro a b hab p hp q hq
 cases h1:owner.getD a none with
 | none=>rw [h1] at hp; cases hp
 | some x =>
  cases h2:owner.getD b none with
  | none=>rw [h2] at hq; cases hq
  | some y =>
   rw [h1] at hp; rw [h2] at hq
   cases hp; cases hq
   exact hab
theorem rC {l:List Nat} (h:l.Pairwise (· < ·)):Up l.toArray:=fun i j hij hj=>by
 have hj:j<l.length:=by simpa using hj
 have:=xaQ.mp h i j (by walk_at "s1") hj hij
 have e:∀ k (hk:k<l.length),l.toArray.getD k 0=l[k]:=fun k hk=>by simp [Array.getD,hk]
 rw [e i (by walk_at "s1"),e j hj]
 exact this
theorem rA {β:Type} {f:α->Option β}:∀ {l:List α},(∀ x∈l,(f x).isSome=true)->(l.filterMap f).length=l.length/\∀ i:Nat,(l.filterMap f)[i]? = (l[i]?).bind f
 | [],_=>⟨rfl,fun i=>by simp⟩
 | x :: l,h=>by
  obtain ⟨a,b⟩:=rA (f:=f) (l:=l) fun y hy=>h y (xab _ hy)
  have hx:=h x xad
  cases e:f x with
  | none=>rw [e] at hx; cases hx
  | some y =>
   rw [xbC,e]
   refine ⟨by simp [a],fun i=>?_⟩
   cases i with
   | zero=>simp [e]
   | succ i=>simpa using b i
theorem qP (es:Array (Int × α)):(List.range es.size).filterMap (fun i=>es[i]?)=es.toList:=by
 apply xbe
 intro i
 rw [(rA (l:=List.range es.size) fun x hx=>by
  have:=xaV.mp hx
  simp [this]).2 i]
 by_cases h:i<es.size
 ·rw [List.getElem?_range h,xax]; rfl
 ·rw [xaK (by simpa using h),xaK (by simpa using h)]; rfl
theorem zM {M m finger moves:Nat} {led plain:Bool} (hM:M+1=2 ^ m) (hm:3<=m) {es:Array (Int × α)} (hf:es.size * 5<M * 3) :
  ∃ t order,laid M finger moves led plain (es.map (·.1))=some (t,order)/\t.plain=plain/\t.led=led/\t.mask=M/\TI t (order.filterMap fun i=>es[i]?)/\(order.filterMap fun i=>es[i]?).size=es.size/\(order.filterMap fun i=>es[i]?).toList.Perm es.toList/\order.toList.Perm (List.range es.size):=by
 obtain ⟨owner,e,O⟩:=zP hM (es.map (·.1)) (by rw [Array.size_map]; lia)
 have hn:(es.map (·.1)).toList.length=es.size:=by simp
 refine ⟨{ mask:=M,place:=((bw M owner).map (·.1)).toArray,dummies:=#[],finger,led,moves,plain },((bw M owner).map (·.2)).toArray,?_,rfl,rfl,rfl,?_⟩
 ·unfold laid
  rw [e]; rfl
 have vlt:∀ p∈bw M owner,p.2<es.size:=fun p hp=>by
  have:=O.lt _ _ (dC.mp hp).2
  lia
 have nd:((bw M owner).map (·.2)).Nodup:=by
  rw [xbt,xaL]
  have:=pU M owner
  rw [xaL] at this
  refine List.Pairwise.imp_of_mem ?_ this
  intro p q hp hq hlt z
  have:=O.inj _ _ _ (dC.mp hp).2 (by rw [z]; exact (dC.mp hq).2)
  lia
 have pm:((bw M owner).map (·.2)).Perm (List.range es.size):=by
  refine (List.perm_ext_iff_of_nodup nd List.nodup_range).mpr fun v=>⟨fun hv=>?_,fun hv=>?_⟩
  ·obtain ⟨p,hp,rfl⟩:=xaj.mp hv
   exact xaV.mpr (vlt p hp)
  ·obtain ⟨j,hj⟩:=O.all v (by rw [hn]; exact xaV.mp hv)
   have hjs:=(xa7.mp hj).1
   rw [O.sz] at hjs
   exact xaj.mpr ⟨(j,v),dC.mpr ⟨hjs,hj⟩,rfl⟩
 have hlen:(bw M owner).length=es.size:=by
  have:=pm.length_eq
  simpa using this
 have hes:(((bw M owner).map (·.2)).toArray.filterMap fun i=>es[i]?).toList=(bw M owner).filterMap fun p=>es[p.2]? := by
  rw [Array.toList_filterMap,xck]; rfl
 obtain ⟨f1,f2⟩:=rA (l:=bw M owner) (f:=fun p=>es[p.2]?) fun p hp=>by simp [vlt p hp]
 have hget:∀ i:Nat,(((bw M owner).map (·.2)).toArray.filterMap fun i=>es[i]?)[i]? = ((bw M owner)[i]?).bind fun p=>es[p.2]? := fun i=>by
  rw [<- xax,hes]; exact f2 i
 have hsz:(((bw M owner).map (·.2)).toArray.filterMap fun i=>es[i]?).size=es.size:=by
  rw [<- xa2,hes,f1,hlen]
 have hpl:∀ i:Nat,∀ p,(bw M owner)[i]? = some p->((bw M owner).map (·.1)).toArray.getD i 0=p.1:=fun i p hp=>by
  rw [xaT]
  simp [hp]
 have tk:∀ j,occ owner j=true->j<=M->taken ((bw M owner).map (·.1)).toArray j=true:=fun j hj hM'=>by
  obtain ⟨v,hv⟩:=(pK (by rw [O.sz]; exact xbz ‹_›)).mp hj
  obtain ⟨i,hi⟩:=xbu.mp (dC.mpr (show ((j,v):Nat × Nat).1<M+1/\owner[((j,v):Nat × Nat).1]? = some (some ((j,v):Nat × Nat).2) from ⟨by show j<M+1; exact xbz ‹_›,hv⟩))
  exact (dU (rC (pU M owner))).mpr ⟨i,by
   have:=(xal.mp hi).1
   simpa using this,hpl i _ hi⟩
 refine ⟨?_,hsz,?_,by simpa using pm⟩
 ·refine ⟨⟨m,hM,hm⟩,?_,rC (pU M owner),fun i hi=>?_,rfl,by rw [hsz]; exact hf,fun i h x hx=>?_⟩
  ·rw [hsz]; simp [hlen]
  ·have hi:i<(bw M owner).length:=by simpa using hi
   have e1:=xam hi
   show ((bw M owner).map (·.1)).toArray.getD i 0<=M
   rw [hpl i _ e1]
   have:=(dC.mp (xaC e1)).1
   lia
  ·rw [hget] at hx
   cases hp:(bw M owner)[i]? with
   | none=>rw [hp] at hx; cases hx
   | some p =>
    rw [hp] at hx
    have hx:es[p.2]? = some (h,x):=hx
    have hm':=dC.mp (xaC hp)
    obtain ⟨n,a1,a2,a3⟩:=O.path _ _ hm'.2
    have hh:(es.map (·.1)).toList.getD p.2 0=h:=by
     rw [xbh,xax,Array.getElem?_map,hx]; rfl
    rw [hh] at a2 a3
    refine ⟨n,a1,?_,fun q hq=>tk _ (a3 q hq) (J_le M h q)⟩
    show J M h n=((bw M owner).map (·.1)).toArray.getD i 0
    rw [hpl i _ hp]; exact a2
 ·rw [hes]
  have:=pm.filterMap fun i=>es[i]?
  rw [qP,xck] at this
  exact this
theorem uL {t:SetTable} {es:Array (Int × α)} (hn:es.size<=10000) :
  ∃ t' order,t.relaid (es.map (·.1)) (grown es.size)=some (t',order)/\t'.plain=t.plain/\t'.led=t.led/\sizeAbove (grown es.size)<=16777216/\(es.size<=1000->t'.mask<=8191)/\TI t' (order.filterMap fun i=>es[i]?)/\(order.filterMap fun i=>es[i]?).size=es.size/\(order.filterMap fun i=>es[i]?).toList.Perm es.toList/\order.toList.Perm (List.range es.size):=by
 have hg:grown es.size=es.size * 4:=by unfold grown; rw [if_neg (by lia)]
 obtain ⟨b,h3,e,hlt,hle⟩:=jP (n:=es.size * 4) (by lia)
 have h8:8<=2 ^ b:=Nat.pow_le_pow_right (n:=2) (by decide) h3
 unfold relaid
 rw [hg,e]
 obtain ⟨t',order,q1,q2,q3,qm,q4⟩:=zM (M:=2 ^ b - 1) (m:=b) (finger:=t.finger) (moves:=t.movedTo (2 ^ b - 1)) (led:=t.led) (plain:=t.plain) (by lia) h3 (es:=es) (by lia)
 refine ⟨t',order,q1,q2,q3,?_,fun hz=>?_,q4⟩
 ·rcases hle with hle | rfl
  ·lia
  ·decide
 ·rw [qm]
  rcases hle with hle | rfl
  ·lia
  ·decide
end
section
variable {α:Type} {t:SetTable} {es:Array (Int × α)}
theorem qU (T:TI t es) (hashAt:Nat->Int) (h:Int):∀ (fuel n:Nat),(∃ N,n<=N/\N<n+fuel/\taken t.place (J t.mask h N)=false) ->
  ∃ n',n<=n'/\n'<n+fuel/\(∀ q,n<=q->q<n'->taken t.place (J t.mask h q)=true/\hashAt (below t.place (J t.mask h q))≠h) /\
   ((taken t.place (J t.mask h n')=false/\probe.go t hashAt h fuel (ps t.mask h n)=some (.empty (J t.mask h n') none)) \/
    (taken t.place (J t.mask h n')=true/\hashAt (below t.place (J t.mask h n'))=h/\probe.go t hashAt h fuel (ps t.mask h n)=some (.candidate (J t.mask h n') (below t.place (J t.mask h n')) (ps t.mask h (n'+1)))))
 | 0,n,⟨N,h1,h2,_⟩=>by lia
 | fuel+1,n,⟨N,h1,h2,h3⟩=>by
  unfold probe.go
  have hs:=T.slot (J t.mask h n)
  have hd:=(Bm t.mask h n).2.2.1
  by_cases c:taken t.place (J t.mask h n)=true
  ·rw [if_pos c] at hs
   have hs:t.slot (ps t.mask h n).j=.live (below t.place (J t.mask h n)):=hs
   rw [hs]
   dsimp only
   by_cases e:hashAt (below t.place (J t.mask h n))=h
   ·rw [if_pos (by simpa using e)]
    exact ⟨n,xaf _,by lia,fun q a b=>by lia,.inr ⟨c,e,rfl⟩⟩
   ·rw [if_neg (by simpa using e)]
    have hN:N≠n:=fun z=>by rw [z,c] at h3; cases h3
    obtain ⟨n',a1,a2,a3,a4⟩:=qU T hashAt h fuel (n+1) ⟨N,by lia,by lia,h3⟩
    refine ⟨n',by exact xaF ‹_›,by lia,fun q b1 b2=>?_,a4⟩
    by_cases z:q=n
    ·subst z; exact ⟨c,e⟩
    ·exact a3 q (by lia) b2
  ·have c:taken t.place (J t.mask h n)=false:=by simpa using c
   rw [if_neg (by rw [c]; exact xap)] at hs
   have hs:t.slot (ps t.mask h n).j=.empty:=hs
   rw [hs]
   dsimp only
   rw [hd]
   exact ⟨n,xaf _,by lia,fun q a b=>by lia,.inl ⟨c,rfl⟩⟩
end
section
variable {prog:Program} {w:World} {K:Type} [DecidableEq K] {knd:KeyKind prog w K}
abbrev aU (knd:KeyKind prog w K) (k:List K):Int:=tupleKeyHash knd k
def wG (knd:KeyKind prog w K) (p:List K × Addr):Int × Value:=(aU knd p.1,.ref p.2)
structure SetT (knd:KeyKind prog w K) (h:Heap) (a:Addr) (ks:List (List K × Addr)):Prop where
 ob:∃ o es ep t,h.get? a=some o/\o.ExactSet/\o.data=.set es ep t/\TI t es/\t.mask<=8191/\t.led=(!w.params.followText "set-order")/\es.toList=ks.map (wG knd)
 nd:(ks.map (·.1)).Nodup
 is:∀ p∈ks,IsTupleKey knd h p.1 p.2
variable {A:Around} {E:Value->Shared->Prop} {s:Shared}
theorem jz (hk:IsTupleKey knd s.heap k a) (h:Q false s):wpAny (model prog w) A (ofAClassStatement 8 (.ref a)) Q E s:=by
 have hT:=hk.typeIs
 obtain ⟨o,items,n,ho,_,hd,hi⟩:=hk
 unfold ofAClassStatement
 refine xaa (wpAny_typeOf hT ?_)
 dsimp only
 refine xaa ?_
 refine xac ?_
 simp only [xco,xao,if_false]
 refine xaa (wpAny_seqItems ho hd ?_)
 dsimp only
 refine xaa ?_
 rw [<- Array.forIn_toList]
 refine wpAny_forIn_list _ (fun rest r s'=>r.1=none/\s'=s/\∀ v∈rest,carriedByValue v=true) _ ?_ ?_ _ _ ⟨rfl,rfl,hi.byValue⟩
 ·rintro v rest r s' ⟨hr,rfl,hall⟩
  have hv:=hall v xad
  have e:ofAClassStatement 7 v=pure false:=by
   cases v with
   | ref a=>cases hv
   | _=>rfl
  rw [e]
  refine xaa (xac ?_)
  simp only [xao,if_false]
  exact xac ⟨rfl,rfl,fun u hu'=>hall u (xab _ hu')⟩
 ·rintro ⟨r1,r2⟩ s' ⟨hr,rfl,_⟩
  simp only at hr
  subst hr
  exact xac h
theorem gY (hk:IsTupleKey knd s.heap k a) (hsc:∀ k v,knd.is k v=true->v.scannable=true) (h:∀ b,Q b s):wpAny (model prog w) A (hashByValue 8 (.ref a)) Q E s:=by
 have hT:=hk.typeIs
 obtain ⟨o,items,n,ho,_,hd,hi⟩:=hk
 have hsc':∀ v∈items.toList,v.scannable=true:=by
  clear ho hd
  generalize items.toList=l at hi
  induction hi with
  | nil=>intro v hv; cases hv
  | cons h1 _ ih =>
   intro v hv
   rcases xak.mp hv with rfl | hv
   ·exact hsc _ _ h1
   ·exact ih v hv
 unfold hashByValue
 refine xaa (wpAny_specialOf hT F.slot_tuple_hash.lookup ?_)
 dsimp only
 refine xaa (wpAny_seqItems ho hd ?_)
 dsimp only [Option.getD]
 refine xaa ?_
 rw [<- Array.forIn_toList]
 refine wpAny_forIn_list _ (fun rest r s'=>s'=s/\∀ v∈rest,v.scannable=true) _ ?_ ?_ _ _ ⟨rfl,hsc'⟩
 ·rintro v rest r s' ⟨rfl,hall⟩
  rw [hashByValue_scannable 7 (hall v xad)]
  refine xaa (xac ?_)
  split
  ·exact xac (xac (h _))
  ·exact xac ⟨rfl,fun u hu'=>hall u (xab _ hu')⟩
 ·rintro ⟨r1,r2⟩ s' ⟨rfl,_⟩
  cases r1 with
  | none=>exact xac (h true)
  | some b=>exact xac (h b)
end
local macro_rules | `(tactic| walk_at $s:str) => do
 let x:=s.getString
 if x.startsWith "PV" then `(tactic| exact $(Lean.mkIdent (.str (.str (.num (.str (.str (.str .anonymous "_private") "PySem") "SetOps") 0) "PySem") (x.drop 2).toString)))
 else Lean.Macro.throwUnsupported
abbrev vp:Array (Int × Value)->Nat->Int:=by walk_at "PVstoredHashAt"
abbrev Az:Array (Int × Value)->Option (SetTable × Array Nat)->Sem (Array (Int × Value) × SetTable):=by walk_at "PVreordered"
abbrev lR:Array (Int × Value)->SetTable->Bool:=by walk_at "PVdrawn"
abbrev Em:Array (Int × Value)->SetTable->Sem Unit:=by walk_at "PVmustBeLedForItsPlaces"
def qb:Array (Int × Value)->Nat->Int:=vp
theorem oW (es:Array (Int × Value)) (i:Nat):qb es i=(es[i]?.map (·.1)).getD 0:=rfl
section
variable {prog:Program} {w:World} {K:Type} [DecidableEq K] {knd:KeyKind prog w K} {A:Around} {E:Value->Shared->Prop} {s:Shared}
theorem tL (hk:IsTupleKey knd s.heap k a) (hy:∀ y∈ys,∃ k' b,y=.ref b/\IsTupleKey knd s.heap k' b) (h:Q false s):wpAny (model prog w) A (searchCouldBeSeen (.ref a) ys) Q E s:=by
 unfold searchCouldBeSeen
 refine xaa ?_
 refine wpAny_forIn_list _ (fun rest r s'=>r.1=none/\s'=s/\∀ y∈rest,∃ k' b,y=.ref b/\IsTupleKey knd s.heap k' b) _ ?_ ?_ _ _ ⟨rfl,rfl,hy⟩
 ·rintro y rest r s' ⟨hr,rfl,hall⟩
  obtain ⟨k',b,rfl,hb⟩:=hall y xad
  have go:∀ (P:Prop),P->P:=fun _ p=>p
  dsimp only
  split
  ·exact xac ⟨rfl,rfl,fun u hu'=>hall u (xab _ hu')⟩
  ·refine xaa (wpAny_eqIsQuiet_tuple hk ?_)
   simp only [xco,xao,if_false]
   refine xaa (wpAny_eqIsQuiet_tuple hb ?_)
   simp only [xco,xao,if_false]
   refine xaa (jz hk ?_)
   simp only [xao,if_false]
   refine xaa (jz hb ?_)
   simp only [xao,if_false]
   exact xac ⟨rfl,rfl,fun u hu'=>hall u (xab _ hu')⟩
 ·rintro ⟨r1,r2⟩ s' ⟨hr,rfl,_⟩
  simp only at hr
  subst hr
  exact xac h
theorem Ei {K G:Prop} (pk:K) (h:K->G):G:=h pk
theorem nj {a x:Addr} {k:List K} {ks:List (List K × Addr)} {o:Obj} {es:Array (Int × Value)} {ep:Nat} {t:SetTable} (hu:A.units<cLine) (ho:s.heap.get? a=some o) (hd:o.data=.set es ep t) (T:TI t es) (he:es.toList=ks.map (wG knd))
  (his:∀ p∈ks,IsTupleKey knd s.heap p.1 p.2) (hx:IsTupleKey knd s.heap k x) {Q:SetFound->Shared->Prop} (hyes:k∈ks.map (·.1)->Q (.there none) s)
  (nf:Nat) (hnf:nf<=10 * (t.mask+13)) (hfr:taken t.place (J t.mask (aU knd k) nf)=false) (hbf:∀ q<nf,taken t.place (J t.mask (aU knd k) q)=true)
  (hno:k∉ks.map (·.1)->Q (.free (J t.mask (aU knd k) nf) false) s) :
  ∀ (fuel n:Nat) (stand:Option Probe),stand.getD (t.probeStart (aU knd k))=ps t.mask (aU knd k) n->n<=nf->nf<n+fuel ->
   (∀ q<n,∀ p,ks[below t.place (J t.mask (aU knd k) q)]? = some p->p.1≠k)->wpAny (model prog w) A (setSearchFrom a (.ref x) (aU knd k) true fuel stand) Q E s
 | 0,n,stand,_,h1,h2,_=>by lia
 | fuel+1,n,stand,hst,h1,h2,hq=>by
  have hel:∀ i:Nat,es[i]? = (ks[i]?).map (wG knd):=fun i=>by rw [<- xax,he,xaG]
  unfold setSearchFrom
  refine xaa (wpAny_setState_of ho hd T.fits ?_)
  dsimp only
  rw [if_neg (by rw [T.odd]; exact xap)]
  obtain ⟨n',a1,a2,a3,a4⟩:=qU T (qb es) (aU knd k) (10 * turns t.mask) n ⟨nf,h1,by unfold turns; lia,hfr⟩
  have hn':n'<=nf:=by
   by_cases z:n'<=nf
   ·exact z
   ·have:=(a3 nf h1 (by exact Nat.lt_of_not_le ‹_›)).1
    rw [hfr] at this; cases this
  rcases a4 with ⟨c1,c2⟩ | ⟨c1,c2,c3⟩
  ·have c2:t.probe (qb es) (aU knd k) (stand.getD (t.probeStart (aU knd k)))=some (.empty (J t.mask (aU knd k) n') none):=by rw [hst]; exact c2
   have e:n'=nf:=by
    by_cases z:n'<nf
    ·have:=hbf n' z
     rw [c1] at this; cases this
    ·lia
   have c2:t.probe (vp es) (aU knd k) (stand.getD (t.probeStart (aU knd k)))=some (.empty (J t.mask (aU knd k) n') none):=c2
   rw [c2]
   dsimp only
   rw [e]
   refine xac (hno fun hm=>?_)
   obtain ⟨p,hp,rfl⟩:=xaj.mp hm
   obtain ⟨i,hi⟩:=xbu.mp hp
   have ei:es[i]? = some (aU knd p.1,.ref p.2):=by rw [hel,hi]; rfl
   have his':i<t.place.size:=by rw [T.sz]; exact (xa7.mp ei).1
   obtain ⟨ni,b1,b2,b3⟩:=T.path i _ _ ei
   have bt:below t.place (J t.mask (aU knd p.1) ni)=i:=by rw [b2]; exact below_at T.up his'
   have tk:taken t.place (J t.mask (aU knd p.1) ni)=true:=by rw [b2]; exact (dU T.up).mpr ⟨i,his',rfl⟩
   have hlt:ni<nf:=by
    by_cases z:nf<ni
    ·have:=b3 nf z
     rw [hfr] at this; cases this
    ·have:ni≠nf:=fun z=>by rw [z,hfr] at tk; cases tk
     lia
   by_cases z:ni<n
   ·exact hq ni z p (by rw [bt]; exact hi) rfl
   ·refine (a3 ni (by exact xbc ‹_›) (by lia)).2 ?_
    rw [bt,oW,ei]; rfl
  ·have c3:t.probe (vp es) (aU knd k) (stand.getD (t.probeStart (aU knd k)))=some (.candidate (J t.mask (aU knd k) n') (below t.place (J t.mask (aU knd k) n')) (ps t.mask (aU knd k) (n'+1))):=by rw [hst]; exact c3
   rw [c3]
   dsimp only
   have tk:=iM T.up c1
   have hsl:t.slot (J t.mask (aU knd k) n')=.live (below t.place (J t.mask (aU knd k) n')):=by rw [T.slot,if_pos c1]
   generalize hi:below t.place (J t.mask (aU knd k) n')=i at tk c2 hsl ⊢
   have hil:i<es.size:=by rw [<- T.sz]; exact tk.1
   obtain ⟨p,hp⟩:∃ p,ks[i]? = some p:=by
    have:i<ks.length:=by
     have:=congrArg List.length he
     simp at this; lia
    exact ⟨_,xam this⟩
   have ei:es[i]? = some (aU knd p.1,.ref p.2):=by rw [hel,hp]; rfl
   have hpm:=xaC hp
   have hne:n'≠nf:=fun z=>by rw [z,hfr] at c1; cases c1
   have again:¬ p.1=k->wpAny (model prog w) A (setSearchFrom a (.ref x) (aU knd k) true fuel (some (ps t.mask (aU knd k) (n'+1)))) Q E s:=fun hpk =>
    nj hu ho hd T he his hx hyes nf hnf hfr hbf hno fuel (n'+1) (some (ps t.mask (aU knd k) (n'+1))) rfl (by lia) (by lia) fun q hqq p' hp'=>by
     by_cases z:q<n
     ·exact hq q z p' hp'
     ·by_cases z2:q=n'
      ·subst z2
       rw [hi,hp] at hp'
       cases hp'
       exact hpk
      ·intro e'
       have:=(a3 q (by exact xbc ‹_›) (by lia)).2
       refine this ?_
       rw [oW,hel,hp']
       show aU knd p'.1=_
       rw [e']
   have hin:p.1=k->k∈ks.map (·.1):=fun e=>e ▸ xaj.mpr ⟨p,hpm,rfl⟩
   have seen:∀ y∈List.map (fun x=>x.snd) (Array.filter (fun x=>x.fst == aU knd k) es).toList,∃ k' b,y=.ref b/\IsTupleKey knd s.heap k' b:=fun y hy=>by
    obtain ⟨e',he',rfl⟩:=xaj.mp hy
    rw [Array.toList_filter] at he'
    have:=(xbV.mp he').1
    rw [he] at this
    obtain ⟨p',hp',rfl⟩:=xaj.mp this
    exact ⟨p'.1,p'.2,rfl,his p' hp'⟩
   refine Ei ?pk (K:=?K) fun key=>?main
   case main =>
    split
    ·refine xaa (tL hx seen ?_)
     rw [if_neg xap]
     exact key
    ·exact key
   rw [ei]
   dsimp only
   refine xaa (wpAny_holding (wpAny_eqBool_tuple hu (his p hpm) hx ?_))
   refine xaa (wpAny_setState_of ho hd T.fits ?_)
   dsimp only
   by_cases e:p.1=k
   ·rw [if_pos (by simp [e])]
    exact xac (hyes (hin e))
   ·rw [if_neg (by simp [e])]
    have hsm:t.sameMemory t.moves t.mask=some true:=by unfold sameMemory; rw [if_pos (by simp)]
    rw [hsm]
    dsimp only
    rw [if_pos rfl,hsl]
    dsimp only
    rw [ei]
    dsimp only
    refine xaa (m:=isSame (.ref p.2) (.ref p.2)) ?_
    unfold isSame
    dsimp only
    rw [if_pos (by simp)]
    refine xac (xaa (xac ?_))
    rw [if_pos rfl]
    dsimp only
    rw [if_neg (by simp [e])]
    exact again e
end
theorem ik:∀ {l l2:List β},l.Perm l2->∀ {m:List α},l2=m.map f->∃ m':List α,l=m'.map f/\m'.Perm m:=by
 intro l l2 p
 induction p with
 | nil=>intro m e; exact ⟨m,by rw [<- e],.refl _⟩
 | cons x _ ih =>
  intro m e
  cases m with
  | nil=>cases e
  | cons y m =>
   simp only [xat,List.cons.injEq] at e
   obtain ⟨m',e1,p1⟩:=ih e.2
   exact ⟨y :: m',by rw [xat,<- e1,e.1],p1.cons _⟩
 | swap x y l =>
  intro m e
  match m,e with
  | a :: b :: m,e =>
   simp only [xat,List.cons.injEq] at e
   exact ⟨b :: a :: m,by simp [e.1,e.2.1,e.2.2],.swap ..⟩
 | trans _ _ ih1 ih2 =>
  intro m e
  obtain ⟨m',e1,p1⟩:=ih2 e
  obtain ⟨m2,e2,p2⟩:=ih1 e1
  exact ⟨m2,e2,p2.trans p1⟩
theorem sO (xs:Array α) (p:Nat) (x:α):(insertAt xs p x).toList=xs.toList.take p++x :: xs.toList.drop p:=by
 unfold insertAt
 simp
 rw [xbp (by simp)]
theorem oR (hz:(order.filterMap fun i=>es[i]?).size=es.size)
  (h:Q (order.filterMap fun i=>es[i]?,t) s):wpAny (model prog w) A (Az es (some (t,order))) Q E s:=by
 show wpAny _ _ (if ((order.filterMap fun i=>es[i]?).size != es.size)=true then (do unsupported "internal:set-table-lost-an-element"; pure (order.filterMap fun i=>es[i]?,t)) else pure (order.filterMap fun i=>es[i]?,t)) _ _ _
 rw [if_neg (by simp [hz])]
 exact xac h
section
variable {prog:Program} {w:World} {K:Type} [DecidableEq K] {knd:KeyKind prog w K} {A:Around} {E:Value->Shared->Prop} {s:Shared}
theorem IsTupleKey.stay (hk:IsTupleKey knd h k a) (e:∀ o,h.get? a=some o->h'.get? a=some o):IsTupleKey knd h' k a:=by
 obtain ⟨o,items,n,ho,r⟩:=hk
 exact ⟨o,items,n,e o ho,r⟩
theorem SetT.ne (S:SetT knd h a ks) (hx:IsTupleKey knd h k x):x≠a:=by
 obtain ⟨⟨o,es,ep,t,ho,hex,_⟩,_,_⟩:=S
 obtain ⟨o',items,n,ho',hc,_⟩:=hx
 intro z
 subst z
 rw [ho] at ho'
 cases ho'
 rw [hex.1] at hc
 exact absurd hc (by decide)
theorem DN (S:SetT knd s.heap a ks) (hx:IsTupleKey knd s.heap k x) (hz:ks.length<1000) (hu:A.units<cLine) (hsc:∀ k v,knd.is k v=true->v.scannable=true)
  (h:∀ (b:Bool) (h':Heap) (ks':List (List K × Addr)),Heap.SameBut a s.heap h'->SetT knd h' a ks'->(k∈ks.map (·.1)/\ks'=ks\/k∉ks.map (·.1)/\ks'.Perm ((k,x) :: ks))->Q b { s with heap:=h' }) :
  wpAny (model prog w) A (setAddHashed a (.ref x) (aU knd k)) Q E s:=by
 obtain ⟨⟨o,es,ep,t,ho,hex,hd,T,hM,hL,he⟩,nd,is⟩:=id S
 have hlen:es.size=ks.length:=by
  have:=congrArg List.length he
  simpa using this
 obtain ⟨m,hm,_⟩:=T.pw
 obtain ⟨e0,he0,hf0⟩:=T.free
 obtain ⟨nf,n1,n2,n3⟩:=sJ hm (aU knd k) (taken t.place) he0 hf0
 unfold setAddHashed setAddHashedIn
 refine wpAny_holding (xaa (wpAny_setState_of ho hd T.fits ?_))
 dsimp only
 have hbs:byScan (.ref x) es=false:=by simp [byScan,Value.scannable]
 rw [hbs]
 simp only [xao,if_false]
 refine xaa ?_
 unfold setSearch
 refine nj hu ho hd T he is hx (fun hin=>?_) nf n1 n2 n3 (fun hout=>?_) 100000 0 none rfl (xas _) (by lia) fun q hq=>absurd hq (xbv q)
 ·dsimp only
  refine xac ?_
  have e:s={ s with heap:=s.heap }:=by cases s; rfl
  rw [e]
  exact h _ _ ks (Heap.SameBut.refl a s.heap) S (.inl ⟨hin,rfl⟩)
 ·dsimp only
  generalize hj:J t.mask (aU knd k) nf=j at n2 ⊢
  have hjm:j<=t.mask:=by rw [<- hj]; exact J_le ..
  have hre:Reach t.mask t.place (aU knd k) j:=⟨nf,n1,hj,n3⟩
  refine xaa (wpAny_setState_of ho hd T.fits ?_)
  dsimp only
  have hput:t.put j=({ t with place:=insertAt t.place (below t.place j) j,dummies:=#[] },below t.place j):=by
   unfold SetTable.put
   have:has t.dummies j=false:=by rw [T.dm]; rfl
   simp only [this,xao,if_false]
   rw [T.dm]
  rw [hput]
  dsimp only
  have hin:(insertAt es (below t.place j) (aU knd k,.ref x)).toList=(ks.take (below t.place j)++(k,x) :: ks.drop (below t.place j)).map (wG knd):=by
   rw [sO,he,xbL,xat,List.map_take,List.map_drop]; rfl
  have hperm:(ks.take (below t.place j)++(k,x) :: ks.drop (below t.place j)).Perm ((k,x) :: ks):=by
   refine List.perm_middle.trans ?_
   rw [xbO]
  have hbl:below t.place j<=es.size:=by rw [<- T.sz]; exact (bj T.up j).1
  have hsz':(insertAt es (below t.place j) (aU knd k,Value.ref x)).size=es.size+1:=cH _ _ hbl
  have hxa:=S.ne hx
  have isK:∀ h',Heap.SameBut a s.heap h'->∀ ks':List (List K × Addr),ks'.Perm ((k,x) :: ks)->∀ p∈ks',IsTupleKey knd h' p.1 p.2:=fun h' sb ks' pm p hp=>by
   have:IsTupleKey knd s.heap p.1 p.2:=by
    rcases xak.mp (pm.mem_iff.mp hp) with rfl | hp
    ·exact hx
    ·exact is p hp
   exact IsTupleKey.stay this fun o' ho'=>sb.extBut _ _ (S.ne this) ho'
  have ndK:∀ ks':List (List K × Addr),ks'.Perm ((k,x) :: ks)->(ks'.map (·.1)).Nodup:=fun ks' pm=>by
   rw [(pm.map _).nodup_iff,xat,xaH]
   exact ⟨hout,nd⟩
  -- behind the flag
  have main:∀ pl:Bool,wpAny (model prog w) A (do
    storeSet a (insertAt es (below t.place j) (aU knd k,.ref x)) { t with place:=insertAt t.place (below t.place j) j,dummies:=#[],plain:=pl }
    if (!false && ({ t with place:=insertAt t.place (below t.place j) j,dummies:=#[],plain:=pl }:SetTable).tooFull)=true then do
      setRelay a (grown (es.size+1))
      pure true
     else pure true) Q E s:=fun pl=>by
   generalize ht':({ t with place:=insertAt t.place (below t.place j) j,dummies:=#[],plain:=pl }:SetTable)=t'
   have tm:t'.mask=t.mask:=by rw [<- ht']
   have tp:t'.place=insertAt t.place (below t.place j) j:=by rw [<- ht']
   have td:t'.dummies = #[]:=by rw [<- ht']
   have hfill:t'.fill=es.size+1:=by
    unfold SetTable.fill
    rw [tp,td,cH _ _ (bj T.up j).1,T.sz]; simp
   refine xaa (wpAny_storeSet_of ho hd ?_ (by rw [hsz',sizeLine_eq]; lia))
   have ho1:(s.heap.update a (Obj.putSet (insertAt es (below t.place j) (aU knd k,.ref x)) t')).get? a=some { o with data:=.set (insertAt es (below t.place j) (aU knd k,.ref x)) (ep+1) t' }:=by
    have:=xbs (Obj.putSet (insertAt es (below t.place j) (aU knd k,.ref x)) t') ho (by rw [putSet_of _ _ hd]; rfl)
    rw [putSet_of _ _ hd] at this; exact this
   have sb1:=Heap.SameBut.update s.heap a (Obj.putSet (insertAt es (below t.place j) (aU knd k,.ref x)) t')
   by_cases c:t'.tooFull=true
   ·rw [if_pos (by rw [c]; rfl)]
    have hfit:t'.fits (insertAt es (below t.place j) (aU knd k,Value.ref x)).size=true:=by
     have:=T.few
     simp only [SetTable.fits,hfill,xaB,beq_iff_eq,decide_eq_true_eq]
     rw [tp,cH _ _ (bj T.up j).1,hsz',T.sz,tm]
     exact ⟨rfl,by lia⟩
    obtain ⟨t2,order,r1,r2,r3,r4,r5,r6,r7,r8,_⟩:=uL (t:=t') (es:=insertAt es (below t.place j) (aU knd k,Value.ref x)) (by lia)
    rw [hsz'] at r1 r4
    unfold setRelay
    refine xaa (xaa (wpAny_setState_of ho1 rfl hfit ?_))
    dsimp only
    rw [if_neg (by rw [sizeLine_eq]; lia)]
    refine xaa ?_
    rw [r1]
    obtain ⟨ks',ek,pk⟩:=ik r8 hin
    refine oR r7 ?_
    dsimp only
    refine wpAny_storeSet_of ho1 rfl ?_ (by rw [r7,hsz',sizeLine_eq]; lia)
    refine xac ?_
    have sb2:=sb1.trans (Heap.SameBut.update _ a (Obj.putSet (order.filterMap fun i=>(insertAt es (below t.place j) (aU knd k,Value.ref x))[i]?) t2))
    have ho2:=xbs (Obj.putSet (order.filterMap fun i=>(insertAt es (below t.place j) (aU knd k,Value.ref x))[i]?) t2) ho1 (by rw [putSet_of _ _ rfl]; rfl)
    rw [putSet_of _ _ rfl] at ho2
    exact h true _ ks' sb2 ⟨⟨_,_,_,_,ho2,hex,rfl,r6,r5 (by lia),by rw [r3,<- ht']; exact hL,ek⟩,ndK ks' (pk.trans hperm),isK _ sb2 ks' (pk.trans hperm)⟩ (.inr ⟨hout,pk.trans hperm⟩)
   ·rw [if_neg (by simpa using c)]
    refine xac ?_
    have hfew:(es.size+1) * 5<t.mask * 3:=by
     unfold SetTable.tooFull at c
     rw [hfill,tm] at c
     simpa using c
    exact h true _ _ sb1 ⟨⟨_,_,_,_,ho1,hex,rfl,T.put hjm n2 hre tm tp td hfew,by rw [tm]; exact hM,by rw [<- ht']; exact hL,hin⟩,ndK _ hperm,isK _ sb1 _ hperm⟩ (.inr ⟨hout,hperm⟩)
  split
  ·refine xaa (gY hx hsc fun b=>?_)
   cases b with
   | true=>exact main t.plain
   | false=>exact main false
  ·exact xaa (xac (main t.plain))
end
end TS
namespace TS
open PySem PySem.SetTable PyProof.Rows
section
variable {prog:Program} {w:World} {A:Around} {R:Result->Shared->Prop} {I:Addr} {fp wr:List Addr} {n:Nat} {P:Nat->Value->Prop} {St:Nat->Heap->Prop}
theorem ye (W:Walks prog w A.in1 I fp wr n P St) (S:Addr) (hSf:S∉fp) (SI:Nat->Heap->Prop) (keep:∀ i h h',SI i h->(∀ b o,b∉wr->h.get? b=some o->h'.get? b=some o)->SI i h')
  (step:∀ (i:Nat) (v:Value) (s':Shared) (E':Value->Shared->Prop) (Q:Bool->Shared->Prop),P i v->SI i s'.heap->(∀ b h' tk,Heap.SameBut S s'.heap h'->SI (i+1) h'->Q b { s' with heap:=h',toks:=tk })->wpAny (model prog w) A.in1 (setAdd S v) Q E' s') :
  ∀ (k i:Nat) (s:Shared),n - i=k->i<=n->St i s.heap->SI i s.heap ->
   (∀ h' tk,SI n h'->(∀ b o,b∉wr->b≠S->s.heap.get? b=some o->h'.get? b=some o)->R (.ok (.ret .none)) { s with heap:=h',toks:=tk }) ->
   codeAny (model prog w) A (.builtin "set.update.loop" ⟨[.ref S,.ref I],[]⟩) R s:=by
 have hSw:S∉wr:=fun h=>hSf (W.sub _ h)
 intro k
 induction k with
 | zero =>
  intro i s hk hi hst hS hR
  have hin:i=n:=by lia
  subst hin
  refine codeAny_builtin F.entry_set_update_loop ?_
  rw [Around.under_plainId F.plain_set_update_loop _]
  show wpAny _ A.in1 (pyNext (.ref I) >>= _) _ _ s
  refine xaa (W.done s _ _ hst fun h' tk hk'=>?_)
  show wpAny _ A.in1 (ret Value.none) _ _ _
  exact xac (hR h' tk (keep _ _ _ hS hk') fun b o hb _ e=>hk' b o hb e)
 | succ k ih =>
  intro i s hk hi hst hS hR
  have hlt:i<n:=by lia
  refine codeAny_builtin F.entry_set_update_loop ?_
  rw [Around.under_plainId F.plain_set_update_loop _]
  show wpAny _ A.in1 (pyNext (.ref I) >>= _) _ _ s
  refine xaa (W.item i s _ _ hlt hst fun v h' tk hP hst' hk'=>?_)
  show wpAny _ A.in1 (holding [v] (setAdd S v) >>= _) _ _ _
  refine xaa (wpAny_holding (step i v _ _ _ hP (keep _ _ _ hS hk') fun b h2 tk2 sb hS2=>?_))
  refine xac ⟨plainId_quiet F.plain_set_update_loop _,ih (i+1) _ (by lia) hlt (W.frame _ _ _ hst' fun b hb o e=>?_) hS2 fun h3 tk3 hS3 hk3=>?_⟩
  ·exact sb.extBut b o (fun z=>hSf (by rw [<- z]; exact hb)) e
  ·exact hR h3 tk3 hS3 fun b o hb hbS e=>hk3 b o hb hbS (sb.extBut b o hbS (hk' b o hb e))
end
section
variable {prog:Program} {w:World} {A:Around} {E:Value->Shared->Prop} {s:Shared}
theorem vG (a:Value)
  (h:Q₁ (.ref s.heap.objs.size) { s with heap:=s.heap.push { cls:=.type "set",dict:=none,data:=.set #[] 0 (.fresh 0 0 (!w.params.followText "set-order")) } }) :
  codeAny (model prog w) A (.call (.builtin "set.__new__") ⟨[.type "set",a],[]⟩) (wants Q₁ E) s:=by
 refine codeAny_of_tree ?_
 show wpAny _ A.in1 (do checkBuiltinCall "set.__new__" ⟨[.type "set",a],[]⟩; again (.builtin "set.__new__" ⟨[.type "set",a],[]⟩)) _ _ s
 refine xaa (wpAny_of_eq (F.newCall_set_1 a) (xac ⟨plainId_quiet F.plain_set_new _,codeAny_builtin F.entry_set_new ?_⟩))
 rw [Around.under_plainId F.plain_set_new _]
 unfold Builtin.«set.__new__» Builtin.Frozenset.newClass
 have hsub:=sub_set_self
 obtain ⟨hp,g,d,tk,os⟩:=s
 dsimp only
 wp_walk
 refine wpAny_askSetting (xac ?_)
 dsimp only
 simp only [newObj]
 refine xaa (wpAny_alloc (xac ?_))
 exact xac h
theorem n_ (hh:A.handled=none) (hl:s.heap.IsList l items) (SI:Nat->Heap->Prop)
  (h0:∀ h,h.get? s.heap.objs.size=some { cls:=.type "set",dict:=none,data:=.set #[] 0 (.fresh 0 0 (!w.params.followText "set-order")) }->(∀ b o,s.heap.get? b=some o->h.get? b=some o)->SI 0 h)
  (keep:∀ i h h',SI i h->(∀ b o,b<=s.heap.objs.size->h.get? b=some o->h'.get? b=some o)->SI i h')
  (step:∀ (i:Nat) (v:Value) (s':Shared) (E':Value->Shared->Prop) (Q:Bool->Shared->Prop),items[i]? = some v->SI i s'.heap->(∀ b h' tk,Heap.SameBut s.heap.objs.size s'.heap h'->SI (i+1) h'->Q b { s' with heap:=h',toks:=tk }) ->
   wpAny (model prog w) A.in1.in1.in1 (setAdd s.heap.objs.size v) Q E' s')
  (h:∀ (h':Heap) (tk:Nat),SI items.size h'->(∀ b o,b<s.heap.objs.size->s.heap.get? b=some o->h'.get? b=some o)->Q (.ref s.heap.objs.size) { s with heap:=h',toks:=tk }) :
  wpAny (model prog w) A (call (.type "set") [.ref l]) Q E s:=by
 obtain ⟨c,tl,hmro⟩:=F.called_set.mro
 have hmade:=F.called_set.made
 have hsub:=F.called_set.sub
 refine wpAny_call (codeAny_of_tree ?_)
 show wpAny _ _ (callAny (.type "set") _) _ _ _
 refine xac ⟨Code.quiet_builtin _ (by decide +kernel),codeAny_builtin F.entry_type_call ?_⟩
 rw [Around.under_plain (weight_type_call_type "set" [.ref l] []) rfl]
 have h1:=F.called_set.notType
 have h2:=F.called_set.canCreate
 have hct:=F.typeCall_set_1 (.ref l)
 repeat (any_goals (first | assumption | wp_step))
 refine codeAny_mono (vG (.ref l) (E:=E) (Q₁:=fun obj s₁=>obj=.ref s.heap.objs.size/\s₁={ s with heap:=s.heap.push { cls:=.type "set",dict:=none,data:=.set #[] 0 (.fresh 0 0 (!w.params.followText "set-order")) } }) ⟨rfl,rfl⟩) fun r s₁ hr=>?_
 cases r with
 | error e=>exact hr
 | ok fl =>
  cases fl with
  | ret obj =>
   obtain ⟨rfl,rfl⟩:=hr
   generalize hled:(!w.params.followText "set-order")=led at h0 ⊢
   have hS:(s.heap.push { cls:=.type "set",dict:=none,data:=.set #[] 0 (.fresh 0 0 led) }).get? s.heap.objs.size=some { cls:=.type "set",dict:=none,data:=.set #[] 0 (.fresh 0 0 led) }:=xaq _ rfl
   have hT:Shared.TypeIs { s with heap:=s.heap.push { cls:=.type "set",dict:=none,data:=.set #[] 0 (.fresh 0 0 led) } } (.ref s.heap.objs.size) "set" := ⟨_,hS,rfl⟩
   have hli:=F.called_set.init.lookup
   have hbi:=F.called_set.init.bind (.ref s.heap.objs.size)
   repeat (any_goals (first | assumption | wp_step))
   refine codeAny_mono (codeAny_call_builtin (R:=wants (fun r s₂=>r=.none/\∃ h' tk,s₂={ s with heap:=h',toks:=tk }/\SI items.size h' /\
     (∀ b o,b<s.heap.objs.size->s.heap.get? b=some o->h'.get? b=some o)) E) F.called_set.init.plain F.entry_set_init (check_set_init_1 hT ?_)) fun r₂ s₂ hr₂=>?_
   ·obtain ⟨ol,hol,hcl,nl,hdl⟩:=hl
    obtain ⟨ocls,odict,odata,oslots⟩:=ol
    simp only at hcl hdl
    subst hcl; subst hdl
    have hol':(s.heap.push { cls:=.type "set",dict:=none,data:=.set #[] 0 (.fresh 0 0 led) }).get? l=some { cls:=.type "list",dict:=odict,data:=.seq items nl,slots:=oslots }:=xae _ hol
    have hsls:=F.sub_list_set
    have hslf:=F.sub_list_frozenset
    have hne:(Value.type "list" == Value.type "dict")=false:=by decide
    have hl1:(s.heap.push { cls:=.type "set",dict:=none,data:=.set #[] 0 (.fresh 0 0 led) }).IsList l items:=⟨_,hol',rfl,nl,rfl⟩
    unfold Builtin.«set.__init__» noKeywords Builtin.Frozenset.updateFrom
    generalize hPI:pyIter=PI
    wp_walk
    subst hPI
    refine wpAny_pyIter_list hl1 ?_
    refine xaa (wpAny_runValue ?_)
    have hlS:l<s.heap.objs.size:=xan hol
    have hh3:A.in1.in1.in1.handled=none:=by simp [hh]
    have hsz:(s.heap.push { cls:=.type "set",dict:=none,data:=.set #[] 0 (.fresh 0 0 led) }).objs.size=s.heap.objs.size+1:=xbP ..
    have hneI:l≠(s.heap.push { cls:=.type "set",dict:=none,data:=.set #[] 0 (.fresh 0 0 led) }).objs.size:=by
     rw [hsz]; exact xaw (xaO hlS)
    have hSf:s.heap.objs.size∉[(s.heap.push { cls:=.type "set",dict:=none,data:=.set #[] 0 (.fresh 0 0 led) }).objs.size,l]:=by
     rw [hsz]; simp only [xak,xaS,xcb,or_false,not_or]
     exact ⟨xaw (Nat.lt_succ_self _),xbX hlS⟩
    refine ye (Walks.list hh3 _ l hneI items) s.heap.objs.size hSf SI (fun i h h' hi hk=>keep i h h' hi fun b o hb e=>hk b o ?_ e) (fun i v s' E' Q' hP hi hq=>step i v s' E' Q' hP hi hq) (items.size - 0) 0 _ (by lia) (xas _)
     ⟨⟨_,xaq _ rfl,rfl,rfl⟩,(hl1.push _)⟩ ?hS0 ?hR
    ·rw [hsz]
     simp only [xak,xcb,or_false]
     exact xaw (xbz hb)
    case hS0 =>
     exact h0 _ (xae _ hS) fun b o e=>xae _ (xae _ e)
    case hR =>
     intro h' tk' hS' hk'
     show wpAny _ _ _ _ _ _
     refine xac ?_
     show wpAny _ _ (ret Value.none) _ _ _
     refine xac ⟨rfl,h',tk',rfl,hS',fun b o hb e=>?_⟩
     refine hk' b o ?_ (xaw hb) (xae _ (xae _ e))
     rw [hsz]
     simp only [xak,xcb,or_false]
     exact xaw (xaO hb)
   ·cases r₂ with
    | error e=>exact hr₂
    | ok fl₂ =>
     cases fl₂ with
     | ret r =>
      obtain ⟨rfl,h',tk,rfl,hS',hk'⟩:=hr₂
      repeat (any_goals (first | assumption | wp_step))
      exact h _ _ hS' hk'
     | _=>exact hr₂.elim
  | _=>exact hr.elim
end
theorem nH:Manifest.owners.lookup (String.ofList ['r','o','t','a','r','e','t','i','_','t','e','s'].reverse)=some Manifest.sig_set_iterator:=by kernel_rfl
theorem bB:Slot "set_iterator" "__next__" "set_iterator.__next__" :=
 .of (owner := "set_iterator") (n := "__next__") (by rw [typeLookup_type,builtinLookup_eq_fast]; kernel_rfl) (by decide +kernel) (by decide +kernel) (by decide +kernel)
  (by first | exact .inl (by decide +kernel) | exact .inr (by decide +kernel)) (by rw [isSubtype_type]; kernel_rfl)
theorem jH:entryFor table "set_iterator.__next__" = some Builtin.«set_iterator.__next__» := entryFor_of_tree (by kernel_rfl)
theorem lN (a:Value):argsOk "set_iterator.__next__" ⟨[a],[]⟩:=by
 unfold argsOk; rw [signature?_of (id := "set_iterator.__next__") (n:=['_','_','t','x','e','n','_','_']) (o:=['r','o','t','a','r','e','t','i','_','t','e','s']) (by kernel_rfl) nH]; kernel_rfl
theorem fZ:Slot "set_iterator" "__iter__" "set_iterator.__iter__" :=
 .of (owner := "set_iterator") (n := "__iter__") (by rw [typeLookup_type,builtinLookup_eq_fast]; kernel_rfl) (by decide +kernel) (by decide +kernel) (by decide +kernel)
  (by first | exact .inl (by decide +kernel) | exact .inr (by decide +kernel)) (by rw [isSubtype_type]; kernel_rfl)
theorem jJ:entryFor table "set.__iter__" = some Builtin.«frozenset.__iter__» :=
 entryFor_alias (id' := "frozenset.__iter__") (by kernel_rfl) rfl (by decide +kernel) (by kernel_rfl)
theorem gM:∀ (l:List α) (i:Nat) (h:i<l.length),(l[i] :: l.eraseIdx i).Perm l
 | x :: l,0,_=>.refl _
 | x :: l,i+1,h=>by
  have ih:=gM l i (by simpa using h)
  exact (List.Perm.swap _ _ _).trans (ih.cons x)
theorem wA (next:Nat->Nat):∀ (fuel k:Nat) (left:List α) (out:Array α),left.length=fuel->(pickOrder.go next fuel k left out).toList.Perm (out.toList++left)
 | 0,k,left,out,h=>by
  have:left=[]:=xbF.mp h
  subst this
  unfold pickOrder.go
  rw [xaX]
 | fuel+1,k,left,out,h=>by
  unfold pickOrder.go
  have hlt:next k % left.length<left.length:=xci _ (by lia)
  rw [xam hlt]
  dsimp only
  refine (wA next fuel (k+1) _ _ (by rw [List.length_eraseIdx]; split <;> lia)).trans ?_
  rw [xaD,xaZ]
  refine List.Perm.append_left _ ?_
  exact gM _ _ hlt
theorem jE (next:Nat->Nat) (xs:Array α):(pickOrder next xs).toList.Perm xs.toList:=by
 unfold pickOrder
 have:=wA next xs.size 0 xs.toList #[] (by simp)
 simpa using this
section
variable {prog:Program} {w:World} {A:Around} {E:Value->Shared->Prop} {s:Shared}
theorem nQ (hn:n≠0) (h:∀ i d,i<n->Q i { s with drawn:=d }):wpAny M A (choose src n) Q E s:=fun Γ p _=>⟨hn,h _ _ (xci _ (Nat.pos_of_ne_zero hn))⟩
theorem Bh (n:Nat):∀ (xs:List α) (s:Shared) (Q:List α->Shared->Prop),xs.length=n->(∀ ys d,ys.Perm xs->Q ys { s with drawn:=d })->wpAny (model prog w) A (drawOrder n xs) Q E s:=by
 induction n with
 | zero =>
  intro xs s Q h q
  have:xs=[]:=xbF.mp h
  subst this
  unfold drawOrder
  exact xac (q [] s.drawn (.refl _))
 | succ n ih =>
  intro xs s Q h q
  cases xs with
  | nil=>cases h
  | cons x xs =>
   unfold drawOrder
   refine xaa (nQ (by simp) fun i d hi=>?_)
   rw [xam hi]
   dsimp only
   refine xaa (ih _ _ _ (by rw [List.length_eraseIdx,if_pos hi]; simp at h ⊢; lia) fun ys d' py=>?_)
   refine xac ?_
   exact q _ d' ((py.cons _).trans (gM _ _ hi))
def SIt (h:Heap) (I:Addr) (first:Value) (i:Nat) (a:Addr) (n ep:Nat):Prop :=
 h.get? I=some { cls:=.type "set_iterator",dict:=none,data:=.fields #[first,.int i 0,.ref a,.int n 0,.int ep 0],slots:=#[] }
def SOb (h:Heap) (a:Addr) (es:Array (Int × Value)) (ep:Nat) (t:SetTable):Prop:=∃ o,h.get? a=some o/\o.data=.set es ep t
variable {a I:Addr} {es:Array (Int × Value)} {ep:Nat} {t:SetTable} {first:Value} {i n:Nat}
theorem SIt.typeIs (h:SIt s.heap I first i a n ep):s.TypeIs (.ref I) "set_iterator" := ⟨_,h,rfl⟩
theorem tU (hit:SIt s.heap I first i a n ep)
  (h:wpAny (model prog w) A.in1 (Builtin.«set_iterator.__next__» ⟨[.ref I],[]⟩) (fun fin s'=>∃ v,fin=.done (.ret v)/\Q (some v) s') (fun e s'=>wpAny (model prog w) A (isInstance e (.type "StopIteration")) (fun b s''=>b=true/\Q none s'') E s') s) :
  wpAny (model prog w) A (pyNext (.ref I)) Q E s:=by
 unfold pyNext
 refine xaa (wpAny_attempt (wpAny_callSpecial?_slot (name:=Str.ofString "__next__") hit.typeIs bB
  (wpAny_call_entry bB hit.typeIs jH ?_ (lN _))))
 refine xba h (fun fin s' ⟨v,e,q⟩=>⟨v,e,xac q⟩) fun e s' q=>?_
 refine xaa (xba q (fun b s'' hx9=>?_) fun _ _ x=>x)
 obtain ⟨e,q⟩:=hx9
 subst e
 rw [if_pos rfl]
 exact xac q
theorem uF {P:Fin->Shared->Prop} {Q:Option Value->Shared->Prop} (hh:A.handled=none) (hQ:∀ h',(∀ b o,s.heap.get? b=some o->h'.get? b=some o)->Q none { s with heap:=h' }) :
  wpAny (model prog w) A.in1 (newExc (.type "StopIteration") [] >>= fun e=>raiseNew e) P (fun e s'=>wpAny (model prog w) A (isInstance e (.type "StopIteration")) (fun b s''=>b=true/\Q none s'') E s') s:=by
 refine xaa ?_
 simp only [newExc,newTuple]
 refine xaa (wpAny_newObj_type ?_ (by size_fits))
 refine xaa (m:=firstArgMember _ _) (wpAny_of_eq (a:=Value.none) (by first | rfl | (simp only [firstArgMember]; rfl)) ?_)
 refine wpAny_newObj_type ?_ (by size_fits)
 simp only [raiseNew]
 refine xaa (wpAny_handled ?_)
 rw [show A.in1.handled=none from hh]
 refine xaa (xac (wpAny_throw ?_))
 refine wpAny_isInstance (T := "StopIteration") (b:=true) ⟨_,xaq _ rfl,rfl⟩ isSubtype_stop ⟨rfl,?_⟩
 exact hQ _ fun b o e=>xae _ (xae _ e)
theorem fY {Q:Option Value->Shared->Prop} {slot:Nat} {r:Option (Value × Nat)} (hh:A.handled=none) (hne:a≠I) (hit:SIt s.heap I (.int slot 0) i a es.size ep) (hob:SOb s.heap a es ep t) (hf:t.fits es.size=true)
  (hr:∀ (A':Around) (E':Value->Shared->Prop) (Q':Option (Value × Nat)->Shared->Prop),Q' r s->wpAny (model prog w) A' (setNext a slot i ep) Q' E' s)
  (h1:∀ x nx h',r=some (x,nx)->SIt h' I (.int nx 0) (i+1) a es.size ep->Heap.SameBut I s.heap h'->Q (some x) { s with heap:=h' })
  (h2:∀ h',r=none->(∀ b o,b≠I->s.heap.get? b=some o->h'.get? b=some o)->Q none { s with heap:=h' }) :
  wpAny (model prog w) A (pyNext (.ref I)) Q E s:=by
 obtain ⟨o,ho,hd⟩:=hob
 refine tU hit ?_
 unfold Builtin.«set_iterator.__next__»
 refine xaa (m:=slotArgs "__next__" 0 ⟨[.ref I],[]⟩) (wpAny_of_eq (a:=(.ref I,[])) rfl ?_)
 dsimp only
 refine xaa (wpAny_fieldsOf hit rfl ?_)
 dsimp only
 refine xaa (wpAny_setEntries_of ho hd hf ?_)
 rw [if_neg (by simp)]
 simp only [xbx]
 refine xaa (hr _ _ _ ?_)
 cases r with
 | some p =>
  obtain ⟨x,nx⟩:=p
  dsimp only
  refine xaa (wpAny_setField_rec hit (by simp) fun g1 e1 sb1=>?_)
  refine xaa (wpAny_setField_rec (s:={ s with heap:=g1 }) e1 (by simp) fun g2 e2 sb2=>?_)
  exact xac ⟨x,rfl,h1 x nx g2 rfl (by unfold SIt; simpa [rawInt] using e2) (sb1.trans sb2)⟩
 | none =>
  dsimp only
  refine xaa (wpAny_setField_rec hit (by simp) fun g1 e1 sb1=>?_)
  exact uF (s:={ s with heap:=g1 }) hh fun h' k=>h2 h' rfl fun b o hb e=>k b o (sb1.extBut b o hb e)
theorem jX {Q:Option Value->Shared->Prop} {T:Addr} {ix:List Nat} {oT:Obj} {kT:Nat} (hh:A.handled=none) (hit:SIt s.heap I (.ref T) i a es.size ep) (hob:SOb s.heap a es ep t) (hf:t.fits es.size=true)
  (hT:s.heap.get? T=some oT) (hTd:oT.data=.seq (ix.map fun (k:Nat)=>Value.int k 0).toArray kT)
  (h1:∀ k e h',ix[i]? = some k->es[k]? = some e->SIt h' I (.ref T) (i+1) a es.size ep->Heap.SameBut I s.heap h'->Q (some e.2) { s with heap:=h' }) (hix:∀ k∈ix,k<es.size)
  (h2:∀ h',ix[i]? = none->(∀ b o,b≠I->s.heap.get? b=some o->h'.get? b=some o)->Q none { s with heap:=h' }) :
  wpAny (model prog w) A (pyNext (.ref I)) Q E s:=by
 obtain ⟨o,ho,hd⟩:=hob
 refine tU hit ?_
 unfold Builtin.«set_iterator.__next__»
 refine xaa (m:=slotArgs "__next__" 0 ⟨[.ref I],[]⟩) (wpAny_of_eq (a:=(.ref I,[])) rfl ?_)
 dsimp only
 refine xaa (wpAny_fieldsOf hit rfl ?_)
 dsimp only
 refine xaa (wpAny_setEntries_of ho hd hf ?_)
 rw [if_neg (by simp)]
 refine xaa (wpAny_seqItems hT hTd ?_)
 dsimp only
 simp only [xbx,List.getElem?_toArray,xaG]
 cases hk:ix[i]? with
 | some k =>
  dsimp only [Option.map]
  have hkl:=hix k (xaC hk)
  refine xaa ?_
  unfold setNextDrawn
  refine xaa (wpAny_setState_of ho hd hf ?_)
  dsimp only
  simp only [xbx]
  rw [if_neg (by simp),xaP hkl]
  refine xac ?_
  refine xaa (wpAny_setField_rec hit (by simp) fun g1 e1 sb1=>?_)
  exact xac ⟨_,rfl,h1 k es[k] g1 hk (xaP hkl) (by unfold SIt; simpa [rawInt] using e1) sb1⟩
 | none =>
  dsimp only [Option.map]
  refine xaa (wpAny_setField_rec hit (by simp) fun g1 e1 sb1=>?_)
  refine xaa (wpAny_setField_rec (s:={ s with heap:=g1 }) e1 (by simp) fun g2 e2 sb2=>?_)
  exact uF (s:={ s with heap:=g2 }) hh fun h' k=>h2 h' hk fun b o hb e=>k b o ((sb1.trans sb2).extBut b o hb e)
theorem lr (a:Value):argsOk "set_iterator.__iter__" ⟨[a],[]⟩:=by
 unfold argsOk; rw [signature?_of (id := "set_iterator.__iter__") (n:=['_','_','r','e','t','i','_','_']) (o:=['r','o','t','a','r','e','t','i','_','t','e','s']) (by kernel_rfl) nH]; kernel_rfl
theorem jO:entryFor table "set_iterator.__iter__" = some Builtin.«dict_keyiterator.__iter__» :=
 entryFor_alias (id' := "dict_keyiterator.__iter__") (by kernel_rfl) rfl (by decide +kernel) (by kernel_rfl)
theorem jx (hit:SIt s.heap I first i a n ep) (h:Q (.ref I) s):wpAny (model prog w) A (pyIter (.ref I)) Q E s:=by
 refine wpAny_pyIter_slot hit.typeIs fZ (wpAny_call_entry fZ hit.typeIs jO ?_ (lr _))
 show wpAny _ _ (ret (.ref I)) _ _ s
 exact xac ⟨_,rfl, "set_iterator",_,hit.typeIs,bB.lookup,h⟩
theorem nM {slot:Nat} (hb:w.params.followText "set-order" = true) (hob:SOb s.heap a es ep t) (hf:t.fits es.size=true)
  (h:Q (((pickOrder (w.params.setOrder a ep) es)[i]?).map fun e=>(e.2,slot)) s):wpAny (model prog w) A (setNext a slot i ep) Q E s:=by
 obtain ⟨o,ho,hd⟩:=hob
 unfold setNext
 refine xaa (wpAny_setState_of ho hd hf ?_)
 dsimp only
 unfold setsByText
 refine xaa (xaa (wpAny_askSetting (xac ?_)))
 dsimp only
 rw [if_pos (by exact hb),if_neg (by simp)]
 refine xaa ?_
 unfold setWalk
 refine xaa (wpAny_setState_of ho hd hf ?_)
 dsimp only
 unfold setsByText
 refine xaa (xaa (wpAny_askSetting (xac ?_)))
 dsimp only
 rw [if_pos (by exact hb)]
 refine xaa (wpAny_askSetting (xac ?_))
 exact xac h
theorem kj {slot:Nat} (hb:w.params.followText "set-order" = false) (hl:t.led=true) (hdr:(!t.plain && decide (es.size>1))=false) (hob:SOb s.heap a es ep t) (hf:t.fits es.size=true)
  (h:Q (match es[below t.place slot]?,t.place[below t.place slot]? with
  | some (_,x),some j=>some (x,j+1)
  | _,_=>none) s):wpAny (model prog w) A (setNext a slot i ep) Q E s:=by
 obtain ⟨o,ho,hd⟩:=hob
 unfold setNext
 refine xaa (wpAny_setState_of ho hd hf ?_)
 dsimp only
 unfold setsByText
 refine xaa (xaa (wpAny_askSetting (xac ?_)))
 dsimp only
 rw [if_neg (by rw [show (model prog w).w.params.followText "set-order" = false from hb]; exact xap)]
 have e0:lR es t=(!t.plain && decide (es.size>1)):=rfl
 unfold lR at e0
 rw [e0,hdr,if_neg xap]
 refine xaa (m:=Em es t) ?_
 show wpAny _ _ (if (!t.led && !es.isEmpty)=true then unsupported "set:maker-not-led" else pure ()) _ _ s
 rw [if_neg (by rw [hl]; simp)]
 exact xac (xac h)
def PV (ys:List (Int × Value)) (i:Nat) (v:Value):Prop:=∃ e,ys[i]? = some e/\v=e.2
theorem SIt.keep (x:SIt h I first i a n ep) (e:∀ o,h.get? I=some o->h'.get? I=some o):SIt h' I first i a n ep:=e _ x
theorem SOb.keep (x:SOb h a es ep t) (e:∀ o,h.get? a=some o->h'.get? a=some o):SOb h' a es ep t:=let ⟨o,ho,r⟩:=x; ⟨o,e _ ho,r⟩
theorem wu (hh:A.handled=none) (hne:a≠I) (hb:w.params.followText "set-order" = true) (hf:t.fits es.size=true) :
  Walks prog w A I [I,a] [I] es.size (PV (pickOrder (w.params.setOrder a ep) es).toList) (fun i h=>(∃ slot:Nat,SIt h I (.int slot 0) i a es.size ep)/\SOb h a es ep t) where
 sub:=fun b hb=>by simp at hb; simp [hb]
 frame:=fun _ _ _ ⟨⟨sl,x⟩,y⟩ hk=>⟨⟨sl,x.keep fun o e=>hk I (by simp) o e⟩,y.keep fun o e=>hk a (by simp) o e⟩
 item:=fun i s Q E hi ⟨⟨sl,x⟩,y⟩ hQ=>by
  have hlen:(pickOrder (w.params.setOrder a ep) es).size=es.size:=by
   have:=(jE (w.params.setOrder a ep) es).length_eq
   simpa using this
  refine fY hh hne x y hf (r:=((pickOrder (w.params.setOrder a ep) es)[i]?).map fun e=>(e.2,sl)) (fun A' E' Q' q=>nM hb y hf q) (fun v nx h' e x' sb=>?_) fun h' e k=>?_
  ·rw [xaP (by lia)] at e
   cases e
   exact hQ _ h' s.toks ⟨_,by rw [xax]; exact xaP (by lia),rfl⟩ ⟨⟨_,x'⟩,y.keep fun o e=>sb.extBut _ _ hne e⟩ fun b o hb e=>sb.extBut b o (fun h=>hb (by simp [h])) e
  ·rw [xaP (by lia)] at e
   cases e
 done:=fun s Q E ⟨⟨sl,x⟩,y⟩ hQ=>by
  have hlen:(pickOrder (w.params.setOrder a ep) es).size=es.size:=by
   have:=(jE (w.params.setOrder a ep) es).length_eq
   simpa using this
  refine fY hh hne x y hf (r:=((pickOrder (w.params.setOrder a ep) es)[es.size]?).map fun e=>(e.2,sl)) (fun A' E' Q' q=>nM hb y hf q) (fun v nx h' e x' sb=>?_) fun h' e k=>?_
  ·rw [xa1 (by lia)] at e
   cases e
  ·exact hQ h' s.toks fun b o hb e=>k b o (fun h=>hb (by simp [h])) e
 self:=fun _ _ _ _ ⟨⟨sl,x⟩,y⟩ hQ=>jx x hQ
def slotAt (t:SetTable):Nat->Nat
 | 0=>0
 | i+1=>t.place.getD i 0+1
theorem ig (U:Up t.place) (h:i<=t.place.size):below t.place (slotAt t i)=i:=by
 cases i with
 | zero =>
  obtain ⟨_,b,_⟩:=bj U 0
  by_cases z:below t.place 0=0
  ·exact z
  ·exact absurd (b 0 (Nat.pos_of_ne_zero z)) (xbv _)
 | succ i=>exact tD U (by lia)
theorem rJ (hh:A.handled=none) (hne:a≠I) (hb:w.params.followText "set-order" = false) (hl:t.led=true) (hdr:(!t.plain && decide (es.size>1))=false) (U:Up t.place) (hz:t.place.size=es.size) (hf:t.fits es.size=true) :
  Walks prog w A I [I,a] [I] es.size (PV es.toList) (fun i h=>SIt h I (.int (slotAt t i:Nat) 0) i a es.size ep/\SOb h a es ep t) where
 sub:=fun b hb=>by simp at hb; simp [hb]
 frame:=fun _ _ _ ⟨x,y⟩ hk=>⟨x.keep fun o e=>hk I (by simp) o e,y.keep fun o e=>hk a (by simp) o e⟩
 item:=fun i s Q E hi ⟨x,y⟩ hQ=>by
  have hbl:=ig (t:=t) U (i:=i) (by lia)
  have e1:es[below t.place (slotAt t i)]? = some es[i]:=by rw [hbl]; exact xaP hi
  have e2:t.place[below t.place (slotAt t i)]? = some (t.place.getD i 0):=by rw [hbl]; exact uf (by lia)
  refine fY hh hne x y hf (r:=some (es[i].2,t.place.getD i 0+1)) (fun A' E' Q' q=>kj hb hl hdr y hf (by rw [e1,e2]; exact q)) (fun v nx h' e x' sb=>?_) fun h' e k=>nomatch e
  cases e
  exact hQ _ h' s.toks ⟨_,by rw [xax]; exact xaP hi,rfl⟩ ⟨x',y.keep fun o e=>sb.extBut _ _ hne e⟩ fun b o hb e=>sb.extBut b o (fun h=>hb (by simp [h])) e
 done:=fun s Q E ⟨x,y⟩ hQ=>by
  have hbl:=ig (t:=t) U (i:=es.size) (by lia)
  have e1:es[below t.place (slotAt t es.size)]? = none:=by rw [hbl]; exact xa1 (xaf _)
  refine fY hh hne x y hf (r:=none) (fun A' E' Q' q=>kj hb hl hdr y hf (by rw [e1]; exact q)) (fun v nx h' e x' sb=>nomatch e) fun h' e k=>?_
  exact hQ h' s.toks fun b o hb e=>k b o (fun h=>hb (by simp [h])) e
 self:=fun _ _ _ _ ⟨x,y⟩ hQ=>jx x hQ
theorem su {T:Addr} {ix:List Nat} {kT:Nat} (hh:A.handled=none) (hne:a≠I) (hTI:T≠I) (hf:t.fits es.size=true) (hp:ix.Perm (List.range es.size)) :
  Walks prog w A I [I,a,T] [I] es.size (PV (ix.filterMap fun k=>es[k]?)) (fun i h=>SIt h I (.ref T) i a es.size ep/\SOb h a es ep t/\∃ o,h.get? T=some o/\o.data=.seq (ix.map fun (k:Nat)=>Value.int k 0).toArray kT):=by
 have hlen:ix.length=es.size:=by simpa using hp.length_eq
 have hix:∀ k∈ix,k<es.size:=fun k hk=>xaV.mp (hp.mem_iff.mp hk)
 obtain ⟨f1,f2⟩:=rA (l:=ix) (f:=fun k=>es[k]?) fun k hk=>by simp [hix k hk]
 exact {
  sub:=fun b hb=>by simp at hb; simp [hb]
  frame:=fun _ _ _ ⟨x,y,o,z,zd⟩ hk=>⟨x.keep fun o e=>hk I (by simp) o e,y.keep fun o e=>hk a (by simp) o e,o,hk T (by simp) o z,zd⟩
  item:=fun i s Q E hi ⟨x,y,o,z,zd⟩ hQ=>by
   refine jX hh x y hf z zd (fun k e h' e1 e2 x' sb=>?_) hix fun h' e k=>?_
   ·refine hQ _ h' s.toks ⟨e,by rw [f2,e1]; exact e2,rfl⟩ ⟨x',y.keep fun o e=>sb.extBut _ _ hne e,o,sb.extBut _ _ hTI z,zd⟩ fun b o hb e=>sb.extBut b o (fun h=>hb (by simp [h])) e
   ·rw [xam (by lia)] at e; cases e
  done:=fun s Q E ⟨x,y,o,z,zd⟩ hQ=>by
   refine jX hh x y hf z zd (fun k e h' e1 e2 x' sb=>?_) hix fun h' e k=>?_
   ·rw [xaK (by lia)] at e1; cases e1
   ·exact hQ h' s.toks fun b o hb e=>k b o (fun h=>hb (by simp [h])) e
  self:=fun _ _ _ _ ⟨x,_⟩ hQ=>jx x hQ }
end
section
variable {prog:Program} {w:World} {A:Around} {E:Value->Shared->Prop} {s:Shared} {a:Addr} {o:Obj} {es:Array (Int × Value)} {ep:Nat} {t:SetTable}
theorem yc (hh:A.handled=none) (ho:s.heap.get? a=some o) (hex:o.ExactSet) (hd:o.data=.set es ep t) (hf:t.fits es.size=true) (U:Up t.place) (hz:t.place.size=es.size) (hl:t.led=(!w.params.followText "set-order")) (hn:es.size<=sizeLine)
  (h:∀ (I:Addr) (h2:Heap) d (fp:List Addr) (St:Nat->Heap->Prop) (ys:List (Int × Value)),(∀ b o,s.heap.get? b=some o->h2.get? b=some o)->s.heap.objs.size<=I->(∀ b∈fp,b=a\/s.heap.objs.size<=b)->ys.Perm es.toList ->
   Walks prog w A I fp [I] es.size (PV ys) St->St 0 h2->Q (.ref I) { s with heap:=h2,drawn:=d }):wpAny (model prog w) A (pyIter (.ref a)) Q E s:=by
 have hT:s.TypeIs (.ref a) "set" := ⟨o,ho,hex.1⟩
 have hlt:a<s.heap.objs.size:=xan ho
 refine wpAny_pyIter_slot hT F.slot_set_iter (wpAny_call_entry F.slot_set_iter hT jJ ?_ (F.args_set_iter_1 _))
 unfold Builtin.«frozenset.__iter__»
 refine xaa (m:=Builtin.Frozenset.slot0 "__iter__" ⟨[.ref a],[]⟩) (wpAny_of_eq (a:=a) rfl ?_)
 refine xaa ?_
 unfold Builtin.Frozenset.sizeOf
 refine xaa (wpAny_setEntries_of ho hd hf (xac ?_))
 refine xaa ?_
 unfold setDrawn
 refine xaa (wpAny_setState_of ho hd hf ?_)
 dsimp only
 unfold setsByText
 refine xaa (xaa (wpAny_askSetting (xac ?_)))
 refine xac ?_
 have e0:lR es t=(!t.plain && decide (es.size>1)):=rfl
 unfold lR at e0
 rw [e0]
 show wpAny _ _ (if (!w.params.followText "set-order" && (!t.plain && decide (es.size>1)))=true then _ else _) _ _ s
 cases hb:w.params.followText "set-order" with
 | true =>
  rw [if_neg (by simp)]
  refine xaa (xac ?_)
  refine xaa (wpAny_setEpoch_of ho hd hf ?_)
  refine xaa (wpAny_newObj_type ?_)
  refine xac ⟨_,rfl, "set_iterator",_,⟨_,xaq _ rfl,rfl⟩,bB.lookup,?_⟩
  have ho':(s.heap.push { cls:=.type "set_iterator",data:=.fields #[rawInt 0,rawInt 0,.ref a,rawInt es.size,rawInt ep] }).get? a=some o:=xae _ ho
  exact h s.heap.objs.size _ s.drawn _ _ _ (fun b o e=>xae _ e) (xaf _) (fun b hb=>by
   rcases xak.mp hb with rfl | hb
   ·exact .inr (xaf _)
   ·exact .inl (xaS.mp hb)) (jE _ _) (wu (ep:=ep) hh (xaw hlt) hb hf) ⟨⟨0,xaq _ rfl⟩,o,ho',hd⟩
 | false =>
  cases hdr:(!t.plain && decide (es.size>1)) with
  | false =>
   rw [if_neg (by simp)]
   refine xaa (xac ?_)
   refine xaa (wpAny_setEpoch_of ho hd hf ?_)
   refine xaa (wpAny_newObj_type ?_)
   refine xac ⟨_,rfl, "set_iterator",_,⟨_,xaq _ rfl,rfl⟩,bB.lookup,?_⟩
   have ho':(s.heap.push { cls:=.type "set_iterator",data:=.fields #[rawInt 0,rawInt 0,.ref a,rawInt es.size,rawInt ep] }).get? a=some o:=xae _ ho
   exact h s.heap.objs.size _ s.drawn _ _ _ (fun b o e=>xae _ e) (xaf _) (fun b hb=>by
    rcases xak.mp hb with rfl | hb
    ·exact .inr (xaf _)
    ·exact .inl (xaS.mp hb)) (.refl _) (rJ (ep:=ep) hh (xaw hlt) hb (by rw [hl,hb]; rfl) hdr U hz hf) ⟨xaq _ rfl,o,ho',hd⟩
  | true =>
   rw [if_pos (by simp)]
   refine xaa (Bh es.size (List.range es.size) s _ (by simp) fun ix d hp=>?_)
   refine xaa (wpAny_newObj_type ?_ ?hzz)
   case hzz =>
    have:=hp.length_eq
    rw [xcn] at this
    show (ix.map fun (i:Nat)=>rawInt i).toArray.size<=sizeLine
    rw [xaz,xag,this]; exact hn
   have ho1:(s.heap.push { cls:=.type "tuple",data:=.seq (ix.map fun (i:Nat)=>rawInt i).toArray }).get? a=some o:=xae _ ho
   refine xaa (wpAny_setEpoch_of ho1 hd hf ?_)
   refine xaa (wpAny_newObj_type ?_)
   refine xac ⟨_,rfl, "set_iterator",_,⟨_,xaq _ rfl,rfl⟩,bB.lookup,?_⟩
   have hs1:(s.heap.push { cls:=.type "tuple",data:=.seq (ix.map fun (i:Nat)=>rawInt i).toArray }).objs.size=s.heap.objs.size+1:=xbP ..
   refine h (s.heap.push { cls:=.type "tuple",data:=.seq (ix.map fun (i:Nat)=>rawInt i).toArray }).objs.size _ d [(s.heap.push { cls:=.type "tuple",data:=.seq (ix.map fun (i:Nat)=>rawInt i).toArray }).objs.size,a,s.heap.objs.size] _ (ix.filterMap fun k=>es[k]?) (fun b o e=>xae _ (xae _ e)) (by rw [hs1]; exact Nat.le_succ _) (fun b hb=>?_) ?_
    (su (ep:=ep) (kT:=0) (T:=s.heap.objs.size) (ix:=ix) (t:=t) hh (by rw [hs1]; exact xaw (xaO hlt)) (by rw [hs1]; exact xaw (Nat.lt_succ_self _)) hf hp) ⟨xaq _ rfl,⟨o,xae _ ho1,hd⟩,_,xae _ (xaq _ rfl),rfl⟩
   ·rcases xak.mp hb with rfl | hb
    ·exact .inr (by rw [hs1]; exact Nat.le_succ _)
    ·rcases xak.mp hb with rfl | hb
     ·exact .inl rfl
     ·rw [xaS.mp hb]; exact .inr (xaf _)
   ·have:=hp.filterMap fun k=>es[k]?
    rw [qP] at this
    exact this
theorem xT (hT:s.TypeIs (.ref a) "set") (h:Q false s):wpAny (model prog w) A (Builtin.List.listLengthHint (.ref a)) Q E s:=by
 unfold Builtin.List.listLengthHint
 refine xaa (wpAny_specialOf hT PySem.F.slot_set_len.lookup ?_)
 generalize hid:("set.__len__" : String)=id0
 wp_delta
 rw [show splitId id0=some ("set", "__len__") from by subst hid; decide +kernel]
 subst hid
 refine xaa (wpAny_isInstance (T := "set") (b:=true) hT (by rw [isSubtype_type]; kernel_rfl) ?_)
 refine wpAny_ite_split (fun hab=>absurd hab (by decide)) (fun _=>?_)
 refine wpAny_ite_split (fun _=>?_) (fun hab=>absurd (by decide +kernel) hab)
 refine xaa (wpAny_typeOf hT ?_)
 exact xac h
theorem zc {R:Result->Shared->Prop} (hh:A.handled=none) (ho:s.heap.get? a=some o) (hex:o.ExactSet) (hd:o.data=.set es ep t) (hf:t.fits es.size=true) (U:Up t.place) (hz:t.place.size=es.size) (hl:t.led=(!w.params.followText "set-order")) (hn:es.size<=sizeLine)
  (S:Addr) (hSa:S≠a) (res:Value) (c₀:Nat) (hS:s.heap.get? S=some { cls:=.type "list",data:=.seq #[] c₀ })
  (hR:∀ h' tk d acc' c' ys,(∀ b o,b≠S->s.heap.get? b=some o->h'.get? b=some o)->h'.get? S=some { cls:=.type "list",dict:=none,data:=.seq acc' c',slots:=#[] }->ys.Perm es.toList->ItemsOf (PV ys) acc' es.size->R (.ok (.ret res)) { s with heap:=h',toks:=tk,drawn:=d }) :
  wpAny (model prog w) A.in1 (Builtin.List.listExtendWith (.ref S) (.ref a) res)
   (fun fin s'=>match fin with | .done f=>R (.ok f) s' | .again c'=>c'.quiet=true/\codeAny (model prog w) A c' R s') (fun e s'=>R (.error e) s') s:=by
 have hT:s.TypeIs (.ref a) "set" := ⟨o,ho,hex.1⟩
 have hSl:=xan hS
 unfold Builtin.List.listExtendWith
 refine xaa (wpAny_typeOf hT ?_)
 have h1:Builtin.List.listSameRef (.ref S) (.ref a)=false:=by simp [Builtin.List.listSameRef,hSa]
 simp only [h1,show (Value.type "set" == Value.type "list")=false by decide,show (Value.type "set" == Value.type "tuple")=false by decide,Bool.or_false,xao,if_false]
 refine xaa (yc (A:=A.in1) hh ho hex hd hf U hz hl hn fun I h2 d fp St ys kp hI hfp hp W st=>?_)
 have hSf:S∉fp:=fun hm=>by
  rcases hfp S hm with z | z
  ·exact hSa z
  ·exact absurd hSl (Nat.not_lt.mpr z)
 have key:∀ (h:Heap) (c₁ tk:Nat),St 0 h->(∀ b o,b≠S->s.heap.get? b=some o->h.get? b=some o) ->
   h.get? S=some { cls:=.type "list",data:=.seq #[] c₁ }->codeAny (model prog w) A (.builtin "list.extend.loop" ⟨[.ref S,.ref I,res],[]⟩) R { s with heap:=h,toks:=tk,drawn:=d }:=by
  intro h c₁ tk hst hk hS₁
  refine codeAny_extend_loopS W.toS hn S hSf res es.size 0 _ #[] c₁ rfl (xas _) hst hS₁ (ItemsOf.nil _) fun s' acc' c' hm hS' hacc=>?_
  rw [Moved.eq_with hm]
  refine hR s'.heap s'.toks d acc' c' ys (fun b o hb e=>hm.heap b o (fun hmem=>?_) (hk b o hb e)) hS' hp hacc
  rcases xak.mp hmem with e' | hmem
  ·exact hb e'
  ·exact absurd (xan e) (by rw [xaS.mp hmem]; exact Nat.not_lt.mpr hI)
 have hS₁:h2.get? S=some { cls:=.type "list",data:=.seq #[] c₀ }:=kp _ _ hS
 refine xaa (wpAny_holding (xT (s:={ s with heap:=h2,drawn:=d }) ⟨o,kp _ _ ho,hex.1⟩ ?_))
 refine wpAny_ite_split (fun _=>?_) (fun _=>xac ⟨plainId_quiet PySem.F.plain_extend_loop _,key _ c₀ _ st (fun b o _ e=>kp b o e) hS₁⟩)
 refine xaa (wpAny_rule ?_)
 refine xaa ?_
 show wpAny _ _ (updateSeq S (·.push .none) >>= fun _=>updateSeq S (·.pop)) _ _ _
 refine xaa (wpAny_updateSeq hS₁ rfl ?_)
 have hS₂:=xbs (Obj.mapSeq (·.push Value.none)) hS₁ rfl
 refine wpAny_updateSeq (hz:=by seq_fits) hS₂ rfl ?_
 have hS₃:=xbs (Obj.mapSeq (·.pop)) hS₂ rfl
 refine xac ⟨plainId_quiet PySem.F.plain_extend_loop _,key _ _ _ ?_ (fun b o hb e=>?_) hS₃⟩
 ·refine W.frame 0 _ _ st fun b hb o e=>?_
  have hbS:b≠S:=fun h=>hSf (h ▸ hb)
  exact (xbo _ _ (Ne.symm hbS)).trans ((xbo _ _ (Ne.symm hbS)).trans e)
 ·exact (xbo _ _ (Ne.symm hb)).trans ((xbo _ _ (Ne.symm hb)).trans (kp _ _ e))
theorem rH (h:ItemsOf (PV ys) acc n) (hn:ys.length=n):acc.toList=ys.map (·.2):=by
 apply xbe
 intro i
 rw [xaG]
 by_cases hi:i<n
 ·have hi':i<acc.size:=by rw [h.1]; exact hi
  have e1:acc[i]? = some acc[i]:=xaP hi'
  obtain ⟨e,he,hv⟩:=h.2 i acc[i] e1
  rw [xax,e1,he,hv]; rfl
 ·rw [xaK (by rw [xa2,h.1]; lia),xaK (by lia)]; rfl
theorem iD {R:Result->Shared->Prop} (hh:A.handled=none) (ho:s.heap.get? a=some o) (hex:o.ExactSet) (hd:o.data=.set es ep t) (hf:t.fits es.size=true) (U:Up t.place) (hz:t.place.size=es.size) (hl:t.led=(!w.params.followText "set-order")) (hn:es.size<=sizeLine)
  (hR:∀ h' tk d acc' c' ys,(∀ b o,s.heap.get? b=some o->h'.get? b=some o)->h'.get? s.heap.objs.size=some { cls:=.type "list",dict:=none,data:=.seq acc' c',slots:=#[] }->ys.Perm es.toList->ItemsOf (PV ys) acc' es.size->R (.ok (.ret (.ref s.heap.objs.size))) { s with heap:=h',toks:=tk,drawn:=d }) :
  codeAny (model prog w) A (.builtin "proto.collect" ⟨[.ref a],[]⟩) R s:=by
 have hlt:a<s.heap.objs.size:=xan ho
 have hS:(s.heap.push { cls:=.type "list",data:=.seq ([]:List Value).toArray }).get? s.heap.objs.size=some { cls:=.type "list",data:=.seq ([]:List Value).toArray }:=xaq _ rfl
 refine codeAny_builtin F.entry_proto_collect ?_
 rw [Around.under_plainId F.plain_proto_collect _]
 show wpAny _ A.in1 (newList [] >>= fun l=>again (.builtin "list.__iadd__" ⟨[l,.ref a],[]⟩)) _ _ s
 refine xaa (wpAny_newObj_type ?_)
 refine xac ⟨plainId_quiet F.plain_list_iadd _,codeAny_builtin F.entry_list_iadd ?_⟩
 rw [Around.under_plainId F.plain_list_iadd _]
 show wpAny _ A.in1 (Builtin.List.listExtendWith (.ref s.heap.objs.size) (.ref a) (.ref s.heap.objs.size)) _ _ _
 exact zc (R:=R) (s:={ s with heap:=s.heap.push { cls:=.type "list",data:=.seq ([]:List Value).toArray } }) hh (xae _ ho) hex hd hf U hz hl hn s.heap.objs.size (xbX hlt) _ 0 hS fun h' tk d acc' c' ys kp eo hp ia =>
  hR h' tk d acc' c' ys (fun b o e=>kp b o (xaw (xan e)) (xae _ e)) eo hp ia
theorem pQ (hh:A.handled=none) (ho:s.heap.get? a=some o) (hex:o.ExactSet) (hd:o.data=.set es ep t) (hf:t.fits es.size=true) (U:Up t.place) (hz:t.place.size=es.size) (hl:t.led=(!w.params.followText "set-order")) (hn:es.size<=sizeLine)
  (hQ:∀ h' tk d vs,(∀ b o,s.heap.get? b=some o->h'.get? b=some o)->s.heap.objs.size<=h'.objs.size->vs.Perm (es.toList.map (·.2))->Q vs { s with heap:=h',toks:=tk,drawn:=d }):wpAny (model prog w) A (collect (.ref a)) Q E s:=by
 unfold collect
 refine xaa (wpAny_runValue (iD hh ho hex hd hf U hz hl hn fun h' tk d acc c ys kp eo hp ia=>?_))
 show wpAny _ A (load s.heap.objs.size >>= _) _ _ { s with heap:=h',toks:=tk,drawn:=d }
 refine xaa (wpAny_load eo ?_)
 refine xac (hQ h' tk d _ kp (xaF (xan eo)) ?_)
 rw [rH ia (by rw [hp.length_eq]; simp)]
 exact hp.map _
end
end TS
namespace Tim
open PySem PyProof.Rows
section
variable {prog:Program} {w:World} {A:Around} {E:Value->Shared->Prop} {s:Shared} {κ:SortKind} {r:Value->Int} {P:Value->Prop}
theorem pP {R:List Value->Prop}
  (hcol:∀ (A':Around) (E':Value->Shared->Prop) (Q':List Value->Shared->Prop),A'.handled=A.handled->(∀ vs h1 tk d,R vs->(∀ b o,s.heap.get? b=some o->h1.get? b=some o)->s.heap.objs.size<=h1.objs.size->Q' vs { s with heap:=h1,toks:=tk,drawn:=d })->wpAny (model prog w) A' (collect v) Q' E' s)
  (hsz:∀ vs,R vs->vs.length<=sizeLine) (hP:∀ vs,R vs->∀ v∈vs,P v)
  (hk:∀ vs,R vs->2<=vs.length->∀ (A':Around) (E':Value->Shared->Prop) (s':Shared),(∀ b o,s.heap.get? b=some o->s'.heap.get? b=some o)->∀ (Q:SortKind->Shared->Prop),Q κ s'->wpAny (model prog w) A' (keyKind' vs.toArray) Q E' s')
  (C:∀ (s':Shared),(∀ b o,s.heap.get? b=some o->s'.heap.get? b=some o)->Cmp prog w A.in1.in1 s' κ r P)
  (h:∀ (vs:List Value) (h':Heap) (a:Addr) (out:List Value) (n tk:Nat) d,R vs->out.Perm vs->(out.Pairwise fun x y=>r x<=r y)->(∀ b o,s.heap.get? b=some o->h'.get? b=some o)->s.heap.objs.size<=a->h'.get? a=some (seqObj "list" out.toArray n)->Q (.ref a) { s with heap:=h',toks:=tk,drawn:=d }) :
  wpAny (model prog w) A (call (.builtin "sorted") [v]) Q E s:=by
 refine Calls.call_function_entry kind_sorted plain_sorted entry_sorted (args_sorted1 _) ?_
 unfold Builtin.«sorted»
 refine xaa (m:=checkCount "sorted" 1 1 _) (xac ?_)
 refine xaa (hcol _ _ _ rfl fun vs h1 tk d hR kp hz=>?_)
 have hsz':=hsz vs hR
 refine xaa (wpAny_newList ?_ (by simpa using hsz'))
 have hoL:(h1.push (seqObj "list" vs.toArray 0)).get? h1.objs.size=some (seqObj "list" vs.toArray 0):=xaq _ rfl
 have old:∀ b o,s.heap.get? b=some o->(cM (h1.push (seqObj "list" vs.toArray 0)) h1.objs.size vs).get? b=some o:=fun b o e=>by
  have hlt:b<h1.objs.size:=xan (kp b o e)
  rw [fG (xaw hlt) (by rw [size_push']; exact xaO hlt)]
  exact xae _ (kp b o e)
 show wpAny _ _ _ _ _ { s with heap:=h1.push (seqObj "list" vs.toArray 0),toks:=tk,drawn:=d }
 refine xaa (wpAny_holding (wpAny_call_entry slot_list_sort ⟨_,hoL,rfl⟩ entry_list_sort (dX (r:=r) (s:={ s with heap:=h1.push (seqObj "list" vs.toArray 0),toks:=tk,drawn:=d }) hoL hsz' (hP vs hR)
  (fun h2=>hk vs hR h2 _ _ _ old) (fun h2=>C _ old) fun out a1 a2=>⟨_,rfl,?_⟩) (args_list_sort _)))
 obtain ⟨n,e⟩:=sortedHeap_at (out:=out) hoL
 refine xac ⟨_,rfl,h vs _ h1.objs.size out.toList n tk d hR a1 a2 (fun b o e=>?_) hz (by rw [xbQ]; exact e)⟩
 have hlt:b<h1.objs.size:=xan (kp b o e)
 rw [sortedHeap_old (xaw hlt) (by rw [size_push']; exact xaO hlt)]
 exact xae _ (kp b o e)
end
end Tim
namespace TS
open PySem PySem.SetTable PyProof.Rows
section
variable {prog:Program} {w:World} {K:Type} [DecidableEq K] {knd:KeyKind prog w K} {A:Around} {E:Value->Shared->Prop} {s:Shared}
theorem wZ (led:Bool):TI (α:=α) (SetTable.fresh 0 0 led) #[] :=
 ⟨⟨3,rfl,xaf _⟩,rfl,fun i j h hj=>absurd hj (xbv _),fun i hi=>absurd hi (xbv _),rfl,(by show 0 * 5<7 * 3; decide),fun i h x e=>by simp at e⟩
theorem nF {l:Addr} {items:Array Value} {xs:List (List K × Addr)} {Q:Value->Shared->Prop} (hh:A.handled=none) (hu:A.units+8<cLine) (hl:s.heap.IsList l items) (hi:items.toList=xs.map fun p=>Value.ref p.2)
  (his:∀ p∈xs,IsTupleKey knd s.heap p.1 p.2) (hz:xs.length<=1000) (hsc:∀ k v,knd.is k v=true->v.scannable=true)
  (h:∀ h' tk ks,SetT knd h' s.heap.objs.size ks->(∀ k,k∈ks.map (·.1)↔k∈xs.map (·.1))->(∀ p∈ks,p∈xs)->(∀ b o,s.heap.get? b=some o->h'.get? b=some o)->Q (.ref s.heap.objs.size) { s with heap:=h',toks:=tk }) :
  wpAny (model prog w) A (call (.type "set") [.ref l]) Q E s:=by
 have lt:∀ p∈xs,p.2<s.heap.objs.size:=fun p hp=>by
  obtain ⟨o,_,_,ho,_⟩:=his p hp
  exact xan ho
 refine n_ hh hl (fun i h=>∃ ks,SetT knd h s.heap.objs.size ks/\(∀ k,k∈ks.map (·.1)↔k∈(xs.take i).map (·.1))/\(∀ p∈ks,p∈xs)/\ks.length<=i/\∀ p∈xs,IsTupleKey knd h p.1 p.2) (fun h e k=>?_) (fun i h h' ⟨ks,S,m1,m2,m3,m4⟩ k=>?_) (fun i v s' E' Q' hv ⟨ks,S,m1,m2,m3,m4⟩ q=>?_) fun h' tk ⟨ks,S,m1,m2,m3,m4⟩ k=>?_
 ·exact ⟨[],⟨⟨_,#[],0,_,e,⟨rfl,rfl,rfl⟩,rfl,wZ _,(by show 7<=8191; decide),rfl,rfl⟩,xaR,fun p hp=>nomatch hp⟩,fun k=>by simp,(fun p hp=>nomatch hp),xaf _,fun p hp=>IsTupleKey.stay (his p hp) fun o ho=>k _ _ ho⟩
 ·obtain ⟨⟨o,es,ep,t,ho,r⟩,nd,is⟩:=S
  exact ⟨ks,⟨⟨o,es,ep,t,k _ _ (xaf _) ho,r⟩,nd,fun p hp=>IsTupleKey.stay (is p hp) fun o ho=>k _ _ (xaF (lt p (m2 p hp))) ho⟩,m1,m2,m3,fun p hp=>IsTupleKey.stay (m4 p hp) fun o ho=>k _ _ (xaF (lt p hp)) ho⟩
 ·have hv':items.toList[i]? = some v:=by rw [xax]; exact hv
  rw [hi,xaG] at hv'
  cases ex:xs[i]? with
  | none=>rw [ex] at hv'; cases hv'
  | some p =>
   rw [ex] at hv'
   cases hv'
   have hp:=xaC ex
   have hil:i<xs.length:=(xal.mp ex).1
   have tk1:(xs.take (i+1)).map (·.1)=(xs.take i).map (·.1)++[p.1]:=by
    rw [xbM,ex,xbL]; rfl
   unfold setAdd
   refine wpAny_holding (xaa (wpAny_pyHash_tuple (by show A.units+3<cLine; lia) (m4 p hp) ?_))
   refine DN (s:={ s' with toks:=s'.toks+(p.1.length+1) }) S (m4 p hp) (by lia) (by show A.units+3<cLine; lia) hsc fun b h' ks' sb S' c=>?_
   refine q b h' _ sb ⟨ks',S',fun k=>?_,fun p' hp'=>?_,?_,fun p' hp'=>IsTupleKey.stay (m4 p' hp') fun o ho=>sb.extBut _ _ (xaw (lt p' hp')) ho⟩
   ·rw [tk1,xai,xaS,<- m1]
    rcases c with ⟨c1,rfl⟩ | ⟨c1,c2⟩
    ·exact ⟨.inl,fun z=>z.elim id fun e=>e ▸ c1⟩
    ·rw [(c2.map _).mem_iff,xat,xak]
     exact ⟨fun z=>z.symm,fun z=>z.symm⟩
   ·rcases c with ⟨c1,rfl⟩ | ⟨c1,c2⟩
    ·exact m2 p' hp'
    ·rcases xak.mp (c2.mem_iff.mp hp') with rfl | z
     ·exact hp
     ·exact m2 p' z
   ·rcases c with ⟨c1,rfl⟩ | ⟨c1,c2⟩
    ·exact Nat.le_succ_of_le ‹_›
    ·rw [c2.length_eq]; simp; lia
 ·have e:items.size=xs.length:=by
   have:=congrArg List.length hi
   simpa using this
  rw [e,xcs] at m1
  exact h h' tk ks S m1 m2 fun b o ho=>k b o (xan ho) ho
end
end TS
namespace L2
open PySem PySem.Spec PyProof.Rows
section
variable {X:Cx} {pins:List (Addr × Obj)} {σ:St} {H:Hp} {s:Shared}
theorem Inv.drawn {d} (I:Inv X pins σ H s):Inv X pins σ H { s with drawn:=d }:=⟨I.ok,I.os,I.bare,I.base,I.loc,I.cell,I.free,I.freeC,I.pin,I.hok,I.len⟩
theorem yh:∀ (k:Key) (v:Value),(mixKind prog w).is k v=true->v.scannable=true:=fun k v h=>by
 rcases keyIs_shape h with ⟨i,t,rfl,rfl⟩ | ⟨x,t,rfl,rfl⟩ <;> rfl
def gJ (K:PySem.W.Frag):V->Hp->VK->Prop:=fun x H Q=>match x with
 | .ref p=>∃ ys ks b0 sh,SqL K H p ys/\ys.length<=1000/\cj H ys ks/\(∀ k∈ks,shOf k=b0 :: sh) /\
   ∀ zs ms l,cj H zs ms->ms.Nodup->(∀ k,k∈ms↔k∈ks)->(ms.Pairwise fun a b=>ltK b a=false)->H l=none->Q (.ref l) (upd H l (.lst zs))
 | _=>False
theorem cj.pairs (h:cj H ys ks) (hv:Vals ys vs):∃ xs:List (List Key × Addr),vs=xs.map (fun p=>Value.ref p.2)/\xs.map (·.1)=ks/\∀ p∈xs,H p.2=some (.tup (p.1.map kV)):=by
 induction ys generalizing ks vs with
 | nil=>exact ⟨[],Paired.n0 hv,(show ks=[] from Paired.n0 h).symm,fun p hp=>nomatch hp⟩
 | cons y ys ih =>
  obtain ⟨k,ks,rfl,⟨b,rfl,g⟩,t⟩:=Paired.c h
  obtain ⟨v,vs,rfl,rfl,rs⟩:=Paired.c hv
  obtain ⟨xs,e1,e2,e3⟩:=ih t rs
  refine ⟨(k,b) :: xs,by rw [e1]; rfl,by rw [<- e2]; rfl,fun p hp=>?_⟩
  rcases xak.mp hp with rfl | hp
  ·exact g
  ·exact e3 p hp
end
section
variable {X:Cx} {e:Expr} {te:TE} {p p2 pos pos2:Pos}
theorem pX (hc:X.calm=true) (hu:X.A.units+64<cLine) (hg:Gl X "sorted") (hm:X.mg "sorted" = none) (hg2:Gl X "set") (hm2:X.mg "set" = none) (he:PE X e te)
  (hv:bootBuiltins "sorted" = some (.builtin "sorted")) (hv2:bootBuiltins "set" = some (.type "set"))
  (hs2:starEach [e] X.env=(false,eval e X.env) :: starEach [] X.env:=by rfl)
  (hs:starEach [.Call (.Name "set" p2) [e] [] pos2] X.env=(false,eval (.Call (.Name "set" p2) [e] [] pos2) X.env) :: starEach [] X.env:=by rfl) :
  PE X (.Call (.Name "sorted" p) [.Call (.Name "set" p2) [e] [] pos2] [] pos) (tUn (gJ X.K) te):=by
 intro pins s σ H Q I h
 refine wpAny_Call_Name_kw (ld_blt I hg hm hv ?_ (by decide) (by decide))
 refine PyProof.Rows.callWith_builtin1 ?_ hs rfl
 rw [hs]
 refine Calls.spliced_cons ?_
 refine wpAny_Call_Name_kw (ld_blt I hg2 hm2 hv2 ?_ (by decide) (by decide))
 refine PyProof.Rows.callWith_type1 ?_ hs2 rfl
 rw [hs2]
 refine Calls.spliced_cons (thn (he pins s σ H _ I h) fun u s1 hx5=>L2.ex2 hx5 fun x H1 I1 r1 q1=>Calls.spliced_nil ?_)
 have q1:gJ X.K x H1 Q:=q1
 obtain ⟨a,rfl⟩:∃ a,x=.ref a:=by
  unfold gJ at q1
  split at q1
  ·exact ⟨_,rfl⟩
  ·exact q1.elim
 obtain ⟨ys,ks,b0,sh,hl,hz1,ht,hsh,q⟩:=q1
 cases r1
 obtain ⟨vs,rv,pl,hz⟩:=I1.list hl
 obtain ⟨xs,ex,ek,hx⟩:=ht.pairs rv
 have hhd:X.A.handled=none:=I1.ok.hd hc
 have hlen:xs.length=ys.length:=by rw [rv.length,ex,xag]
 have his:∀ p∈xs,IsTupleKey (mixKind X.prog X.w) s1.heap p.1 p.2:=fun p hp=>by
  obtain ⟨us,ru,o,e1,c1,n1,d1⟩:=I1.tup (hx p hp)
  exact ⟨o,us.toArray,n1,e1,c1,d1,by simpa using items_are ru⟩
 refine TS.nF (knd:=mixKind X.prog X.w) hhd (by lia) pl.isList (by simpa using ex) his (by lia) yh fun h2 tk ks' S m1 m2 kp=>?_
 refine Calls.spliced_nil ?_
 obtain ⟨⟨o,es,ep,t,ho,hex,hd,T,hM,hL,hes⟩,nd,is⟩:=S
 have hent:es.toList.map (·.2)=ks'.map fun p=>Value.ref p.2:=by rw [hes,xaJ]; rfl
 have hksl:ks'.length<=1000:=by
  have:=TS.gm nd (m:=ks) fun k hk=>by rw [<- ek]; exact (m1 k).mp hk
  rw [xag] at this
  have:ks.length=xs.length:=by rw [<- ek,xag]
  lia
 have hesz:es.size=ks'.length:=by
  have:=congrArg List.length hes
  simpa using this
 have memk:∀ p∈ks',p.1∈ks:=fun p hp=>by rw [<- ek]; exact xaj.mpr ⟨p,m2 p hp,rfl⟩
 have mem:∀ vs':List Value,vs'.Perm (ks'.map fun p=>Value.ref p.2)->∀ v∈vs',∃ b k,v=.ref b/\H1 b=some (.tup (k.map kV))/\k∈ks:=fun vs' pv v hv=>by
  obtain ⟨p,hp,rfl⟩:=xaj.mp (pv.mem_iff.mp hv)
  exact ⟨p.2,p.1,rfl,hx p (m2 p hp),memk p hp⟩
 have h12:s1.heap.objs.size<=h2.objs.size:=xaF (xan ho)
 refine Tim.pP (s:={ s1 with heap:=h2,toks:=tk }) (κ:=tuples' true) (R:=fun vs'=>vs'.Perm (ks'.map fun p=>Value.ref p.2)) (r:=fun v=>rkK ks (jN H1 v)) (P:=fun v=>∃ b k,v=.ref b/\H1 b=some (.tup (k.map kV))/\shOf k=b0 :: sh/\k∈ks)
  (fun A' E' Q' hA hQ=>TS.pQ (s:={ s1 with heap:=h2,toks:=tk }) (hA.trans hhd) ho hex hd T.fits T.up T.sz hL (by rw [hesz,sizeLine_eq]; lia) fun h' tk' d vs' kp' hz' pv=>hQ vs' h' tk' d (by rw [<- hent]; exact pv) kp' hz')
  (fun vs' pv=>by rw [pv.length_eq,xag,sizeLine_eq]; lia) (fun vs' pv v hv=>?_) (fun vs' pv h2' A' E' s' kp' Q' q'=>?_) (fun s' kp'=>qY I1 fun b o e=>kp' b o (kp b o e)) fun vs' h' a' out n tk' d pv pm pw kp' ha eo=>?_
 ·obtain ⟨b,k,e1,e2,e3⟩:=mem vs' pv v hv
  exact ⟨b,k,e1,e2,hsh k e3,e3⟩
 ·obtain ⟨zs,z1,z2⟩:=cj.of (H:=H1) (ks:=ks) vs' (mem vs' pv)
  obtain ⟨fs,f1,f2,f3⟩:=kat_tups I1 (s':=s') (fun b o e=>kp' b o (kp b o e)) z1 z2 fun k hk=>by
   obtain ⟨v,hv,rfl⟩:=xaj.mp hk
   obtain ⟨b,k,rfl,e2,e3⟩:=mem vs' pv v hv
   rw [b_ e2]; exact hsh k e3
  cases b0 with
  | true =>
   refine PySem.W.kat_kind (T:=.type "int") f1 (by lia) (fun f hf=>?_) (by decide) q'
   obtain ⟨i,t,rfl⟩:=(f3 f hf).1 rfl
   exact .now
  | false =>
   refine PySem.W.kat_kind (T:=.type "str") f1 (by lia) (fun f hf=>?_) (by decide) q'
   obtain ⟨i,t,rfl⟩:=(f3 f hf).2 rfl
   exact .now
 ·have pm2:=pm.trans pv
  obtain ⟨zs,z1,z2⟩:=cj.of (H:=H1) (ks:=ks) out fun v hv=>mem _ pm2 v hv
  have zl:=z2.length
  have ol:=pm2.length_eq
  rw [xag] at ol
  have ekk:(ks'.map fun p=>Value.ref p.2).map (jN H1)=ks'.map (·.1):=by
   rw [xaJ]
   exact xch fun p hp=>b_ (hx p (m2 p hp))
  have pms:(out.map (jN H1)).Perm (ks'.map (·.1)):=by rw [<- ekk]; exact pm2.map _
  refine ⟨.ref a',_,(I1.laid (a:=a') (t':=tk') (fun b o e=>kp' b o (kp b o e)) (xaA h12 ha) (show ObjOk X.prog X.w _ h' _ (.lst zs) from ⟨by rw [sizeLine_eq]; lia,out,n,z2,eo⟩)).drawn,rfl,
   q zs _ _ z1 (pms.nodup_iff.mpr nd) (fun k=>by rw [pms.mem_iff,m1,ek]) ?_ (I1.hok.fresh (xaA h12 ha))⟩
  rw [xaL]
  refine pw.imp_of_mem fun {x y} mx my hle=>?_
  obtain ⟨b,k,rfl,hb,kk⟩:=mem _ pm2 x mx
  obtain ⟨c,m,rfl,hc',km⟩:=mem _ pm2 y my
  rw [b_ hb,b_ hc'] at *
  have:=vM (L:=ks) ((hsh m km).trans (hsh k kk).symm) km
  rw [<- this]
  exact decide_eq_false (by lia)
end
end L2
namespace TS
open PySem PySem.SetTable PyProof.Rows
end TS
namespace L2
open PySem PySem.Spec PyProof.Rows
end L2
namespace L2.Q
open PySem PySem.Spec PyProof.Rows
section
variable {X:Cx} {K:PySem.W.Frag} {e:Expr} {te:WE} {p p2 pos pos2:Pos}
theorem CP:bootBuiltins "set" = some (.type "set"):=by decide +kernel
def dH:W1:=fun _ x Q=>match x with
 | .list xs=>∃ (ks:List (List Key)) (sh:List Bool),xs=ks.map keyT/\ks.length<=1000/\(∀ k∈ks,shOf k=false :: sh)/\∀ ms:List (List Key),ms.Nodup->(∀ k,k∈ms↔k∈ks)->(ms.Pairwise fun a b=>ltK b a=false)->Q (.ow true) (.list (ms.map keyT))
 | _=>False
theorem qd:Br1 K (gJ K) dH:=by
 intro Hs H m x v As Qd Qv w rx h f
 have r1:=rx.rep w
 cases r1 with
 | list z s q =>
  obtain ⟨ks,sh,rfl,hz,hs,h⟩:=h
  obtain ⟨ta,ok⟩:=Ak q
  have hl:=q.length
  rw [xag] at hl
  refine ⟨_,ks,false,sh,s,by lia,ta,hs,fun zs ms l tz nd mm pw hl'=>?_⟩
  have rr:=mJ (K:=K) tz fun k hk=>ok k ((mm k).mp hk)
  have:ms.length<=ks.length:=TS.gm nd fun k hk=>(mm k).mp hk
  exact f.lst w (by rw [xag,sizeLine_eq]; lia) rr (fW ms) (h ms nd mm pw) l hl'
 | _=>exact h.elim
theorem sW (hu:X.A.units+64<cLine) (hg:Gl X "sorted") (hm:X.mg "sorted" = none) (hg2:Gl X "set") (hm2:X.mg "set" = none) (he:QE X K e te) (hc:X.calm=true:=by rfl) (hK:X.K=K:=by rfl)
  (hs2:starEach [e] X.env=(false,eval e X.env) :: starEach [] X.env:=by rfl)
  (hs:starEach [.Call (.Name "set" p2) [e] [] pos2] X.env=(false,eval (.Call (.Name "set" p2) [e] [] pos2) X.env) :: starEach [] X.env:=by rfl) :
  QE X K (.Call (.Name "sorted" p) [.Call (.Name "set" p2) [e] [] pos2] [] pos) (wUn dH te):=by
 subst hK
 refine PE.imp (pX hc hu hg hm hg2 hm2 he gH CP hs2 hs) fun σ H Qv hx9=>?_
 obtain ⟨Hs,ρ,tot,Q,sr,h,fin⟩:=hx9
 exact ⟨Hs,ρ,tot,_,sr,h,fun v H1 Hs1 m x As g1 r1 f1 q1=>qd Hs1 H1 m x v As Q Qv g1.wf r1 q1 (Fin.after fin g1)⟩
end
end L2.Q
namespace L2.Q.R
open PySem PySem.Spec PyProof.Rows L2.Q
section
variable {Q:Md->L2.Q.D->Prop} {m:Md} {xs:List L2.Q.D}
theorem Bp:dH m (.list xs) Q = ∃ (ks:List (List Key)) (sh:List Bool),xs=ks.map keyT/\ks.length<=1000/\(∀ k∈ks,shOf k=false :: sh)/\∀ ms:List (List Key),ms.Nodup->(∀ k,k∈ms↔k∈ks)->(ms.Pairwise fun a b=>ltK b a=false)->Q (.ow true) (.list (ms.map keyT)):=rfl
end
end L2.Q.R
namespace L2
open PySem PySem.Spec PyProof.Rows
end L2
namespace L2.Q
open PySem PySem.Spec PyProof.Rows
end L2.Q
namespace L2.Q.R
open PySem PySem.Spec PyProof.Rows L2.Q
end L2.Q.R
namespace L2.Q
open PySem PySem.Spec PyProof.Rows
def two' (m:Md) (d:D) (S:D->D->Prop) (O:D->D->Prop):Prop:=match m,d with
 | .sh,.tup [a,b]=>S a b
 | .ow true,.tup [a,b]=>a.flat=false/\b.flat=false/\O a b
 | _,_=>False
def yo (i j:Nat) (te:WE):WS:=fun E ρ=>te ρ fun m d=>two' m d (fun a b=>E.nx ((ρ.set i (some (.sh a))).set j (some (.sh b)))) fun a b=>E.nx ((ρ.set i (some (.ow true a))).set j (some (.ow true b)))
theorem vH {K:PySem.W.Frag} (hc:X.calm=true) (hN:X.N.Nodup) (hi:X.N[i]? = some x) (hx:Loc X.env.scope x) (hj:X.N[j]? = some y) (hy:Loc X.env.scope y) (he:QE X K e te) (hK:X.K=K:=by rfl)
  (hf:X.fn x=true\/X.env.scope.names.lookup x=some .local:=by first | exact .inl rfl | exact .inr rfl | assumption) (hf2:X.fn y=true\/X.env.scope.names.lookup y=some .local:=by first | exact .inl rfl | exact .inr rfl | assumption)
  (hn:(assignEach [.Name x p1,.Name y p2] X.env).length=2:=by rfl) (hst:(assignEach [.Name x p1,.Name y p2] X.env).findIdx? (·.1)=none:=by rfl)
  (hs:swapsWithSole [.Tuple [.Name x p1,.Name y p2] k p3] e pos.line X.env=pure false:=by rfl) (hw:swappedStores [.Tuple [.Name x p1,.Name y p2] k p3] e X.env=pure none:=by rfl)
  (h1:(assignEach [.Tuple [.Name x p1,.Name y p2] k p3] X.env).map (·.2)=[assign (.Tuple [.Name x p1,.Name y p2] k p3) X.env]:=by rfl) (h2:(assignEach [.Name x p1,.Name y p2] X.env).map (·.2)=assign (.Name x p1) X.env :: (assignEach [.Name y p2] X.env).map (·.2):=by rfl)
  (h3:(assignEach [.Name y p2] X.env).map (·.2)=assign (.Name y p2) X.env :: (assignEach [] X.env).map (·.2):=by rfl) :
  QS X K L (.Assign [.Tuple [.Name x p1,.Name y p2] k p3] e pos) (yo i j te):=by
 subst hK
 refine PS.imp (ps_asg he (pg_tup hc (pgs_cons (pg_name hN hi hx hf) (pgs_cons (pg_name hN hj hy hf2) pgs_nil h3) h2) hn hst) hs hw h1) fun D σ H hx=>eX hx fun Hs ρ tot E sr h k1 k2 k3 k4=>?_
 refine ⟨Hs,ρ,tot,_,sr,h,fun v H1 Hs1 m d As g1 r1 f1 q1=>?_⟩
 have sr1:=sr.grow g1
 unfold two' at q1
 split at q1
 ·rename_i a b
  obtain ⟨_,r⟩:=r1
  cases r with
  | tup z e rs =>
   cases rs with
   | cons ra rs=>cases rs with
    | cons rb rs=>cases rs with
     | nil =>
      obtain ⟨t1,m1,s1⟩:=sr1.zO i ra
      obtain ⟨t2,m2,s2⟩:=s1.zO j rb
      exact ⟨_,_,rfl,.inl (.inl (g1.wf.sub _ _ e)),rfl,_,_,rfl,_,_,rfl,rfl,k1 _ H1 Hs1 _ t2 g1.sh s2 q1⟩
 ·rename_i a b
  obtain ⟨fa,fb,q1⟩:=q1
  obtain ⟨r,ne⟩:=r1
  cases r with
  | sh _ _=>exact absurd rfl ne
  | tup z e n rs =>
   cases rs with
   | @cons _ v1 _ _ A1 _ ra rs=>cases rs with
    | @cons _ v2 _ _ A2 _ rb rs=>cases rs with
     | nil =>
      obtain ⟨nd,fr⟩:=f1
      rw [xaX] at nd fr
      obtain ⟨n1,n2,n3⟩:=xar.mp nd
      have dj:∀ c∈A1++A2,c∉tot:=fun c hc z=>(sr.sr.own c z).ne (fr c hc).2
      obtain ⟨t1,a1,b1,c1⟩:=SR.vX (ra.ne fa) ra n1 i sr1.sr sr1.nod fun c hc=>dj c (xay _ hc)
      obtain ⟨t2,a2,b2,c2⟩:=SR.vX (rb.ne fb) rb n2 j c1 a1 fun c hc z=>by
       rcases b1 c z with w | w
       ·exact dj c (xah _ hc) w
       ·exact n3 c w c hc rfl
      refine ⟨_,_,rfl,.inl (.inl (g1.wf.sub _ _ e)),rfl,_,_,rfl,_,_,rfl,rfl,k1 _ H1 Hs1 _ t2 g1.sh ⟨c2,g1.wf,a2,fun c hc=>?_⟩ q1⟩
      rcases b2 c hc with w | w
      ·rcases b1 c w with w | w
       ·exact sr1.own c w
       ·exact (fr c (xay _ w)).1
      ·exact (fr c (xah _ w)).1
 ·exact q1.elim
end L2.Q
namespace L2.Q.R
open PySem PySem.Spec PyProof.Rows L2.Q
section
variable {E:lK} {ρ:Env} {te:WE} {i j:Nat} {x y:L2.Q.D} {S O:L2.Q.D->L2.Q.D->Prop}
theorem G9:yo i j te E ρ=te ρ fun m d=>onK (m,d) (f:=fun p=>two' p.1 p.2 (fun a b=>E.nx ((ρ.set i (some (.sh a))).set j (some (.sh b)))) fun a b=>E.nx ((ρ.set i (some (.ow true a))).set j (some (.ow true b)))) ⟨⟩:=rfl
theorem Gd:two' .sh (.tup [x,y]) S O=S x y:=rfl
theorem Es:two' (.ow true) (.tup [x,y]) S O=(x.flat=false/\y.flat=false/\O x y):=rfl
end
end L2.Q.R
namespace L2
open PySem PySem.Spec PyProof.Rows Builtin Builtin.Str Builtin.Int
end L2
namespace L2.Q
open PySem PySem.Spec PyProof.Rows
section
variable {X:Cx} {K:PySem.W.Frag} {a:Expr} {ta:WE}
def wFz (t:WE):WE:=fun ρ Q=>t ρ fun m d=>nZ m/\Q .sh d
theorem q_fz (h:QE X K a ta):QE X K a (wFz ta):=by
 refine PE.imp h fun σ H Qv hx=>ex4 hx fun Hs ρ tot Q sr h fin=>?_
 refine ⟨Hs,ρ,tot,_,sr,h,fun v H1 Hs1 m d As g1 r1 f1 q1=>?_⟩
 obtain ⟨nb,q⟩:=q1
 cases m with
 | sh=>exact fin v H1 Hs1 .sh d As g1 r1 f1 q
 | bo=>exact nb.elim
 | ow fl =>
  obtain ⟨r,ne⟩:=r1
  have hn:∀ a∈As,Hs1 a=none:=fun a h=>(f1.2 a h).1
  have s:=fX (H:=H1) hn
  refine fin v H1 (frzH Hs1 H1 As) .sh d [] ⟨g1.all,g1.sh.trans s,uq g1.wf r.own,fun c hc=>?_⟩ ⟨rfl,r.rep s fun c hc=>by unfold frzH; rw [if_pos hc]⟩ ⟨xaR,fun _ h=>mem0 h⟩ q
  unfold frzH at hc
  split at hc
  ·rename_i m
   exact .inr (f1.2 c m).2
  ·exact g1.new c hc
def anyD (ys:List D) (x:D):Bool:=ys.any fun z=>eqD z x
def fInR (neg:Bool):W2:=fun _ x _ y Q=>∃ ys,(y=.list ys\/y=.tup ys)/\okD 12 x=true/\okD 12 y=true/\Q .sh (.bl (if neg then !anyD ys x else anyD ys x))
def rInR (K:PySem.W.Frag) (neg:Bool):R2:=fun x y H Q=>∃ d e xs,L2.Rep K H d x/\L2.Rep K H e y/\(e=.list xs\/e=.tuple xs)/\d.canLay0=true/\PyData.canLayAll0 xs=true/\d.depth<=60/\Q (.bl (if neg then !(xs.any fun z=>PyData.eqv z d) else xs.any fun z=>PyData.eqv z d)) H
theorem uG (hu:X.A.units+64<cLine):OpR X (compareOp .NotIn) (rInR X.K true):=by
 intro pins s σ H x y v u Q I rx ry h
 obtain ⟨d,e,xs,h1,h2,h3,h4,h5,h6,q⟩:=h
 obtain ⟨as,r1⟩:=h1.reads I rx
 obtain ⟨bs,r2⟩:=h2.reads I ry
 rcases h3 with rfl | rfl
 ·exact PySem.SeqAt.notIn_list_reads r2 r1 h5 h4 (by lia) ⟨.bl _,H,I,rfl,q⟩
 ·exact PySem.SeqAt.notIn_tuple_reads r2 r1 h5 h4 (by lia) ⟨.bl _,H,I,rfl,q⟩
theorem zB (hu:X.A.units+64<cLine) (hK:X.K=K:=by rfl):OpR X (compareOp .NotIn) (rInR K true):=by subst hK; exact uG hu
theorem z9 (ys:List D) (x:D):((pys ys).any fun z=>PyData.eqv z x.py)=anyD ys x:=by
 induction ys with
 | nil=>rfl
 | cons y ys ih =>
  rw [pys,xbI,ih]
  rfl
theorem Dn:Br2 K (rInR K neg) (fInR neg):=by
 intro Hs H m x v As n y u Bs Qd Qv w rx ry h f
 obtain ⟨ys,hy,o1,o2,q⟩:=h
 have l1:=ir 12 x o1
 have l2:=ir 12 y o2
 refine ⟨x.py,y.py,pys ys,(rx.rep w).l2 o1,(ry.rep w).l2 o2,?_,l1.1,?_,by lia,?_⟩
 ·rcases hy with rfl | rfl
  ·exact .inl rfl
  ·exact .inr rfl
 ·rcases hy with rfl | rfl
  ·exact l2.1
  ·exact l2.1
 ·rw [z9]
  exact f.sh w (.bl _) q
def owl (o:Option (Option Sl)) (k:List D->Prop):Prop:=match o with
 | some (some (.ow true (.list xs)))=>k xs
 | _=>False
def intD (y:D) (k:Int->Prop):Prop:=match y with
 | .int i=>k i
 | _=>False
def outM (d:D):Md:=bif d.flat then .sh else .ow true
end
end L2.Q
namespace L2.Q.R
open PySem PySem.Spec PyProof.Rows L2.Q
section
variable {ρ:Env} {te:WE} {m m':Md} {x:L2.Q.D} {ys:List L2.Q.D} {Q:Md->L2.Q.D->Prop}
theorem GQ:owl (some (some (.ow true (.list ys)))) k=k ys:=rfl
theorem HN:intD (.int i) k=k i:=rfl
theorem wFz_:wFz te ρ Q=te ρ fun m d=>nZ m/\Q .sh d:=rfl
theorem Gr:fInR neg m x m' (.list ys) Q=(okD 12 x=true/\okD 12 (.list ys)=true/\Q .sh (.bl (if neg then !anyD ys x else anyD ys x))):=by
 apply propext
 exact ⟨fun ⟨zs,h,a,b,c⟩=>by rcases h with h | h <;> cases h; exact ⟨a,b,c⟩,fun ⟨a,b,c⟩=>⟨ys,.inl rfl,a,b,c⟩⟩
theorem Hg:fInR neg m x m' (.tup ys) Q=(okD 12 x=true/\okD 12 (.tup ys)=true/\Q .sh (.bl (if neg then !anyD ys x else anyD ys x))):=by
 apply propext
 exact ⟨fun ⟨zs,h,a,b,c⟩=>by rcases h with h | h <;> cases h; exact ⟨a,b,c⟩,fun ⟨a,b,c⟩=>⟨ys,.inr rfl,a,b,c⟩⟩
end
end L2.Q.R
namespace L2
open PySem PySem.Spec PyProof.Rows
end L2
namespace L2.Q
open PySem PySem.Spec PyProof.Rows
section
def onD (x:D) (f:List (Key × D)->Prop) (g:List (List Key × D)->Prop):Prop:=match x with
 | .dK kvs=>f kvs
 | .dT kvs=>g kvs
 | _=>False
def tupD (y:D) (k:List D->Prop):Prop:=match y with
 | .tup ys=>k ys
 | _=>False
def gotG (o:Option D) (m n:Md) (z:D) (Q:Md->D->Prop):Prop:=match o with
 | some d=>Q (itm m d) d
 | none=>Q n z
def owdT (o:Option (Option Sl)) (k:List (List Key × D)->Prop):Prop:=match o with
 | some (some (.ow true (.dT kvs)))=>k kvs
 | _=>False
end
end L2.Q
namespace L2
open PySem PySem.Spec PyProof.Rows
end L2
namespace L2.Q
open PySem PySem.Spec PyProof.Rows
section
variable {K:PySem.W.Frag} {a b c:Expr}
def owdK (d:D) (k:List (Key × D)->Prop):Prop:=match d with
 | .dK kvs=>k kvs
 | _=>False
theorem SR.take {Hs H:Hp} {ρ:Env} {σ:St} {tot:List Addr} (i:Nat) {fl:Bool} {d:D} (s:SR K Hs H ρ σ tot):ρ[i]? = some (some (.ow fl d))->tot.Nodup ->
  ∃ (v:V) (As tot':List Addr),σ[i]? = some (some v)/\RepO K Hs H fl d v As/\As.Sublist tot/\tot'.Sublist tot/\(∀ a∈As,a∉tot')/\SR K Hs H (ρ.set i none) σ tot':=by
 induction s generalizing i with
 | nil=>intro e; simp at e
 | non q ih =>
  intro e n
  cases i with
  | zero=>simp at e
  | succ i =>
   obtain ⟨v,As,t,o,a,b,c,d,f⟩:=ih i e n
   exact ⟨v,As,t,o,a,b,c,d,.non f⟩
 | sh r q ih =>
  intro e n
  cases i with
  | zero=>simp at e
  | succ i =>
   obtain ⟨v,As,t,o,a,b,c,d,f⟩:=ih i e n
   exact ⟨v,As,t,o,a,b,c,d,.sh r f⟩
 | xc q ih =>
  intro e n
  cases i with
  | zero=>simp at e
  | succ i =>
   obtain ⟨v,As,t,o,a,b,c,d,f⟩:=ih i e n
   exact ⟨v,As,t,o,a,b,c,d,.xc f⟩
 | ow ne r q ih =>
  intro e n
  obtain ⟨n1,n2,n3⟩:=xar.mp n
  cases i with
  | zero =>
   simp at e
   obtain ⟨rfl,rfl⟩:=e
   exact ⟨_,_,_,rfl,r,xbb _ _,xav _ _,fun a h m=>n3 a h a m rfl,.non q⟩
  | succ i =>
   obtain ⟨v,As,t,o,a,b,c,d,f⟩:=ih i e n2
   exact ⟨v,As,_,o,a,b.trans (xav _ _),c.append_left _,mX n b d,.ow ne r f⟩
 | lk ne r q ih =>
  intro e n
  obtain ⟨n1,n2,n3⟩:=xar.mp n
  cases i with
  | zero=>simp at e
  | succ i =>
   obtain ⟨v,As,t,o,a,b,c,d,f⟩:=ih i e n2
   exact ⟨v,As,_,o,a,b.trans (xav _ _),c.append_left _,mX n b d,.lk ne r f⟩
theorem yF {o:Option (Option Sl)} {k:List D->Prop} (h:owl o k):∃ xs,o=some (some (.ow true (.list xs)))/\k xs:=by
 unfold owl at h
 split at h
 ·exact ⟨_,rfl,h⟩
 ·exact h.elim
theorem Ax {i j:Nat} (hij:i≠j) {Hs H:Hp} {ρ:Env} {σ:St} {tot:List Addr} {hs xs:List D} (sr:SRel K Hs ρ σ H tot) (ei:ρ[i]? = some (some (.ow true (.list hs)))) (ej:ρ[j]? = some (some (.ow true (.list xs))))
  (fl:flats xs=true) (hz1:hs.length<sizeLine) :
  ∃ a ws c vs tot2,σ[i]? = some (some (.ref a))/\H a=some (.lst ws)/\ws.length<sizeLine/\σ[j]? = some (some (.ref c))/\upd H a (.lst (ws++[.ref c])) c=some (.lst vs)/\Reps K Hs xs vs/\vs.length<=sizeLine /\
   SRel K Hs ((ρ.set j none).set i (some (.ow true (.list (hs++[.list xs]))))) σ (upd H a (.lst (ws++[.ref c]))) tot2:=by
 obtain ⟨v,As,tot',e1,r,sb,st,dj,s1⟩:=SR.take j sr.sr ej sr.nod
 have ei':(ρ.set j none)[i]? = some (some (.ow true (.list hs))):=by rw [xbA (Ne.symm hij)]; exact ei
 obtain ⟨u,Ai,_,e2,ne,ri,si,g⟩:=SR.put i s1 ei' (st.nodup sr.nod)
 cases r with
 | sh hf _=>exact absurd (hf rfl) (by simp [D.flat])
 | @list c vs _ B hz ec rs =>
  cases ri with
  | sh _ _=>exact absurd rfl ne
  | @list a ws _ A hw ea ra =>
   have hac:c≠a:=fun z=>dj c xad (si.subset (z ▸ xad))
   have nd1:=si.nodup (st.nodup sr.nod)
   obtain ⟨na,nA⟩:=xaH.mp nd1
   have ndj:=sb.nodup sr.nod
   have dA:∀ x∈c :: B,x∉a :: A:=fun x hx m=>dj x hx (si.subset m)
   have nB:∀ x∈c :: B,x≠a:=fun x hx z=>dA x hx (z ▸ xad)
   have hl:=ra.length
   have r3:RepO K Hs (upd H a (.lst (ws++[.ref c]))) true (.list (hs++[.list xs])) (.ref a) (a :: (A++((c :: B)++[]))):=by
    refine .list (by rw [xaU,<- hl]; exact hz1) upd_same ((ra.stay (H':=upd H a (.lst (ws++[.ref c]))) (Same.refl _) fun b hb=>upd_ne fun z=>na (by subst z; exact hb)).append (.cons (.list hz ((upd_ne hac).trans ec) (rs.stay (Same.refl _) fun b hb=>upd_ne (nB b (xab _ hb)))) .nil))
   obtain ⟨tot2,n2,i2,s2⟩:=g Hs _ true _ _ (Same.refl _) r3 (by simp) (xaH.mpr ⟨fun m=>(xai.mp m).elim na fun m=>nB a (by simpa using m) rfl,xar.mpr ⟨nA,by simpa using ndj,fun x hx y hy e=>dA y (by simpa using hy) (e ▸ xab _ hx)⟩⟩)
    (fun b hb m=>by
     rcases xak.mp hb with rfl | hb
     ·exact xad
     ·rcases xai.mp hb with hb | hb
      ·exact xab _ hb
      ·exact absurd m (dj b (by simpa using hb)))
    (fun b _ nb=>upd_ne fun z=>nb (z ▸ xad))
   have Ha:Hs a=none:=sr.own a (st.subset (si.subset xad))
   refine ⟨a,ws,c,vs,tot2,e2,ea,by lia,e1,(upd_ne hac).trans ec,(rs.reps sr.wf.sub fun _ _=>rfl).gn sr.wf.tups fl,hz,s2,ud sr.wf Ha (fun _ z=>nomatch z),n2,fun b hb=>?_⟩
   rcases i2 b hb with m | m
   ·exact sr.own b (st.subset m)
   ·rcases xak.mp m with rfl | m
    ·exact Ha
    ·rcases xai.mp m with m | m
     ·exact sr.own b (st.subset (si.subset (xab _ m)))
     ·exact sr.own b (sb.subset (by simpa using m))
end
end L2.Q
namespace L2.Q.R
open PySem PySem.Spec PyProof.Rows L2.Q
section
variable {ys:List L2.Q.D} {Q:Md->L2.Q.D->Prop} {k:Nat}
theorem Jd {kvs:List (Key × L2.Q.D)} {k:List (Key × L2.Q.D)->Prop}:owdK (.dK kvs) k=k kvs:=rfl
theorem Jl {kvs:List (Key × L2.Q.D)} {f:List (Key × L2.Q.D)->Prop} {g:List (List Key × L2.Q.D)->Prop}:onD (.dK kvs) f g=f kvs:=rfl
theorem Jr {kvs:List (List Key × L2.Q.D)} {f:List (Key × L2.Q.D)->Prop} {g:List (List Key × L2.Q.D)->Prop}:onD (.dT kvs) f g=g kvs:=rfl
theorem Ir {k:List L2.Q.D->Prop}:tupD (.tup ys) k=k ys:=rfl
theorem I_ {kvs:List (List Key × L2.Q.D)} {k:List (List Key × L2.Q.D)->Prop}:owdT (some (some (.ow true (.dT kvs)))) k=k kvs:=rfl
end
end L2.Q.R
namespace L2
open PySem PySem.Spec PyProof.Rows
end L2
namespace L2.Q
open PySem PySem.Spec PyProof.Rows
section
variable {K:PySem.W.Frag}
theorem qK:bootBuiltins "int" = some (.type "int"):=by decide +kernel
def fInt:W1:=fun _ x Q=>match x with
 | .int i=>Q .sh (.int i)
 | .bl b=>Q .sh (.int (if b then 1 else 0))
 | _=>False
theorem ur:BrC K (fun xs H Q=>(∃ i,xs=[.int i]/\Q (.int i) H)\/∃ k,xs=[.bl k]/\Q (.int (if k then 1 else 0)) H) fInt:=by
 intro Hs H m x v As Qd Qv w rx h f
 have r1:=rx.rep w
 cases r1 with
 | int i=>exact .inl ⟨i,rfl,f.sh w (.int _) h⟩
 | bl b=>exact .inr ⟨b,rfl,f.sh w (.int _) h⟩
 | _=>exact h.elim
end
end L2.Q
namespace L2.Q.R
open PySem PySem.Spec PyProof.Rows L2.Q
section
variable {m:Md} {Q:Md->L2.Q.D->Prop} {xs:List L2.Q.D} {k:List L2.Q.D->Prop}
def lstD (d:L2.Q.D) (k:List L2.Q.D->Prop):Prop:=match d with
 | .list xs=>k xs
 | _=>False
theorem Jc:lstD (.list xs) k=k xs:=rfl
theorem Hx {d z:L2.Q.D} {n:Md}:gotG (some d) m n z Q=Q (itm m d) d:=rfl
theorem HB {z:L2.Q.D} {n:Md}:gotG none m n z Q=Q n z:=rfl
theorem Hc {i:Int}:fInt m (.int i) Q=Q .sh (.int i):=rfl
theorem Hm {b:Bool}:fInt m (.bl b) Q=Q .sh (.int (if b then 1 else 0)):=rfl
end
end L2.Q.R
namespace PySem.SeqAt
open AutoSeq1 (wpAny_loadPart')
open MeetsSeq MeetsSeq2 MeetsSeq3 SeqRoads2
def LtAt (A:Around) (s:Shared) (u v:Value) (b:Bool):Prop:=∀ (prog:Program) (w:World) (Q:Value->Shared->Prop) (E:Value->Shared->Prop),Q (.bool b) s->wpAny (model prog w) A (richCompare .Lt u v) Q E s
def lexF (e f:Nat->Bool) (m n:Nat):Nat->Nat->Bool
 | 0,_=>decide (m<n)
 | k+1,i=>if e i then lexF e f m n k (i+1) else f i
theorem uN (l b:Addr) (items items2:Array Value) (n n2:Nat) (dd dd2:Option Addr) (sl sl2:Array (Option Value)) (e f:Nat->Bool) (k:Nat) :
  ∀ i:Nat,min items.size items2.size - i=k->i<=min items.size items2.size->Meets (Builtin.«list.__eq__.loop» ⟨[.ref l,.ref b,rawInt i,rawInt 0],[]⟩)
   (fun A R s=>s.heap.get? l=some { cls:=.type "list",dict:=dd,data:=.seq items n,slots:=sl }/\s.heap.get? b=some { cls:=.type "list",dict:=dd2,data:=.seq items2 n2,slots:=sl2 } /\
    (∀ j (h1:j<items.size) (h2:j<items2.size),EqAt A.in1 s items[j] items2[j] (e j))/\(∀ j (h1:j<items.size) (h2:j<items2.size),e j=false->LtAt A.in1 s items[j] items2[j] (f j)) /\
    R (.ok (.ret (.bool (lexF e f items.size items2.size k i)))) s):=by
 induction k with
 | zero =>
  intro i hk hle prog w A R s h
  obtain ⟨hp,g,d,tk,os⟩:=s; obtain ⟨hl,hb,he,hf,h⟩:=h
  wp_walk using wpAny_loadPart' hl,wpAny_loadPart' hb
  rcases (show items.size<=i\/items2.size<=i by lia) with z | z
  ·have hi1:items[((i:Nat):Int).toNat]? = none:=by simp; lia
   rw [hi1]
   wp_walk using wpAny_loadPart' hl,wpAny_loadPart' hb
   exact h
  ·have hi2:items2[((i:Nat):Int).toNat]? = none:=by simp; lia
   rw [hi2]
   cases items[((i:Nat):Int).toNat]? <;> wp_walk using wpAny_loadPart' hl,wpAny_loadPart' hb <;> exact h
 | succ k ih =>
  intro i hk hle prog w A R s h
  obtain ⟨hp,g,d,tk,os⟩:=s; obtain ⟨hl,hb,he,hf,h⟩:=h
  wp_walk using wpAny_loadPart' hl,wpAny_loadPart' hb
  have hlt:i<items.size:=by lia
  have hlt2:i<items2.size:=by lia
  have hi1:items[((i:Nat):Int).toNat]? = some items[i]:=by simp [hlt]
  have hi2:items2[((i:Nat):Int).toNat]? = some items2[i]:=by simp [hlt2]
  have hc:((i:Int)+1)=((i+1:Nat):Int):=by push_cast; rfl
  rw [hi1,hi2]
  refine xaa (he i hlt hlt2 prog w _ _ ?_)
  cases hb':e i with
  | true =>
   rw [lexF,hb',if_pos rfl] at h
   wp_walk
   rw [hc]
   exact ⟨plainId_quiet plain_eq_loop _,codeAny_builtin entry_eq_loop (by
    rw [Around.under_plainId plain_eq_loop _]
    exact ih (i+1) (by lia) (by lia) prog w A R _ ⟨hl,hb,he,hf,h⟩)⟩
  | false =>
   rw [lexF,hb',if_neg xap] at h
   wp_walk using wpAny_loadPart' hl,wpAny_loadPart' hb
   rw [hi1,hi2]
   refine xaa (hf i hlt hlt2 hb' prog w _ _ ?_)
   wp_walk
   exact h
theorem uY (l b:Addr) (items items2:Array Value) (n n2:Nat) (dd dd2:Option Addr) (sl sl2:Array (Option Value)) (e f:Nat->Bool) :
  Meets (Builtin.«list.__lt__» ⟨[.ref l,.ref b],[]⟩)
   (fun A R s=>s.heap.get? l=some { cls:=.type "list",dict:=dd,data:=.seq items n,slots:=sl }/\s.heap.get? b=some { cls:=.type "list",dict:=dd2,data:=.seq items2 n2,slots:=sl2 } /\
    (∀ j (h1:j<items.size) (h2:j<items2.size),EqAt A.in1 s items[j] items2[j] (e j))/\(∀ j (h1:j<items.size) (h2:j<items2.size),e j=false->LtAt A.in1 s items[j] items2[j] (f j)) /\
    R (.ok (.ret (.bool (lexF e f items.size items2.size (min items.size items2.size) 0)))) s):=by
 intro prog w A R s h
 obtain ⟨hp,g,d,tk,os⟩:=s; obtain ⟨hl,hb,he,hf,h⟩:=h
 have f3:=AutoSeq1.sub_list_list
 wp_walk using wpAny_loadPart' hl,wpAny_loadPart' hb
 exact ⟨plainId_quiet plain_eq_loop _,codeAny_builtin entry_eq_loop (by
  rw [Around.under_plainId plain_eq_loop _]
  exact uN l b items items2 n n2 dd dd2 sl sl2 e f _ 0 (Nat.sub_zero _) (xas _) prog w A R _ ⟨hl,hb,he,hf,h⟩)⟩
theorem sV (l b:Addr) (items items2:Array Value) (n n2:Nat) (dd dd2:Option Addr) (sl sl2:Array (Option Value)) (e f:Nat->Bool) :
  Meets (Builtin.«tuple.__lt__» ⟨[.ref l,.ref b],[]⟩)
   (fun A R s=>s.heap.get? l=some { cls:=.type "tuple",dict:=dd,data:=.seq items n,slots:=sl }/\s.heap.get? b=some { cls:=.type "tuple",dict:=dd2,data:=.seq items2 n2,slots:=sl2 } /\
    (∀ j (h1:j<items.size) (h2:j<items2.size),EqAt A.in1 s items[j] items2[j] (e j))/\(∀ j (h1:j<items.size) (h2:j<items2.size),e j=false->LtAt A.in1 s items[j] items2[j] (f j)) /\
    R (.ok (.ret (.bool (lexF e f items.size items2.size (min items.size items2.size) 0)))) s) :=
 .of_wp fun prog w A R s h=>by
  obtain ⟨hp,g,d,tk,os⟩:=s; obtain ⟨hl,hb,he,hf,h⟩:=h
  have f2:=AutoSeq1.sub_tuple_tuple
  have hZ:(items.toList.zip items2.toList).length=min items.size items2.size:=by simp
  wp_walk using wpAny_loadPart' hl,wpAny_loadPart' hb,wpAny_forIn_list _ (fun rest b s'=>b.1=none/\s'=⟨hp,g,d,tk,os⟩/\∃ i,rest=(items.toList.zip items2.toList).drop i/\i<=min items.size items2.size /\
   R (.ok (.ret (.bool (lexF e f items.size items2.size (min items.size items2.size - i) i)))) ⟨hp,g,d,tk,os⟩) _
  case turn =>
   rintro ⟨y,x⟩ rest b s' ⟨hb',rfl,i,hz,hi,hR⟩
   have hlt:i<(items.toList.zip items2.toList).length:=by
    rcases xbZ i (items.toList.zip items2.toList).length with h' | h'
    ·exact h'
    ·rw [xb5 h'] at hz; cases hz
   have hm:i<min items.size items2.size:=hZ ▸ hlt
   have h1:i<items.size:=xau hm (Nat.min_le_left _ _)
   have h2:i<items2.size:=xau hm (Nat.min_le_right _ _)
   rw [xaI hlt] at hz
   injection hz with hyx hrest
   have hy:y=items[i]:=by have:=congrArg Prod.fst hyx; simpa using this
   have hx:x=items2[i]:=by have:=congrArg Prod.snd hyx; simpa using this
   subst hy hx
   rw [show min items.size items2.size - i=(min items.size items2.size - (i+1))+1 by lia,lexF] at hR
   refine xaa (he i h1 h2 prog w _ _ ?_)
   cases hy:e i with
   | true =>
    rw [hy,if_pos rfl] at hR
    wp_walk
    exact ⟨rfl,rfl,i+1,hrest,hm,hR⟩
   | false =>
    rw [hy,if_neg xap] at hR
    simp only [Bool.not_false,if_true]
    refine xaa (wpAny_rule ?_)
    refine xaa (hf i h1 h2 hy prog w _ _ ?_)
    wp_walk
    exact ⟨_,rfl,hR⟩
  case fin =>
   rintro ⟨b1,b2⟩ s' ⟨hb',rfl,i,hz,hi,hR⟩
   simp only at hb'
   subst hb'
   have hge:min items.size items2.size<=i:=by
    rcases xbZ i (items.toList.zip items2.toList).length with h' | h'
    ·rw [xaI h'] at hz; cases hz
    ·exact hZ ▸ h'
   rw [show min items.size items2.size - i=0 by lia,lexF] at hR
   wp_walk
   exact ⟨_,rfl,by simpa [Builtin.Tuple.tupleCompareSizes] using hR⟩
  case h =>
   exact ⟨rfl,rfl,0,rfl,xas _,h⟩
section
variable {A:Around} {s:Shared}
theorem LtAt.tuples {l b:Addr} {items items2:Array Value} {e f:Nat->Bool} (hl:s.heap.IsTuple l items) (hb:s.heap.IsTuple b items2) (hu:A.units<cLine)
  (he:∀ j (h1:j<items.size) (h2:j<items2.size),EqAt A.in1 s items[j] items2[j] (e j)) (hf:∀ j (h1:j<items.size) (h2:j<items2.size),e j=false->LtAt A.in1 s items[j] items2[j] (f j)) :
  LtAt A s (.ref l) (.ref b) (lexF e f items.size items2.size (min items.size items2.size) 0):=fun prog w Q E h=>by
 obtain ⟨⟨cls,dd,data,sl⟩,ho,hc,n,hd⟩:=id hl
 obtain ⟨⟨cls2,dd2,data2,sl2⟩,ho2,hc2,n2,hd2⟩:=id hb
 simp only at hc hd hc2 hd2
 subst hc hd hc2 hd2
 exact richCompare_meets_room (op:=.Lt) ⟨_,ho,rfl⟩ ⟨_,ho2,rfl⟩ F.slot_tuple_lt F.entry_tuple_lt (F.args_tuple_lt_2 _ _) (sV l b items items2 n n2 dd dd2 sl sl2 e f)
  ⟨ho,ho2,he,hf,show Value.bool _≠Value.notImplemented/\Q (.bool _) s from ⟨(fun x=>nomatch x),h⟩⟩ hu
theorem LtAt.lists {l b:Addr} {items items2:Array Value} {e f:Nat->Bool} (hl:s.heap.IsList l items) (hb:s.heap.IsList b items2) (hu:A.units<cLine)
  (he:∀ j (h1:j<items.size) (h2:j<items2.size),EqAt A.in1 s items[j] items2[j] (e j)) (hf:∀ j (h1:j<items.size) (h2:j<items2.size),e j=false->LtAt A.in1 s items[j] items2[j] (f j)) :
  LtAt A s (.ref l) (.ref b) (lexF e f items.size items2.size (min items.size items2.size) 0):=fun prog w Q E h=>by
 obtain ⟨⟨cls,dd,data,sl⟩,ho,hc,n,hd⟩:=id hl
 obtain ⟨⟨cls2,dd2,data2,sl2⟩,ho2,hc2,n2,hd2⟩:=id hb
 simp only at hc hd hc2 hd2
 subst hc hd hc2 hd2
 exact richCompare_meets_room (op:=.Lt) ⟨_,ho,rfl⟩ ⟨_,ho2,rfl⟩ F.slot_list_lt F.entry_list_lt (F.args_list_lt_2 _ _) (uY l b items items2 n n2 dd dd2 sl sl2 e f)
  ⟨ho,ho2,he,hf,show Value.bool _≠Value.notImplemented/\Q (.bool _) s from ⟨(fun x=>nomatch x),h⟩⟩ hu
theorem LtAt.int (a:Int) (t:Tok) (b:Int) (u:Tok):LtAt A s (.int a t) (.int b u) (decide (a<b)):=fun prog w Q E h=>(show wpAny _ _ (compareOp .Lt _ _) _ _ _ from PyProof.Rows.lt_int h)
theorem LtAt.str (a:Str) (t:Tok) (b:Str) (u:Tok):LtAt A s (.str a t) (.str b u) (decide (a.cps.toList<b.cps.toList)):=fun prog w Q E h=>(show wpAny _ _ (compareOp .Lt _ _) _ _ _ from PySem.P.lt_str h)
end
def lexP (lt:PyData->PyData->Bool):List PyData->List PyData->Bool
 | [],ys=>!ys.isEmpty
 | _ :: _,[]=>false
 | x :: xs,y :: ys=>if PyData.eqv x y then lexP lt xs ys else lt x y
def ltP:Nat->PyData->PyData->Bool
 | _,.int i,.int j=>decide (i<j)
 | _,.str x,.str y=>decide (x.cps.toList<y.cps.toList)
 | n+1,.list xs,.list ys=>lexP (ltP n) xs ys
 | n+1,.tuple xs,.tuple ys=>lexP (ltP n) xs ys
 | _,_,_=>false
def CmP:Nat->PyData->PyData->Prop
 | _,.int _,.int _=>True
 | _,.str _,.str _=>True
 | n+1,.list xs,.list ys=>∀ (j:Nat) (x y:PyData),xs[j]? = some x->ys[j]? = some y->PyData.eqv x y=false->CmP n x y
 | n+1,.tuple xs,.tuple ys=>∀ (j:Nat) (x y:PyData),xs[j]? = some x->ys[j]? = some y->PyData.eqv x y=false->CmP n x y
 | _,_,_=>False
def at2 (g:PyData->PyData->Bool) (xs ys:List PyData) (j:Nat):Bool:=match xs[j]?,ys[j]? with
 | some x,some y=>g x y
 | _,_=>false
theorem kY {g:PyData->PyData->Bool} {xs ys:List PyData} {j:Nat} {x y:PyData} (hx:xs[j]? = some x) (hy:ys[j]? = some y):at2 g xs ys j=g x y:=by
 unfold at2
 rw [hx,hy]
theorem yX (lt:PyData->PyData->Bool) (xs ys:List PyData) (k:Nat):∀ i,min xs.length ys.length - i=k->i<=min xs.length ys.length->lexF (at2 PyData.eqv xs ys) (at2 lt xs ys) xs.length ys.length k i=lexP lt (xs.drop i) (ys.drop i):=by
 induction k with
 | zero =>
  intro i hk hi
  rw [lexF]
  rcases xbZ xs.length ys.length with z | z
  ·rw [decide_eq_true z,xb5 (show xs.length<=i by lia),xaI (show i<ys.length by lia)]
   rfl
  ·rw [decide_eq_false (by lia),xb5 (show ys.length<=i by lia)]
   cases xs.drop i <;> rfl
 | succ k ih =>
  intro i hk hi
  have h1:i<xs.length:=by lia
  have h2:i<ys.length:=by lia
  rw [lexF,kY (xam h1) (xam h2),kY (xam h1) (xam h2),ih (i+1) (by lia) (by lia),
   xaI h1,xaI h2,lexP]
theorem cQ {h:Heap} {xs:List PyData}:∀ {vs:List Value} {as:List Addr},ReadsAll h vs xs as->∀ (j:Nat) (v:Value),vs[j]? = some v->∃ x bs,xs[j]? = some x/\Reads h v x bs:=by
 induction xs with
 | nil =>
  intro vs as r j v hv
  cases r
  simp at hv
 | cons x xs ih =>
  intro vs as r j v hv
  cases r with
  | cons r rs =>
   cases j with
   | zero =>
    simp at hv
    subst hv
    exact ⟨x,_,rfl,r⟩
   | succ j=>exact ih rs j v (by simpa using hv)
theorem iB {xs:List PyData} (h:PyData.canLayAll0 xs=true) {j:Nat} {x:PyData} (hx:xs[j]? = some x):x.canLay0=true:=by
 induction xs generalizing j with
 | nil=>simp at hx
 | cons y xs ih =>
  have h:y.canLay0=true/\PyData.canLayAll0 xs=true:=by simpa [PyData.canLayAll0] using h
  cases j with
  | zero=>simp at hx; subst hx; exact h.1
  | succ j=>exact ih h.2 (by simpa using hx)
theorem lX {xs:List PyData} {j:Nat} {x:PyData} (hx:xs[j]? = some x):x.depth<=PyData.depthAll xs:=by
 induction xs generalizing j with
 | nil=>simp at hx
 | cons y xs ih =>
  simp only [PyData.depthAll]
  cases j with
  | zero=>simp at hx; subst hx; lia
  | succ j=>have:=ih (j:=j) (by simpa using hx); lia
theorem yp (n:Nat):∀ (d e:PyData) (A:Around) (s:Shared) (a b:Value) (as bs:List Addr),Reads s.heap a d as->Reads s.heap b e bs->d.canLay0=true->e.canLay0=true->CmP n d e->d.depth<=20->A.units+n+30<cLine->LtAt A s a b (ltP n d e):=by
 induction n with
 | zero =>
  intro d e A s a b as bs ra rb _ _ c _ _
  cases ra <;> cases rb <;> first | (rw [ltP]; exact LtAt.int _ _ _ _) | (rw [ltP]; exact LtAt.str _ _ _ _) | exact absurd c (by simp [CmP])
 | succ n ih =>
  intro d e A s a b as bs ra rb la lb c dd hu
  cases ra with
  | int i t=>cases rb <;> first | (rw [ltP]; exact LtAt.int _ _ _ _) | exact absurd c (by simp [CmP])
  | str x t=>cases rb <;> first | (rw [ltP]; exact LtAt.str _ _ _ _) | exact absurd c (by simp [CmP])
  | @list l o vs m xs as1 h1 h2 h3 h4 =>
   cases rb with
   | @list l' o' vs' m' ys bs1 k1 k2 k3 k4 =>
    have n1:vs.size=xs.length:=by simpa using ReadsAll.length _ _ _ h4
    have n2:vs'.size=ys.length:=by simpa using ReadsAll.length _ _ _ k4
    have at1:∀ j (h1:j<vs.size),∃ x cs,xs[j]? = some x/\Reads s.heap vs[j] x cs:=fun j hj=>cQ h4 j vs[j] (by simp [hj])
    have at2':∀ j (h1:j<vs'.size),∃ x cs,ys[j]? = some x/\Reads s.heap vs'[j] x cs:=fun j hj=>cQ k4 j vs'[j] (by simp [hj])
    have dx:PyData.depthAll xs<20:=by simp only [PyData.depth] at dd; lia
    have:=LtAt.lists (A:=A) (s:=s) (e:=at2 PyData.eqv xs ys) (f:=at2 (ltP n) xs ys) ⟨_,h1,h2,_,h3⟩ ⟨_,k1,k2,_,k3⟩ (by lia) (fun j j1 j2=>by
     obtain ⟨x,cs,ex,rx⟩:=at1 j j1
     obtain ⟨y,cs',ey,ry⟩:=at2' j j2
     rw [kY ex ey]
     have:=lX ex
     exact eqAt_reads x y A.in1 s _ _ _ _ rx ry (iB la ex) (iB lb ey) (by show A.units+1+_<cLine; lia)) (fun j j1 j2 ne=>by
     obtain ⟨x,cs,ex,rx⟩:=at1 j j1
     obtain ⟨y,cs',ey,ry⟩:=at2' j j2
     rw [kY ex ey] at ne ⊢
     have:=lX ex
     exact ih x y A.in1 s _ _ _ _ rx ry (iB la ex) (iB lb ey) (c j x y ex ey ne) (by lia) (by show A.units+1+n+30<cLine; lia))
    rw [n1,n2,yX (ltP n) xs ys _ 0 (Nat.sub_zero _) (xas _)] at this
    exact this
   | _=>exact absurd c (by simp [CmP])
  | @tuple l o vs m xs as1 h1 h2 h3 h4 =>
   cases rb with
   | @tuple l' o' vs' m' ys bs1 k1 k2 k3 k4 =>
    have n1:vs.size=xs.length:=by simpa using ReadsAll.length _ _ _ h4
    have n2:vs'.size=ys.length:=by simpa using ReadsAll.length _ _ _ k4
    have at1:∀ j (h1:j<vs.size),∃ x cs,xs[j]? = some x/\Reads s.heap vs[j] x cs:=fun j hj=>cQ h4 j vs[j] (by simp [hj])
    have at2':∀ j (h1:j<vs'.size),∃ x cs,ys[j]? = some x/\Reads s.heap vs'[j] x cs:=fun j hj=>cQ k4 j vs'[j] (by simp [hj])
    have dx:PyData.depthAll xs<20:=by simp only [PyData.depth] at dd; lia
    have:=LtAt.tuples (A:=A) (s:=s) (e:=at2 PyData.eqv xs ys) (f:=at2 (ltP n) xs ys) ⟨_,h1,h2,_,h3⟩ ⟨_,k1,k2,_,k3⟩ (by lia) (fun j j1 j2=>by
     obtain ⟨x,cs,ex,rx⟩:=at1 j j1
     obtain ⟨y,cs',ey,ry⟩:=at2' j j2
     rw [kY ex ey]
     have:=lX ex
     exact eqAt_reads x y A.in1 s _ _ _ _ rx ry (iB la ex) (iB lb ey) (by show A.units+1+_<cLine; lia)) (fun j j1 j2 ne=>by
     obtain ⟨x,cs,ex,rx⟩:=at1 j j1
     obtain ⟨y,cs',ey,ry⟩:=at2' j j2
     rw [kY ex ey] at ne ⊢
     have:=lX ex
     exact ih x y A.in1 s _ _ _ _ rx ry (iB la ex) (iB lb ey) (c j x y ex ey ne) (by lia) (by show A.units+1+n+30<cLine; lia))
    rw [n1,n2,yX (ltP n) xs ys _ 0 (Nat.sub_zero _) (xas _)] at this
    exact this
   | _=>exact absurd c (by simp [CmP])
  | _=>cases rb <;> exact absurd c (by simp [CmP])
end PySem.SeqAt
namespace L2
open PySem PySem.Spec PyProof.Rows PySem.SeqAt
structure Tot (lt:PyData->PyData->Bool) (S:PyData->Prop):Prop where
 irr:∀ x,S x->lt x x=false
 tr:∀ x y z,S x->S y->S z->lt x y=true->lt y z=true->lt x z=true
 tot:∀ x y,S x->S y->lt x y=false->lt y x=false->x=y
 eqv:∀ x y,S x->S y->(PyData.eqv x y=true↔x=y)
theorem Tot.int (n:Nat):Tot (ltP n) fun x=>∃ i,x=.int i where
 irr:=by rintro x ⟨i,rfl⟩; rw [ltP]; simp
 tr:=by rintro x y z ⟨i,rfl⟩ ⟨j,rfl⟩ ⟨k,rfl⟩; rw [ltP,ltP,ltP]; simp only [decide_eq_true_eq]; lia
 tot:=by rintro x y ⟨i,rfl⟩ ⟨j,rfl⟩; rw [ltP,ltP]; simp only [decide_eq_false_iff_not,PyData.int.injEq]; lia
 eqv:=by rintro x y ⟨i,rfl⟩ ⟨j,rfl⟩; simp [PyData.eqv]
theorem Tot.str (n:Nat):Tot (ltP n) fun x=>∃ s,x=.str s where
 irr:=by rintro x ⟨i,rfl⟩; rw [ltP]; exact vI i
 tr:=by rintro x y z ⟨i,rfl⟩ ⟨j,rfl⟩ ⟨k,rfl⟩; rw [ltP,ltP,ltP]; exact fun h g=>yD (y:=j) h g
 tot:=by rintro x y ⟨i,rfl⟩ ⟨j,rfl⟩; rw [ltP,ltP]; exact fun h g=>by rw [uI (x:=i) (y:=j) h g]
 eqv:=by rintro x y ⟨i,rfl⟩ ⟨j,rfl⟩; simp [PyData.eqv]
section
variable {lt:PyData->PyData->Bool} {S:PyData->Prop}
theorem xJ (T:Tot lt S) (xs:List PyData) (h:∀ x∈xs,S x):lexP lt xs xs=false:=by
 induction xs with
 | nil=>rfl
 | cons x xs ih =>
  rw [lexP,if_pos ((T.eqv x x (h x xad) (h x xad)).mpr rfl)]
  exact ih fun y hy=>h y (xab _ hy)
open Classical in
theorem cA (T:Tot lt S) {x y:PyData} {xs ys:List PyData} (hx:S x) (hy:S y):lexP lt (x :: xs) (y :: ys)=if x=y then lexP lt xs ys else lt x y:=by
 rw [lexP]
 by_cases e:x=y
 ·rw [if_pos e,if_pos ((T.eqv x y hx hy).mpr e)]
 ·rw [if_neg e,if_neg fun z=>e ((T.eqv x y hx hy).mp z)]
theorem wM (T:Tot lt S) (xs:List PyData):∀ ys:List PyData,(∀ x∈xs,S x)->(∀ y∈ys,S y)->lexP lt xs ys=false->lexP lt ys xs=false->xs=ys:=by
 induction xs with
 | nil =>
  intro ys _ _ h _
  cases ys with
  | nil=>rfl
  | cons y ys=>cases h
 | cons x xs ih =>
  intro ys hx hy h1 h2
  cases ys with
  | nil=>cases h2
  | cons y ys =>
   have sx:=hx x xad
   have sy:=hy y xad
   rw [cA T sx sy] at h1
   rw [cA T sy sx] at h2
   by_cases e:x=y
   ·subst e
    rw [if_pos rfl] at h1 h2
    rw [ih ys (fun z hz=>hx z (xab _ hz)) (fun z hz=>hy z (xab _ hz)) h1 h2]
   ·rw [if_neg e] at h1
    rw [if_neg fun z=>e z.symm] at h2
    exact absurd (T.tot x y sx sy h1 h2) e
theorem Ad (T:Tot lt S) (xs:List PyData):∀ ys zs:List PyData,(∀ x∈xs,S x)->(∀ y∈ys,S y)->(∀ z∈zs,S z)->lexP lt xs ys=true->lexP lt ys zs=true->lexP lt xs zs=true:=by
 induction xs with
 | nil =>
  intro ys zs _ _ _ h1 h2
  cases zs with
  | cons z zs=>rfl
  | nil =>
   cases ys with
   | nil=>cases h1
   | cons y ys=>cases h2
 | cons x xs ih =>
  intro ys zs hx hy hz h1 h2
  cases ys with
  | nil=>cases h1
  | cons y ys =>
   cases zs with
   | nil=>cases h2
   | cons z zs =>
    have sx:=hx x xad
    have sy:=hy y xad
    have sz:=hz z xad
    rw [cA T sx sy] at h1
    rw [cA T sy sz] at h2
    rw [cA T sx sz]
    have tl:=ih ys zs (fun z hz=>hx z (xab _ hz)) (fun z hz=>hy z (xab _ hz)) fun w hw=>hz w (xab _ hw)
    by_cases e1:x=y
    ·subst e1
     rw [if_pos rfl] at h1
     by_cases e2:x=z
     ·subst e2
      rw [if_pos rfl] at h2 ⊢
      exact tl h1 h2
     ·rw [if_neg e2] at h2 ⊢
      exact h2
    ·rw [if_neg e1] at h1
     by_cases e2:y=z
     ·subst e2
      rw [if_neg e1]
      exact h1
     ·rw [if_neg e2] at h2
      have t:=T.tr x y z sx sy sz h1 h2
      by_cases e3:x=z
      ·subst e3
       rw [T.irr x sx] at t
       cases t
      ·rw [if_neg e3]; exact t
theorem rF (T:Tot lt S) (xs:List PyData):∀ ys:List PyData,(∀ x∈xs,S x)->(∀ y∈ys,S y)->(PyData.eqvAll xs ys=true↔xs=ys):=by
 induction xs with
 | nil=>intro ys _ _; cases ys <;> simp [PyData.eqvAll]
 | cons x xs ih =>
  intro ys hx hy
  cases ys with
  | nil=>simp [PyData.eqvAll]
  | cons y ys =>
   have h1:=T.eqv x y (hx x xad) (hy y xad)
   have h2:=ih ys (fun z hz=>hx z (xab _ hz)) fun z hz=>hy z (xab _ hz)
   simp only [PyData.eqvAll,xaB,List.cons.injEq]
   exact and_congr h1 h2
end
theorem Tot.list {n:Nat} {S:PyData->Prop} (T:Tot (ltP n) S):Tot (ltP (n+1)) fun x=>∃ xs,x=.list xs/\∀ y∈xs,S y where
 irr:=by rintro x ⟨xs,rfl,h⟩; rw [ltP]; exact xJ T xs h
 tr:=by rintro x y z ⟨xs,rfl,h⟩ ⟨ys,rfl,h'⟩ ⟨zs,rfl,h''⟩; rw [ltP,ltP,ltP]; exact Ad T xs ys zs h h' h''
 tot:=by
  rintro x y ⟨xs,rfl,h⟩ ⟨ys,rfl,h'⟩
  rw [ltP,ltP]
  exact fun h1 h2=>by rw [wM T xs ys h h' h1 h2]
 eqv:=by
  rintro x y ⟨xs,rfl,h⟩ ⟨ys,rfl,h'⟩
  rw [PyData.list.injEq]
  exact rF T xs ys h h'
open Classical in
theorem cz {n:Nat} {S U:PyData->Prop} (T:Tot (ltP n) S) (T2:Tot (ltP n) U) {a b c d:PyData} (ha:S a) (hb:U b) (hc:S c) (hd:U d):lexP (ltP n) [a,b] [c,d]=if a=c then ltP n b d else ltP n a c:=by
 rw [cA T ha hc,cA T2 hb hd]
 by_cases e:b=d
 ·subst e
  rw [if_pos rfl,show lexP (ltP n) [] []=false from rfl,T2.irr b hb]
 ·rw [if_neg e]
theorem Tot.pair {n:Nat} {S U:PyData->Prop} (T:Tot (ltP n) S) (T2:Tot (ltP n) U):Tot (ltP (n+1)) fun x=>∃ a b,x=.tuple [a,b]/\S a/\U b where
 irr:=by rintro x ⟨a,b,rfl,ha,hb⟩; rw [ltP,cz T T2 ha hb ha hb,if_pos rfl]; exact T2.irr b hb
 tr:=by
  rintro x y z ⟨a,b,rfl,ha,hb⟩ ⟨c,d,rfl,hc,hd⟩ ⟨e,f,rfl,he,hf⟩
  rw [ltP,ltP,ltP,cz T T2 ha hb hc hd,cz T T2 hc hd he hf,cz T T2 ha hb he hf]
  intro h1 h2
  by_cases e1:a=c
  ·subst e1
   rw [if_pos rfl] at h1
   by_cases e2:a=e
   ·subst e2
    rw [if_pos rfl] at h2 ⊢
    exact T2.tr b d f hb hd hf h1 h2
   ·rw [if_neg e2] at h2 ⊢
    exact h2
  ·rw [if_neg e1] at h1
   by_cases e2:c=e
   ·subst e2
    rw [if_neg e1]; exact h1
   ·rw [if_neg e2] at h2
    have t:=T.tr a c e ha hc he h1 h2
    by_cases e3:a=e
    ·subst e3
     rw [T.irr a ha] at t; cases t
    ·rw [if_neg e3]; exact t
 tot:=by
  rintro x y ⟨a,b,rfl,ha,hb⟩ ⟨c,d,rfl,hc,hd⟩
  rw [ltP,ltP,cz T T2 ha hb hc hd,cz T T2 hc hd ha hb]
  intro h1 h2
  by_cases e:a=c
  ·subst e
   rw [if_pos rfl] at h1 h2
   rw [T2.tot b d hb hd h1 h2]
  ·rw [if_neg e] at h1
   rw [if_neg fun z=>e z.symm] at h2
   exact absurd (T.tot a c ha hc h1 h2) e
 eqv:=by
  rintro x y ⟨a,b,rfl,ha,hb⟩ ⟨c,d,rfl,hc,hd⟩
  have h1:=T.eqv a c ha hc
  have h2:=T2.eqv b d hb hd
  simp only [PyData.eqv,PyData.eqvAll,xaB,xcp,PyData.tuple.injEq,List.cons.injEq,and_true]
  exact and_congr h1 h2
section
variable {prog:Program} {w:World} {A:Around} {E:Value->Shared->Prop} {s:Shared} {Q:Bool->Shared->Prop}
theorem xK {n:Nat} (xs:List PyData):∀ (ys:List PyData) (us vs:List Value) (as bs:List Addr) (i:Nat),ReadsAll s.heap us xs as->ReadsAll s.heap vs ys bs->PyData.canLayAll0 xs=true->PyData.canLayAll0 ys=true->PyData.depthAll xs<=20 ->
  (∀ (j:Nat) (x y:PyData),xs[j]? = some x->ys[j]? = some y->PyData.eqv x y=false->CmP n x y)->(i=0->∀ x y,xs[0]? = some x->ys[0]? = some y->(∃ k,x=.int k)/\∃ k,y=.int k)->xs.length=ys.length->A.units+n+30<cLine->Q (lexP (ltP n) xs ys) s ->
  PySem.W.KatLex prog w A true false Q (us.zip vs) i s:=by
 induction xs with
 | nil =>
  intro ys us vs as bs i ra rb _ _ _ _ _ hl _ q
  cases ys with
  | cons y ys=>cases hl
  | nil =>
   cases ra
   exact PySem.W.kat_nil q
 | cons x xs ih =>
  intro ys us vs as bs i ra rb la lb dp c hi hl hu q
  cases ys with
  | nil=>cases hl
  | cons y ys =>
   cases ra with
   | cons r rs =>
    cases rb with
    | cons r' rs' =>
     have la':x.canLay0=true/\PyData.canLayAll0 xs=true:=by simpa [PyData.canLayAll0] using la
     have lb':y.canLay0=true/\PyData.canLayAll0 ys=true:=by simpa [PyData.canLayAll0] using lb
     have dp':x.depth<=20/\PyData.depthAll xs<=20:=by simp only [PyData.depthAll] at dp; lia
     rw [xa4]
     rw [lexP] at q
     refine PySem.W.kat_cons (eqAt_reads x y A s _ _ _ _ r r' la'.1 lb'.1 (by lia) prog w _ _ (PySem.W.kat_go (fun h=>PySem.W.kat_yes ?_) (fun h=>PySem.W.kat_no ?_)))
     ·rw [if_pos h] at q
      exact ih ys _ _ _ _ (i+1) rs rs' la'.2 lb'.2 dp'.2 (fun j=>c (j+1)) (fun z=>by lia) (by simpa using hl) hu q
     ·rw [if_neg (by rw [h]; exact xap)] at q
      by_cases h0:i=0
      ·obtain ⟨⟨a,rfl⟩,⟨b,rfl⟩⟩:=hi h0 x y rfl rfl
       subst h0
       cases r
       cases r'
       rw [ltP] at q
       exact oneLt_int q
      ·rw [show (true && i == 0)=false by simp [h0]]
       exact PySem.W.kat_one _ _ (yp n x y A s _ _ _ _ r r' la'.1 lb'.1 (c 0 x y rfl rfl h) dp'.1 (by lia) prog w _ _ q)
structure KeyS (n:Nat) (S:PyData->Prop):Prop where
 tot:Tot (ltP (n+1)) S
 tup:∀ x,S x->∃ i xs,x=.tuple (.int i :: xs)/\x.canLay0=true/\x.depth<=20
 len:∀ xs ys,S (.tuple xs)->S (.tuple ys)->xs.length=ys.length
 cm:∀ x y,S x->S y->CmP (n+1) x y
open Classical in
def jD (h:Heap) (v:Value):PyData:=if z:∃ d as,Reads h v d as/\d.canLay0=true then z.choose else .none
theorem eU {h:Heap} {v:Value} {d:PyData} {as:List Addr} (r:Reads h v d as) (l:d.canLay0=true):jD h v=d:=by
 have z:∃ d as,Reads h v d as/\d.canLay0=true:=⟨d,as,r,l⟩
 unfold jD
 rw [dif_pos z]
 obtain ⟨bs,r2,l2⟩:=z.choose_spec
 exact Reads.unique _ _ _ _ _ l2 r2 r
def rkP (n:Nat) (L:List PyData) (d:PyData):Int:=(L.countP fun e=>ltP n e d:Nat)
theorem yC {n:Nat} {S:PyData->Prop} (T:Tot (ltP n) S) {L:List PyData} (hL:∀ d∈L,S d) {a b:PyData} (ha:a∈L) (hb:S b):decide (rkP n L a<rkP n L b)=ltP n a b:=by
 have sa:=hL a ha
 unfold rkP
 cases h:ltP n a b with
 | true =>
  have:=mj (fun j=>ltP n j a) (fun j=>ltP n j b) a (T.irr a sa) h L ha fun x hx z=>T.tr x a b (hL x hx) sa hb z h
  exact decide_eq_true (by lia)
 | false =>
  refine decide_eq_false ?_
  cases g:ltP n b a with
  | false =>
   rw [T.tot a b sa hb h g]
   lia
  | true =>
   have:=count_le (fun j=>ltP n j b) (fun j=>ltP n j a) L fun x hx z=>T.tr x b a (hL x hx) hb sa z g
   lia
theorem xr {n:Nat} {S:PyData->Prop} (K:KeyS n S) {h0:Heap} (kp:∀ b o,h0.get? b=some o->s.heap.get? b=some o) {L:List PyData} (hL:∀ d∈L,S d) (hu:A.units+n+31<cLine) :
  Tim.Cmp prog w A s (tuples' true) (fun v=>rkP (n+1) L (jD h0 v)) (fun v=>∃ d as,d∈L/\Reads h0 v d as):=by
 rintro x y ⟨d,as,md,rd⟩ ⟨e,bs,me,re⟩ Q E q
 have sd:=hL d md
 have se:=hL e me
 obtain ⟨i,xs,rfl,ld,dd⟩:=K.tup d sd
 obtain ⟨j,ys,rfl,le,de⟩:=K.tup e se
 replace q:Q (decide (rkP (n+1) L (jD h0 x)<rkP (n+1) L (jD h0 y))) s:=q
 rw [eU rd ld,eU re le,yC K.tot hL md se,ltP] at q
 have rd':=PyProof.Rows.Reads.keeps kp rd
 have re':=PyProof.Rows.Reads.keeps kp re
 have cm:=K.cm _ _ sd se
 have hl:=K.len _ _ sd se
 cases rd' with
 | @tuple a o us m _ as1 h1 h2 h3 h4 =>
  cases re' with
  | @tuple b o' vs m' _ bs1 k1 k2 k3 k4 =>
   have n1:us.size=(PyData.int i :: xs).length:=by simpa using ReadsAll.length _ _ _ h4
   have n2:vs.size=(PyData.int j :: ys).length:=by simpa using ReadsAll.length _ _ _ k4
   refine PySem.W.kat_lt h1 h3 k1 k3 ?_
   rw [show decide (us.size<vs.size)=false from decide_eq_false (by lia)]
   exact xK (n:=n) _ _ _ _ _ _ 0 h4 k4 ld le (by simp only [PyData.depth] at dd; lia) cm (fun _ x y hx hy=>by cases hx; cases hy; exact ⟨⟨_,rfl⟩,_,rfl⟩) hl (by lia) q
end
section
variable {X:Cx} {pins:List (Addr × Obj)} {σ:St} {H:Hp} {s:Shared}
theorem uB (I:Inv X pins σ H s):∀ {ds:List PyData} {ys:List V} {vs:List Value},Reps X.K H ds ys->Vals ys vs->∀ v∈vs,∃ d y as,d∈ds/\Rep X.K H d y/\RelV y v/\Reads s.heap v d as
 | _,_,_,.nil,.nil,v,hv=>nomatch hv
 | _,_,_,.cons r rs,.cons q qs,v,hv=>by
  rcases xak.mp hv with rfl | hv
  ·obtain ⟨as,z⟩:=r.reads I q
   exact ⟨_,_,as,xad,r,q,z⟩
  ·obtain ⟨d,y,as,a,b,c,z⟩:=uB I rs qs v hv
   exact ⟨d,y,as,xab _ a,b,c,z⟩
theorem qF {h0:Heap} {n:Nat} {S:PyData->Prop} (K:KeyS n S):∀ (vs:List Value),(∀ v∈vs,∃ d as,S d/\Reads h0 v d as)->∃ fs:List Value,PySem.W.KatTups h0 vs fs/\fs.length=vs.length/\∀ f∈fs,∃ i t,f=Value.int i t
 | [],_=>⟨[],.nil,rfl,fun f hf=>nomatch hf⟩
 | v :: vs,h=>by
  obtain ⟨fs,f1,f2,f3⟩:=qF K vs fun u hu=>h u (xab _ hu)
  obtain ⟨d,as,sd,r⟩:=h v xad
  obtain ⟨i,xs,rfl,_,_⟩:=K.tup d sd
  cases r with
  | @tuple a o us m _ as1 h1 h2 h3 h4 =>
   obtain ⟨us⟩:=us
   cases h4 with
   | cons r rs =>
    cases r with
    | int _ t =>
     exact ⟨_ :: fs,.cons h1 h2 h3 rfl f1,by simp [f2],fun f hf=>by
      rcases xak.mp hf with rfl | hf
      ·exact ⟨_,_,rfl⟩
      ·exact f3 f hf⟩
def refV:Value->V
 | .ref a=>.ref a
 | _=>.non
theorem vW {n:Nat} {S:PyData->Prop} (K:KeyS n S) {h0:Heap} {d:PyData} {y:V} {v:Value} {as:List Addr} (sd:S d) (q:RelV y v) (r:Reads h0 v d as):refV v=y:=by
 obtain ⟨i,xs,rfl,_,_⟩:=K.tup d sd
 cases r with
 | tuple h1 h2 h3 h4 =>
  cases y with
  | ref b=>cases (show Value.ref _=Value.ref b from q); rfl
  | _=>simp [RelV] at q
theorem qu {n:Nat} {S:PyData->Prop} (K:KeyS n S) (I:Inv X pins σ H s):∀ {ds:List PyData} {ys:List V} {vs:List Value},Reps X.K H ds ys->Vals ys vs->(∀ d∈ds,S d)->vs.map (fun v=>(jD s.heap v,refV v))=ds.zip ys
 | _,_,_,.nil,.nil,_=>rfl
 | _,_,_,.cons r rs,.cons q qs,h=>by
  obtain ⟨as,z⟩:=r.reads I q
  have sd:=h _ xad
  obtain ⟨_,_,_,l,_⟩:=K.tup _ sd
  rw [xat,eU z l,vW K sd q z,qu K I rs qs fun d hd=>h d (xab _ hd),xa4]
def jV (K:PySem.W.Frag) (n:Nat) (S:PyData->Prop):List V->Hp->VK->Prop:=fun xs H Q=>match xs with
 | [.ref p]=>∃ ys ds,SqL K H p ys/\Reps K H ds ys/\(∀ d∈ds,S d)/\∀ (ps:List (PyData × V)) l,ps.Perm (ds.zip ys)->(ps.Pairwise fun a b=>ltP (n+1) b.1 a.1=false)->H l=none->Q (.ref l) (upd H l (.lst (ps.map (·.2))))
 | _=>False
theorem rK {n:Nat} {S:PyData->Prop} (K:KeyS n S) (hu:X.A.units+n+40<cLine):CallR X (.builtin "sorted") (jV X.K n S):=by
 intro pins s σ H xs us Q I r h
 unfold jV at h
 split at h
 ·rename_i p
  obtain ⟨ys,ds,hl,hr,hS,q⟩:=h
  obtain ⟨u,rfl,ru⟩:=Vals.one r
  cases ru
  obtain ⟨vs,rv,pl,hz⟩:=I.list hl
  have lay:∀ d∈ds,d.canLay0=true:=fun d hd=>by obtain ⟨_,_,_,l,_⟩:=K.tup d (hS d hd); exact l
  have mem:=uB I hr rv
  have hlen:=rv.length
  refine Tim.uh (κ:=tuples' true) (r:=fun v=>rkP (n+1) ds (jD s.heap v)) (P:=fun v=>∃ d as,d∈ds/\Reads s.heap v d as) pl.isList (by lia) (fun v hv=>?_) (fun h2 A' E' s' kp Q' q'=>?_) (fun h2 s' kp=>xr K kp hS (by show X.A.units+1+1+n+31<cLine; lia)) fun h' out m pm pw kp eo=>?_
  ·obtain ⟨d,y,as,a,b,c,z⟩:=mem v hv
   exact ⟨d,as,a,z⟩
  ·obtain ⟨fs,f1,f2,f3⟩:=qF (h0:=s'.heap) K vs fun v hv=>by
    obtain ⟨d,y,as,a,b,c,z⟩:=mem v hv
    exact ⟨d,as,hS d a,PyProof.Rows.Reads.keeps kp z⟩
   refine PySem.W.kat_kind (T:=.type "int") f1 (by lia) (fun f hf=>?_) (by decide) q'
   obtain ⟨i,t,rfl⟩:=f3 f hf
   exact .now
  ·have back:∀ v∈out,∃ d y as,d∈ds/\Rep X.K H d y/\RelV y v/\Reads s.heap v d as:=fun v hv=>mem v (pm.mem_iff.mp hv)
   have rel:∀ l:List Value,(∀ v∈l,v∈out)->Vals (l.map refV) l:=by
    intro l
    induction l with
    | nil=>exact fun _=>.nil
    | cons v l ih =>
     intro hm
     obtain ⟨d,y,as,a,b,c,z⟩:=back v (hm v xad)
     exact .cons (by rw [vW K (hS d a) c z]; exact c) (ih fun u hu=>hm u (xab _ hu))
   have z2:=rel out fun _ h=>h
   have ol:=pm.length_eq
   have e2:(out.map fun v=>(jD s.heap v,refV v)).map (·.2)=out.map refV:=by rw [xaJ]; rfl
   have q':=q (out.map fun v=>(jD s.heap v,refV v)) (s.heap.objs.size+1) (by rw [<- qu K I hr rv hS]; exact pm.map _) ?_ (I.hok.fresh (Nat.le_succ _))
   ·rw [e2] at q'
    exact ⟨.ref (s.heap.objs.size+1),_,I.laid (a:=s.heap.objs.size+1) (t':=s.toks) kp (Nat.le_succ _) (show ObjOk X.prog X.w _ h' _ (.lst (out.map refV)) from ⟨by rw [xag]; lia,out,m,z2,eo⟩),rfl,q'⟩
   rw [xaL]
   refine pw.imp_of_mem fun {x y} mx my hle=>?_
   obtain ⟨d,_,as,md,_,_,rd⟩:=back x mx
   obtain ⟨e,_,bs,me,_,_,re⟩:=back y my
   rw [eU rd (lay d md),eU re (lay e me)] at *
   have:=yC K.tot hS me (hS d md)
   rw [<- this]
   exact decide_eq_false (by lia)
 ·exact h.elim
end
end L2
namespace L2.Q
open PySem PySem.Spec PyProof.Rows PySem.SeqAt
section
variable {X:Cx} {K:PySem.W.Frag} {Hs H:Hp}
theorem gU (xs:List D):pys xs=xs.map D.py:=by
 induction xs with
 | nil=>rfl
 | cons x xs ih=>rw [pys,ih]; rfl
theorem ym {xs:List D}:∀ {vs:List V},Reps K H xs vs->∀ p∈xs.zip vs,Rep K H p.1 p.2:=by
 induction xs with
 | nil=>intro vs r p hp; simp at hp
 | cons x xs ih =>
  intro vs r p hp
  obtain ⟨u,us,rfl,r1,rs⟩:=r.c
  rw [xa4] at hp
  rcases xak.mp hp with rfl | hp
  ·exact r1
  ·exact ih rs p hp
theorem tM (l:List (D × V)) (h:∀ p∈l,Rep K H p.1 p.2):Reps K H (l.map (·.1)) (l.map (·.2)):=by
 induction l with
 | nil=>exact .nil
 | cons p l ih=>exact .cons (h p xad) (ih fun q hq=>h q (xab _ hq))
def yz (n:Nat) (S:PyData->Prop):W1:=fun m x Q=>match x with
 | .list xs=>m=.sh/\(∀ d∈xs,okD 12 d=true/\S d.py)/\∀ ms:List D,ms.Perm xs->(ms.Pairwise fun a b=>ltP (n+1) b.py a.py=false)->Q (.ow false) (.list ms)
 | _=>False
theorem yf {n:Nat} {S:PyData->Prop}:BrC K (jV K n S) (yz n S):=by
 intro Hs H m x v As Qd Qv w rx h f
 have r1:=rx.rep w
 cases r1 with
 | @list _ _ xs' z s q =>
  obtain ⟨rfl,hS,h⟩:=h
  obtain ⟨_,rx⟩:=rx
  cases rx with
  | @list _ vs' _ z' s' q' =>
   have hl:=q'.length
   have ez:(pys xs').zip vs'=(xs'.zip vs').map fun p=>(p.1.py,p.2):=by
    rw [gU,List.zip_map_left]
    rfl
   refine ⟨_,pys xs',Same.seq w.sub s',Rep.l22.2 (q'.same w.sub) 12 fun d hd=>(hS d hd).1,fun d hd=>?_,fun ps l hp hw hn=>?_⟩
   ·rw [gU] at hd
    obtain ⟨e,he,rfl⟩:=xaj.mp hd
    exact (hS e he).2
   ·obtain ⟨m',rfl,pm⟩:=TS.ik hp ez
    have p1:(m'.map (·.1)).Perm xs':=by
     have:=pm.map (·.1)
     rwa [xb9 (xcg hl)] at this
    have rr:=tM (K:=K) (H:=Hs) m' fun p hp=>ym q' p (pm.mem_iff.mp hp)
    rw [show (m'.map fun p=>(p.1.py,p.2)).map (·.2)=m'.map (·.2) by rw [xaJ]; rfl]
    refine f.lstS w (by rw [p1.length_eq]; lia) rr (h _ p1 ?_) l hn
    rw [xaL] at hw ⊢
    exact hw
 | _=>exact h.elim
theorem BW {n:Nat} {S:PyData->Prop} (KS:KeyS n S) (hu:X.A.units+n+40<cLine) (hK:X.K=K:=by rfl):CallR X (.builtin "sorted") (jV K n S):=by subst hK; exact rK KS hu
end
end L2.Q
namespace L2
open PySem PySem.Spec PyProof.Rows PySem.SeqAt
section
variable {X:Cx}
def zj (K:PySem.W.Frag):V->List V->Hp->VK->Prop:=fun x xs H Q=>∃ l ys ds y d,∃ j:Nat,x=.ref l/\xs=[y]/\SqL K H l ys/\Reps K H ds ys/\Rep K H d y/\(∀ e∈ds,e.canLay0=true/\e.depth<=20)/\d.canLay0=true /\
 (∃ e,ds[j]? = some e/\PyData.eqv e d=true)/\(∀ (m:Nat) e,m<j->ds[m]? = some e->PyData.eqv e d=false)/\Q (.int j) H
theorem xm (hu:X.A.units+64<cLine):MtR X "list.index" (zj X.K):=by
 intro pins s σ H x vs v us Q I rx rv h
 obtain ⟨l,ys,ds,y,d,j,rfl,rfl,hl,hr,hd,hS,ld,⟨e,ej,eq⟩,hno,q⟩:=h
 cases rx
 obtain ⟨u,rfl,ru⟩:=Vals.one rv
 obtain ⟨its,rv',pl,hz⟩:=I.list hl
 obtain ⟨as,rd⟩:=hd.reads I ru
 obtain ⟨bs,ra⟩:=Reps.reads I hr rv'
 have len:its.length=ds.length:=ReadsAll.length _ _ _ ra
 have at':∀ (m:Nat) (v:Value),its[m]? = some v->∃ e cs,ds[m]? = some e/\Reads s.heap v e cs/\jD s.heap v=e:=fun m v hv=>by
  obtain ⟨e,cs,h1,h2⟩:=cQ ra m v hv
  exact ⟨e,cs,h1,h2,eU h2 (hS e (xaC h1)).1⟩
 have jl:j<ds.length:=(xal.mp ej).1
 have jl':j<its.toArray.size:=by rw [xaz]; lia
 have zs:sizeLine<2 ^ 62:=by rw [sizeLine_eq]; decide
 have hlen:=rv'.length
 obtain ⟨⟨cls,dd,data,sl⟩,ho,hc,n,hdt⟩:=id pl.isList
 simp only at hc hdt
 subst hc hdt
 refine call_meets F.slot_list_index ⟨_,ho,rfl⟩ F.entry_list_index (F.args_list_index_2 _ _) (list_indexAt l its.toArray n dd sl u (fun v=>PyData.eqv (jD s.heap v) d) j jl' (by lia) ?_ fun m hm h'=>?_) ⟨ho,fun v hv=>?_,⟨.int j,H,I.tok _,⟨_,rfl⟩,q⟩⟩
 ·obtain ⟨e',cs,h1,_,h3⟩:=at' j its.toArray[j] (by simp at jl' ⊢)
  rw [h3]
  rw [ej] at h1
  cases h1
  exact eq
 ·obtain ⟨e',cs,h1,_,h3⟩:=at' m its.toArray[m] (by simp at hm ⊢)
  rw [h3]
  exact hno m e' h' h1
 ·obtain ⟨m,hm⟩:=xbu.mp (show v∈its by simpa using hv)
  obtain ⟨e',cs,h1,h2,h3⟩:=at' m v hm
  rw [h3]
  have:=hS e' (xaC h1)
  exact eqAt_reads e' d X.A.in1 s _ _ _ _ h2 rd this.1 ld (by show X.A.units+1+_<cLine; lia)
end
section
variable {X:Cx}
def Bg (K:PySem.W.Frag):R2:=fun x y H Q=>∃ l xs n,x=.ref l/\y=.int n/\SqL K H l xs/\0<=n/\n<=1000/\xs.length<=1000/\∀ p,H p=none->Q (.ref p) (upd H p (.lst (List.replicate n.toNat xs).flatten))
theorem xM {xs:List V} {vs:List Value} (h:Vals xs vs) (k:Nat):Vals (List.replicate k xs).flatten (List.replicate k vs).flatten:=by
 induction k with
 | zero=>exact .nil
 | succ k ih=>rw [xaY,xaY,xa8,xa8]; exact h.append ih
theorem qy {α:Type} (xs:List α) (k:Nat):(List.replicate k xs).flatten.length=xs.length * k:=by
 induction k with
 | zero=>rfl
 | succ k ih=>rw [xaY,xa8,xaU,ih,Nat.mul_succ]; lia
theorem zz:OpR X (binaryOp .Mult) (Bg X.K):=by
 intro pins s σ H x y v u Q I rx ry h
 obtain ⟨l,xs,n,rfl,rfl,hH,h0,h1,h2,q⟩:=h
 cases rx
 obtain ⟨t,rfl⟩:=ry
 obtain ⟨its,r,pl,z⟩:=I.list hH
 have hl:=r.length
 obtain ⟨⟨cls,dd,data,sl⟩,ho,hc,k,hd⟩:=id pl.isList
 simp only at hc hd
 subst hc hd
 have hm:its.toArray.size * n.toNat<=1000 * 1000:=Nat.mul_le_mul (by rw [xaz]; lia) (by lia)
 have hsz:=sizeLine_eq
 refine wpAny_binaryOp_repeat_ref (T := "list") (U := "int") (by decide) ⟨_,ho,rfl⟩ (fun s'=>typeIs_int s' n t) noFill_list_mul PySem.F.fills_int_mul PySem.F.slot_int_rmul repeat_list PySem.F.slot_int_index.lookup
  (call_meets PySem.F.slot_int_rmul (typeIs_int s n t) PySem.F.entry_int_rmul (PySem.F.args_int_rmul_2 _ _) (lm_int_rmul_list_any n t l its.toArray k dd sl)
   ⟨ho,rfl,⟨_,ho,rfl⟩,call_meets PySem.F.slot_list_mul ⟨_,ho,rfl⟩ PySem.F.entry_list_mul (PySem.F.args_list_mul_2 _ _)
    (lm_list_mul_any l its.toArray k dd sl n t (by simp [Builtin.List.listFitsIndex]; lia) (by lia) (by simp only [Builtin.List.listTooLong,decide_eq_true_eq]; lia))
    ⟨ho,?_⟩⟩)
 rw [listMul_foldl_if]
 exact ⟨.ref _,_,I.lnew (t':=s.toks) (xM r _) (by
  rw [qy]
  have:xs.length * n.toNat<=1000 * 1000:=Nat.mul_le_mul h2 (by lia)
  lia),rfl,q _ I.fresh⟩
def lJ:List V->Hp->VK->Prop:=fun xs H Q=>match xs with
 | [.ref p]=>∃ kvs b0 sh,H p=some (.dT kvs)/\(∀ k∈kvs.map (·.1),shOf k=b0 :: sh) /\
   ∀ zs ms l,cj H zs ms->ms.Perm (kvs.map (·.1))->(ms.Pairwise fun a b=>ltK b a=false)->H l=none->Q (.ref l) (upd H l (.lst zs))
 | _=>False
theorem pG (hc:X.calm=true):CallR X (.builtin "sorted") lJ:=by
 intro pins s σ H xs us Q I r h
 unfold lJ at h
 split at h
 ·rename_i p
  obtain ⟨kvs,b0,sh,e,hs,q⟩:=h
  obtain ⟨u,rfl,ru⟩:=Vals.one r
  cases ru
  obtain ⟨z,y,ps,rel,o,es,ep,h1,h2,h3,h4,h5⟩:=(show ObjOk X.prog X.w H s.heap p (.dT kvs) from I.hok p _ e)
  obtain ⟨ta,va⟩:=uH (prog:=X.prog) (w:=X.w) rel
  have hlen:es.size=kvs.length:=by
   have:=congrArg List.length h4
   rw [xa2,xag] at this
   rw [this]; exact rel.length.symm
  have hpl:ps.length=kvs.length:=rel.length.symm
  refine Tim.sH (κ:=tuples' true) (R:=fun vs=>Vals (ps.map fun q=>V.ref q.2.1) vs) (r:=fun v=>rkK (kvs.map (·.1)) (jN H v)) (P:=fun v=>∃ b k,v=.ref b/\H b=some (.tup (k.map kV))/\shOf k=b0 :: sh/\k∈kvs.map (·.1)) (fun A' E' Q' hA hQ=>?_) (fun vs rv=>?_) (fun vs rv v hv=>?_)
   (fun vs rv h2 A' E' s' kp Q' q'=>?_) (fun s' kp=>qY I kp) fun vs h' a out n tk rv pm pw kp ha eo=>?_
  ·refine Tim.pB (vD (es:=es) (ep:=ep) y) (hA.trans (I.ok.hd hc)) ⟨o,h1,h2,h3⟩ (by lia) fun h' tk acc kp hz hacc=>hQ _ h' tk ?_ kp hz
   have hv:acc.toList=(ps.map (entryOfKey (tupleKind (mixKind X.prog X.w)))).map (·.key):=by
    apply xbe
    intro i
    by_cases hi:i<es.size
    ·have hi2:i<acc.size:=by rw [hacc.1]; exact hi
     obtain ⟨en,e1,e2⟩:=hacc.2 i acc[i] (by simp [hi2])
     rw [<- h4,xaG,xax,xax,e1]
     simp [hi2,e2]
    ·rw [<- h4,xaG,xax,xax,xa1 (by rw [hacc.1]; lia),xa1 (by lia)]
     rfl
   rw [hv]; exact va
  ·have:=rv.length
   rw [xag] at this
   lia
  ·obtain ⟨_,mem⟩:=ta.keys rv
   obtain ⟨b,k,e1,e2,e3⟩:=mem v hv
   exact ⟨b,k,e1,e2,hs k e3,e3⟩
  ·obtain ⟨fs,f1,f2,f3⟩:=kat_tups I kp ta rv hs
   cases b0 with
   | true =>
    refine PySem.W.kat_kind (T:=.type "int") f1 (by lia) (fun f hf=>?_) (by decide) q'
    obtain ⟨i,t,rfl⟩:=(f3 f hf).1 rfl
    exact .now
   | false =>
    refine PySem.W.kat_kind (T:=.type "str") f1 (by lia) (fun f hf=>?_) (by decide) q'
    obtain ⟨i,t,rfl⟩:=(f3 f hf).2 rfl
    exact .now
  ·obtain ⟨ek,mem⟩:=ta.keys rv
   obtain ⟨zs,z1,z2⟩:=cj.of (H:=H) (ks:=kvs.map (·.1)) out fun v hv=>mem v (pm.mem_iff.mp hv)
   have zl:=z2.length
   have ol:=pm.length_eq
   have vl:=rv.length
   rw [xag] at vl
   have pms:(out.map (jN H)).Perm (kvs.map (·.1)):=by rw [<- ek]; exact pm.map _
   refine ⟨.ref a,_,I.laid (a:=a) (t':=tk) kp ha (show ObjOk X.prog X.w _ h' _ (.lst zs) from ⟨by lia,out,n,z2,eo⟩),rfl,q zs _ _ z1 pms ?_ (I.hok.fresh ha)⟩
   rw [xaL]
   refine pw.imp_of_mem fun {x y} mx my hle=>?_
   obtain ⟨b,k,rfl,hb,kk⟩:=mem x (pm.mem_iff.mp mx)
   obtain ⟨c,m,rfl,hc,km⟩:=mem y (pm.mem_iff.mp my)
   rw [b_ hb,b_ hc] at *
   have:=vM (L:=kvs.map (·.1)) ((hs m km).trans (hs k kk).symm) km
   rw [<- this]
   exact decide_eq_false (by lia)
 ·exact h.elim
end
theorem Tot.sub {lt:PyData->PyData->Bool} {S U:PyData->Prop} (T:Tot lt S) (h:∀ x,U x->S x):Tot lt U :=
 ⟨fun x a=>T.irr x (h x a),fun x y z a b c=>T.tr x y z (h x a) (h y b) (h z c),fun x y a b=>T.tot x y (h x a) (h y b),fun x y a b=>T.eqv x y (h x a) (h y b)⟩
def du (p:Str × Int):PyData:=.tuple [.str p.1,.int p.2]
def rkS (x:PyData):Prop:=∃ (i:Int) (ps:List (Str × Int)),x=.tuple [.int i,.list (ps.map du)]/\∀ p∈ps,PyData.strOk p.1=true
theorem zQ (p q:Str × Int):CmP 1 (du p) (du q):=by
 unfold du
 rw [CmP]
 intro j x y hx hy _
 match j with
 | 0=>cases hx; cases hy; rw [CmP]; trivial
 | 1=>cases hx; cases hy; rw [CmP]; trivial
 | j+2=>simp at hx
theorem zG (ps:List (Str × Int)) (h:∀ p∈ps,PyData.strOk p.1=true):PyData.canLayAll0 (ps.map du)=true/\PyData.depthAll (ps.map du)<=2:=by
 induction ps with
 | nil=>exact ⟨rfl,by simp [PyData.depthAll]⟩
 | cons p ps ih =>
  have ih:=ih fun q hq=>h q (xab _ hq)
  have hp:=h p xad
  rw [xat]
  constructor
  ·simp only [PyData.canLayAll0,xaB]
   refine ⟨?_,ih.1⟩
   simp [du,PyData.canLay0,PyData.canLayAll0,hp]
  ·have h2:=ih.2
   simp only [PyData.depthAll]
   have:(du p).depth<=2:=by simp [du,PyData.depth,PyData.depthAll]
   lia
theorem keyS:KeyS 2 rkS where
 tot:=((Tot.pair (Tot.int 2) (Tot.list (Tot.pair (Tot.str 0) (Tot.int 0)))).sub) fun x ⟨i,ps,e,_⟩=>⟨_,_,e,⟨i,rfl⟩,_,rfl,fun y hy=>by
  obtain ⟨p,_,rfl⟩:=xaj.mp hy
  exact ⟨_,_,rfl,⟨_,rfl⟩,_,rfl⟩⟩
 tup:=by
  rintro x ⟨i,ps,rfl,h⟩
  have:=zG ps h
  refine ⟨i,_,rfl,?_,?_⟩
  ·simp [PyData.canLay0,PyData.canLayAll0,this.1]
  ·simp only [PyData.depth,PyData.depthAll]; lia
 len:=by
  rintro xs ys ⟨i,ps,e,_⟩ ⟨j,qs,e2,_⟩
  cases e; cases e2; rfl
 cm:=by
  rintro x y ⟨i,ps,rfl,_⟩ ⟨j,qs,rfl,_⟩
  rw [CmP]
  intro k x y hx hy _
  match k with
  | 0=>cases hx; cases hy; rw [CmP]; trivial
  | 1 =>
   cases hx; cases hy
   rw [CmP]
   intro k x y hx hy _
   obtain ⟨p,_,rfl⟩:=xaj.mp (xaC hx)
   obtain ⟨q,_,rfl⟩:=xaj.mp (xaC hy)
   exact zQ p q
  | k+2=>simp at hx
end L2
namespace L2.Q
open PySem PySem.Spec PyProof.Rows PySem.SeqAt
section
variable {X:Cx} {K:PySem.W.Frag} {a b:Expr} {ta tb:WE} {pos:Pos}
def xG:W2:=fun _ x _ y Q=>match x with
 | .list xs=>match y with
  | .int n=>(0<=n/\n<=1000/\xs.length<=1000)/\flats xs=true/\Q (.ow true) (.list (List.replicate n.toNat xs).flatten)
  | _=>False
 | _=>False
theorem yj {H:Hp} {xs:List D} {vs:List V} (h:Reps K H xs vs) (k:Nat):Reps K H (List.replicate k xs).flatten (List.replicate k vs).flatten:=by
 induction k with
 | zero=>exact .nil
 | succ k ih=>rw [xaY,xaY,xa8,xa8]; exact h.append ih
theorem vQ {xs:List D} (h:flats xs=true) (k:Nat):flats (List.replicate k xs).flatten=true:=by
 induction k with
 | zero=>rfl
 | succ k ih=>rw [xaY,xa8,dO,h,ih]; rfl
theorem Ba:Br2 K (Bg K) xG:=by
 intro Hs H m x v As n y u Bs Qd Qv w rx ry h f
 have r1:=rx.rep w
 have r2:=ry.rep w
 cases r1 with
 | list z s q=>cases r2 with
  | int n =>
   obtain ⟨⟨h0,h1,h2⟩,fl,h⟩:=h
   have hl:=q.length
   refine ⟨_,_,_,rfl,rfl,s,h0,h1,by lia,?_⟩
   refine f.lst w ?_ (yj q _) (vQ fl _) h
   rw [qy,sizeLine_eq]
   have:List.length _ * n.toNat<=1000 * 1000:=Nat.mul_le_mul h2 (by lia)
   exact xaA this (by decide)
  | _=>exact h.elim
 | _=>exact h.elim
theorem Fo (hK:X.K=K:=by rfl):OpR X (binaryOp .Mult) (Bg K):=by subst hK; exact zz
theorem Df (ha:QE X K a ta) (hb:QE X K b tb) (hK:X.K=K:=by rfl):QE X K (.BinOp a .Mult b pos) (wOp xG ta tb):=q_op (Fo hK) Ba ha hb
def kZ:W1:=fun _ x Q=>match x with
 | .dT kvs=>∃ b0 sh,(∀ p∈kvs,shOf p.1=b0 :: sh)/\∀ ms:List (List Key),ms.Perm (kvs.map (·.1))->(ms.Pairwise fun a b=>ltK b a=false)->Q (.ow true) (.list (ms.map keyT))
 | _=>False
theorem oG:BrC K lJ kZ:=by
 intro Hs H m x v As Qd Qv w rx h f
 have r1:=rx.rep w
 cases r1 with
 | @dT a vs kvs kk e q =>
  obtain ⟨b0,sh,hs,h⟩:=h
  have hlen:=q.length
  rw [xag] at hlen
  have ez:((kvs.map (·.1)).zip vs).map (·.1)=kvs.map (·.1):=xb9 (by rw [xag]; exact xcg hlen)
  refine ⟨_,b0,sh,e,fun k hk=>?_,fun zs ms l tz pm pw hl=>?_⟩
  ·rw [ez] at hk
   obtain ⟨p,hp,rfl⟩:=xaj.mp hk
   exact hs p hp
  ·rw [ez] at pm
   refine f.lst w (by rw [xag,pm.length_eq,xag]; exact kk.1) (mJ (K:=K) tz fun k hk=>?_) (fW ms) (h ms pm pw) l hl
   obtain ⟨p,hp,rfl⟩:=xaj.mp (pm.mem_iff.mp hk)
   exact kk.2 p hp
 | _=>exact h.elim
theorem vC (hc:X.calm=true:=by rfl):CallR X (.builtin "sorted") lJ:=pG hc
def qD (to te:WE):WE:=fun ρ Q=>to ρ fun _ x=>match x with
 | .list xs=>te ρ fun _ y=>okD 12 (.list xs)=true/\okD 12 y=true/\∃ j:Nat,(∃ z,xs[j]? = some z/\eqD z y=true)/\(∀ (i:Nat) z,i<j->xs[i]? = some z->eqD z y=false)/\Q .sh (.int j)
 | _=>False
theorem Ay {o e:Expr} {to te:WE} {apos cpos:Pos} (hu:X.A.units+64<cLine) (ho:QE X K o to) (he:QE X K e te) (hK:X.K=K:=by rfl)
  (hbase:attributeBase o "index" X.env (eval o X.env)=eval o X.env:=by rfl)
  (hfew:((backTo cpos (starEach [e] X.env)).all (fun x=>!x.1) && (backToKw cpos (keywordEach [] X.env)).all (fun x=>x.1.isSome)
   && decide ([e].length+([]:List Keyword).length+(if ([]:List Keyword).isEmpty then 0 else 1)<30))=true:=by rfl)
  (hline:(apos.endLine == cpos.line)=true:=by rfl) (hss:starEach (e :: []) X.env=(false,eval e X.env) :: starEach [] X.env:=by rfl) (hplain:(backTo cpos (starEach [] X.env)).any (·.1)=false:=by rfl) :
  QE X K (.Call (.Attribute o "index" apos) [e] [] cpos) (qD to te):=by
 subst hK
 refine PE.imp (pe_bm PySem.F.plainAttrs_list PySem.F.slot_list_index PySem.F.type_list_index (xm hu) ho (pa_cons he pa_nil hss) hbase hfew hline hss hplain) fun σ H Qv hx=>ex4 hx fun Hs ρ tot Q sr h f=>?_
 refine ⟨Hs,ρ,tot,_,sr,h,fun v H1 Hs1 m x As g1 r1 f1 q1=>?_⟩
 have r:=r1.rep g1.wf
 cases r with
 | list hz s rs =>
  refine ⟨.inl ⟨rfl,_,s⟩,Hs1,ρ,tot,_,sr.grow g1,q1,fun y H2 Hs2 m2 x2 As2 g2 r2 f2 q2=>?_⟩
  obtain ⟨o1,o2,j,⟨z,ez,eq⟩,hno,q⟩:=q2
  have rr:=(r1.grow g2).rep g2.wf
  cases rr with
  | list hz' s' rs' =>
   have l2:=ir 12 _ o2
   have o1':∀ d∈_,okD 11 d=true:=xbq.mp (show List.all _ (okD 11)=true from o1)
   refine ⟨_,_,_,_,_,j,rfl,rfl,s',Rep.l22.2 rs' 11 o1',(r2.rep g2.wf).l2 o2,fun e he=>?_,l2.1,⟨z.py,?_,eq⟩,fun m e hm he=>?_,Fin.sh (Fin.after f (g1.trans g2)) g2.wf (.int _) q⟩
   ·rw [gU] at he
    obtain ⟨d,hd,rfl⟩:=xaj.mp he
    have:=ir 11 d (o1' d hd)
    exact ⟨this.1,by lia⟩
   ·rw [gU,xaG,ez]; rfl
   ·rw [gU,xaG] at he
    obtain ⟨d,hd,rfl⟩:=Option.map_eq_some_iff.mp he
    exact hno m d hm hd
 | _=>exact q1.elim
abbrev tZ:W1:=yz 2 rkS
theorem BR (hu:X.A.units+64<cLine) (hK:X.K=K:=by rfl):CallR X (.builtin "sorted") (jV K 2 rkS):=BW keyS (by lia) hK
theorem xf:BrC K (jV K 2 rkS) tZ:=yf
end
end L2.Q
namespace L2.Q.R
open PySem PySem.Spec PyProof.Rows L2.Q PySem.SeqAt
section
variable {Q:Md->L2.Q.D->Prop} {m m':Md} {x y:L2.Q.D} {xs:List L2.Q.D} {to' te:WE} {ρ:Env} {a:Int}
theorem Gp:xG m (.list xs) m' (.int a) Q=((0<=a/\a<=1000/\xs.length<=1000)/\flats xs=true/\Q (.ow true) (.list (List.replicate a.toNat xs).flatten)):=rfl
theorem Eg:qD to' te ρ Q=to' ρ fun _ x=>onK x (f:=fun x=>list' x fun xs=>te ρ fun _ y=>okD 12 (.list xs)=true/\okD 12 y=true/\∃ j:Nat,(∃ z,xs[j]? = some z/\eqD z y=true)/\(∀ (i:Nat) z,i<j->xs[i]? = some z->eqD z y=false)/\Q .sh (.int j)) ⟨⟩:=by unfold qD onK list'; rfl
theorem D_ {kvs:List (List Key × L2.Q.D)}:kZ m (.dT kvs) Q = ∃ b0 sh,(∀ p∈kvs,shOf p.1=b0 :: sh)/\∀ ms:List (List Key),ms.Perm (kvs.map (·.1))->(ms.Pairwise fun a b=>ltK b a=false)->Q (.ow true) (.list (ms.map keyT)):=rfl
theorem Ej:tZ m (.list xs) Q=(m=.sh/\(∀ d∈xs,okD 12 d=true/\rkS d.py)/\∀ ms:List L2.Q.D,ms.Perm xs->(ms.Pairwise fun a b=>PySem.SeqAt.ltP 3 b.py a.py=false)->Q (.ow false) (.list ms)):=rfl
end
end L2.Q.R
namespace L2
open PySem PySem.Spec PyProof.Rows
end L2
namespace L2.Q
open PySem PySem.Spec PyProof.Rows
section
variable {X:Cx} {K:PySem.W.Frag} {a b c e:Expr} {ta tb te:WE} {pos p2:Pos}
def wIxO (ta tb:WE):WE:=fun ρ Q=>ta ρ fun m x=>m=.ow true/\match x with
 | .list xs=>tb ρ fun _ y=>intD y fun k=>∃ d,L2.atI xs k=some d/\Q (outM d) d
 | _=>False
theorem Fy (ha:QE X K a ta) (hb:QE X K b tb) (hs:PlainIx b:=by exact fun _ _=>rfl) (hK:X.K=K:=by rfl):QE X K (.Subscript a b pos) (wIxO ta tb):=by
 refine PE.imp (pe_ix (kIx hK) ha hb hs) fun σ H Qv hx=>ex4 hx fun Hs ρ tot Q sr h f=>?_
 refine ⟨Hs,ρ,tot,_,sr,h,fun v H1 Hs1 m x As g1 r1 f1 q1=>?_⟩
 obtain ⟨rfl,q1⟩:=q1
 obtain ⟨r1,ne⟩:=r1
 cases r1 with
 | sh _ r=>exact absurd rfl ne
 | @list a vs xs As z e rs =>
  refine ⟨Hs1,ρ,tot,_,sr.grow g1,q1,fun u H2 Hs2 m2 y Bs g2 r2 f2 q2=>?_⟩
  have ry:=r2.rep g2.wf
  cases ry with
  | int k =>
   obtain ⟨d,e3,q⟩:=q2
   obtain ⟨j,ej,ed⟩:=BV e3
   have nd:As.Nodup:=(xaH.mp f1.1).2
   obtain ⟨w,B,ew,rw',sB,_⟩:=rs.at ed nd
   have r3:=rw'.grow g2.sh g2.all
   refine .inl ⟨vs,w,.inl (.inl (g2.all _ _ e)),vq (by rw [<- rs.length]; exact ej) ew,?_⟩
   cases hf:d.flat with
   | true =>
    rw [outM,hf] at q
    exact f w H2 Hs2 .sh d [] (g1.trans g2) ⟨rfl,(r3.rep g2.wf.sub fun _ _=>rfl).gn g2.wf.tups hf⟩ ⟨xaR,fun _ h=>mem0 h⟩ q
   | false =>
    rw [outM,hf] at q
    refine f w H2 Hs2 (.ow true) d B (g1.trans g2) ⟨r3,r3.ne hf⟩ ⟨sB.nodup nd,fun c hc=>?_⟩ q
    have:=f1.2 c (xab _ (sB.subset hc))
    exact ⟨g2.hsn this.1 (rw'.own c hc).ne,this.2⟩
  | _=>exact q2.elim
 | _=>exact q1.elim
theorem SR.view {Hs H:Hp} (G:Hp) (s:Same Hs H) {ρ:Env} {σ:St} {tot:List Addr} (r:SR K Hs H ρ σ tot):SR K H G (ρ.map (Option.map shC)) σ []:=by
 induction r with
 | nil=>exact .nil
 | non _ ih=>exact .non ih
 | sh r _ ih=>exact .sh (r.same s) ih
 | xc _ ih=>exact .xc ih
 | ow _ r _ ih=>exact .sh (r.rep s fun _ _=>rfl) ih
 | lk _ r _ ih=>exact .sh (r.rep s fun _ _=>rfl) ih
def mvE (i j:Nat) (hs xs:List D) (ρ:Env):Env:=(ρ.set j none).set i (some (.ow true (.list (hs++[.list xs]))))
def mvV (i j:Nat) (hs xs:List D) (ρ:Env):Env:=((mvE i j hs xs ρ).map (Option.map shC)).set j (some (.sh (.list xs)))
def putO (o:Option Sl) (k:Sl->Prop):Prop:=match o with
 | some s=>k s
 | none=>False
def uV (i j:Nat) (te:WE):WS:=fun E ρ=>owl ρ[i]? fun hs=>owl ρ[j]? fun xs=>flats xs=true/\hs.length<sizeLine /\
 te (mvV i j hs xs ρ) fun m d=>putO (asg (retM m d) d) fun sl=>E.nx ((mvE i j hs xs ρ).set j (some sl))
theorem wI {L:Str->Hp->Prop} {i j:Nat} {x:Str} {p1 p2 p3 pos':Pos} (hN:X.N.Nodup) (hj0:X.N[j]? = some x) (hx:Loc X.env.scope x) (hi:PE X a (tVar i)) (hj:PE X b (tVar j)) (he:QE X K e te) (hne:i≠j:=by decide) (hK:X.K=K:=by rfl)
  (s1:swapsWith (.Call (.Attribute a "append" p1) [b] [] p2) none pos.line X.env=pure false:=by rfl) (b1:attributeBase a "append" X.env (eval a X.env)=eval a X.env:=by rfl)
  (f1:((backTo p2 (starEach [b] X.env)).all (fun x=>!x.1) && (backToKw p2 (keywordEach [] X.env)).all (fun x=>x.1.isSome) && decide ([b].length+([]:List Keyword).length+(if ([]:List Keyword).isEmpty then 0 else 1)<30))=true:=by rfl)
  (l1:(p1.endLine == p2.line)=true:=by rfl) (t1:starEach (b :: []) X.env=(false,eval b X.env) :: starEach [] X.env:=by rfl) (q1:(backTo p2 (starEach [] X.env)).any (·.1)=false:=by rfl)
  (hs:swapsWith e (some (.Name x p3)) pos'.line X.env=pure false:=by rfl) (hf:X.fn x=true\/X.env.scope.names.lookup x=some .local:=by first | exact .inl rfl | exact .inr rfl | assumption) :
  QSs X K L [.Expr (.Call (.Attribute a "append" p1) [b] [] p2) pos,.Assign [.Name x p3] e pos'] (uV i j te):=by
 subst hK
 refine PSs.imp (pss_cons (ps_expr (pe_bm PySem.F.plainAttrs_list PySem.F.slot_list_append PySem.F.type_list_append mt_append hi (pa_cons hj pa_nil t1) b1 f1 l1 t1 q1) s1)
  (pss_one (ps_set hN hj0 hx he hs hf))) fun D σ H hx=>eX hx fun Hs ρ tot E sr h k1 k2 k3 k4=>?_
 obtain ⟨hs,ei,h⟩:=yF h
 obtain ⟨xs,ej,fl,hz1,h⟩:=yF h
 obtain ⟨a,ws,c,vs,tot2,u1,u2,u3,u4,u5,u6,u7,sr2⟩:=Ax hne sr ei ej fl hz1
 refine ⟨_,u1,.inl ⟨rfl,_,.inl (.inl u2)⟩,_,u4,a,ws,_,rfl,rfl,u2,u3,?_⟩
 have rc:Rep X.K (upd H a (.lst (ws++[.ref c]))) (.list xs) (.ref c):=.list u7 (.inl (.inl u5)) (u6.same sr2.wf.sub)
 have v0:=SR.view (upd H a (.lst (ws++[.ref c]))) sr2.wf.sub sr2.sr
 obtain ⟨t,st,v1⟩:=v0.wg rc j
 have e0:σ.set j (some (.ref c))=σ:=by
  apply xbe
  intro m
  by_cases hm:j=m
  ·subst hm; rw [xb3 (by have:=(xal.mp u4).1; exact this),u4]
  ·rw [xbA hm]
 rw [e0] at v1
 have et:t=[]:=List.eq_nil_of_subset_nil st.subset
 subst et
 refine ⟨upd H a (.lst (ws++[.ref c])),_,[],_,⟨v1,⟨Same.refl _,fun _ _ z=>z⟩,xaR,fun _ h=>mem0 h⟩,h,fun v H1 Hs1 m d As g1 r1 f1 q1=>?_⟩
 obtain ⟨As',r',fr⟩:=o_ sr2.wf g1.sh g1.wf r1 f1.1 fun a ha=>(f1.2 a ha).1
 have gb:=gj sr2.wf g1.sh g1.wf
 cases ea:asg (retM m d) d with
 | none=>rw [ea] at q1; exact q1.elim
 | some sl =>
  rw [ea] at q1
  obtain ⟨tot',s'⟩:=(sr2.grow gb).set j r' fr.1 (fun a ha=>⟨(fr.2 a ha).1,fun m=>(sr2.sr.own a m).ne (fr.2 a ha).2⟩) ea
  exact k1 _ H1 _ _ tot' gb.sh s' q1
end
end L2.Q
namespace L2.Q.R
open PySem PySem.Spec PyProof.Rows L2.Q
section
variable {Q:Md->L2.Q.D->Prop} {m:Md} {x y:L2.Q.D} {xs:List L2.Q.D} {ta tb te:WE} {ρ:L2.Q.Env} {E:lK} {i j:Nat}
theorem HX:wIxO ta tb ρ Q=ta ρ fun m x=>m=.ow true/\onK x (f:=fun x=>list' x fun xs=>tb ρ fun _ y=>onK y (f:=fun y=>intD y fun k=>∃ d,L2.atI xs k=some d/\onK d (f:=fun d=>Q (outM d) d) ⟨⟩) ⟨⟩) ⟨⟩:=by unfold wIxO onK list'; rfl
theorem E_:uV i j te E ρ=onK ρ[i]? (f:=fun o=>owl o fun hs=>onK ρ[j]? (f:=fun o=>owl o fun xs=>flats xs=true/\hs.length<sizeLine /\
 te (mvV i j hs xs ρ) fun m d=>onK (asg (retM m d) d) (f:=fun o=>put o fun sl=>E.nx ((mvE i j hs xs ρ).set j (some sl))) ⟨⟩) ⟨⟩) ⟨⟩:=rfl
end
end L2.Q.R
namespace L2
open PySem PySem.Spec PyProof.Rows
def yG (sc scope:Scope) (N cn:List Str) (ix:List Nat):Bool :=
 scope.kind == .function && scope.names.all (fun y=>y.2 != .free || vis2 (sc.names.lookup y.1)) && scope.names.all (fun y=>y.2 != .local || scope.names.lookup y.1 == some .local) &&
 ix.length == cn.length && (List.range ix.length).all (fun k=>match ix[k]?,cn[k]? with
  | some j,some y=>N[j]? == some y && vis2 (sc.names.lookup y) && scope.names.contains (y,NameKind.free) && vis2 ((rlN sc scope.names).lookup y) && !scope.names.contains (y,NameKind.cell)
  | _,_=>false) &&
 (rlN sc scope.names).all (fun y=>!(y.2 == .cell || y.2 == .free) || scope.names.contains (y.1,NameKind.free) || scope.names.contains (y.1,NameKind.cell))
theorem dM.of {X:Cx} {sc scope:Scope} {N tn cn:List Str} {ix:List Nat} (hsc:X.env.scope=sc) (hN:X.N=N) (h:yG sc scope N cn ix=true):dM X scope tn cn ix:=by
 unfold yG at h
 simp only [xaB] at h
 obtain ⟨⟨⟨⟨⟨h1,h3⟩,h4⟩,h5⟩,h6⟩,h7⟩:=h
 rw [xbq] at h3 h4 h6 h7
 have erl:(relabel scope X.env).names=rlN sc scope.names:=by
  unfold relabel rlN
  rw [<- hsc]
  rfl
 refine ⟨by simpa using h1,fun y hy hk=>?_,fun y hy hk=>?_,by simpa using h5,fun k j hk=>?_,fun x hx=>?_⟩
 ·have:=h3 y hy
  rw [hk] at this
  rw [hsc]
  exact gW (by simpa using this)
 ·have:=h4 y hy
  rw [hk] at this
  simpa using this
 ·have hk':k<ix.length:=(xal.mp hk).1
  have:=h6 k (xaV.mpr hk')
  rw [hk] at this
  cases e:cn[k]? with
  | none=>rw [e] at this; cases this
  | some y =>
   rw [e] at this
   simp only [xaB] at this
   obtain ⟨⟨⟨⟨a1,a2⟩,a3⟩,a4⟩,a5⟩:=this
   refine ⟨y,rfl,by rw [hN]; simpa using a1,by rw [hsc]; exact gW a2,by simpa using a3,by rw [erl]; exact gW a4,by simpa using a5⟩
 ·rw [erl] at hx
  have mem:∃ k,(x,k)∈rlN sc scope.names/\(k=.cell\/k=.free):=by
   rcases hx with hx | hx
   ·exact ⟨_,PySem.mem_of_lookup hx,.inl rfl⟩
   ·exact ⟨_,PySem.mem_of_lookup hx,.inr rfl⟩
  obtain ⟨k,hm,hk⟩:=mem
  have:=h7 _ hm
  rcases hk with rfl | rfl <;> simpa using this
def rlS (sc scope:Scope):Scope:={ scope with names:=rlN sc scope.names }
theorem bx.inC {X:Cx} {sc scope scope0:Scope} {C:Addr} {N fp:_} {s:Shared} {H:Hp} {tn cn:List Str} {ix:List Nat} (hsc:X.env.scope=sc) (h:z7 (rlS sc scope0) scope N cn ix=true):bx (aN X scope0 C N fp s H) scope tn cn ix :=
 bx.of (sc:=rlS sc scope0) (by
  show relabel scope0 X.env=rlS sc scope0
  unfold relabel rlS rlN
  rw [<- hsc]
  rfl) rfl h
end L2
namespace L2.Q
open PySem PySem.Spec PyProof.Rows
section
variable {X:Cx} {K:PySem.W.Frag}
theorem zF {tg iter elt:Expr} {ifs:List Expr} {scope:Scope} {pos:Pos} {wi:WI} {g:WG} {tc:WT} {te:WE} {tn cn:List Str} {ix:List Nat} (hc:X.calm=true) (hi:QIb X K tg iter wi) (O:dM X scope tn cn ix)
  (hg:∀ C fp s₃ H₃,QG (aN X scope C (tn++cn) fp s₃ H₃) K tg g) (hcs:∀ C fp s₃ H₃,QTs (aN X scope C (tn++cn) fp s₃ H₃) K ifs tc) (he:∀ C fp s₃ H₃,QE (aN X scope C (tn++cn) fp s₃ H₃) K elt te)
  (hs:∀ x,foldedSetIterable iter X.env x=pure x:=by intro _; rfl):QE X K (.ListComp elt [⟨tg,iter,ifs,0⟩] scope pos) (d_ wi g tc te tn.length ix) :=
 PE.imp (qC hc hi O hg hcs he hs) fun σ H Qv h=>jk h
end
end L2.Q
namespace L2.Q.R
open PySem PySem.Spec PyProof.Rows L2.Q
end L2.Q.R
namespace L2
open PySem PySem.Spec PyProof.Rows
end L2
namespace L2.Q
open PySem PySem.Spec PyProof.Rows
section
variable {K:PySem.W.Frag} {c:Expr}
theorem aA.put {Hs H:Hp} {fl:Bool} {d:D} {v:V} (r:RepO K Hs H fl d v []) {ds:List D} {vs:List V} {As:List Addr} (k:Nat) (q:aA K Hs H fl ds vs As):∃ Bs,Bs.Sublist As/\aA K Hs H fl (ds.set k d) (vs.set k v) Bs:=by
 induction k generalizing ds vs As with
 | zero =>
  cases ds with
  | nil=>obtain ⟨rfl,rfl⟩:=q.n0; exact ⟨[],List.Sublist.refl _,q⟩
  | cons x ds =>
   obtain ⟨u,us,A,B,rfl,rfl,_,q2⟩:=q.c
   exact ⟨[]++B,xav _ _,aA.cons r q2⟩
 | succ k ih =>
  cases ds with
  | nil=>obtain ⟨rfl,rfl⟩:=q.n0; exact ⟨[],List.Sublist.refl _,q⟩
  | cons x ds =>
   obtain ⟨u,us,A,B,rfl,rfl,r1,q2⟩:=q.c
   obtain ⟨Bs,sb,q3⟩:=ih q2
   exact ⟨A++Bs,List.Sublist.append (List.Sublist.refl _) sb,aA.cons r1 q3⟩
end
end L2.Q
namespace L2.Q.R
open PySem PySem.Spec PyProof.Rows L2.Q
end L2.Q.R
namespace L2
open PySem PySem.Spec PyProof.Rows
section
variable {X:Cx}
theorem vy (hc:X.calm=true):CallR X (.builtin "max") fun xs H Q=>∃ a b c:Int,xs=[.int a,.int b,.int c]/\∀ m,(m=a\/m=b\/m=c)->a<=m->b<=m->c<=m->Q (.int m) H:=by
 intro pins s σ H xs us Q I r h
 obtain ⟨a,b,c,rfl,q⟩:=h
 cases r with
 | cons r1 r =>
  cases r with
  | cons r2 r =>
   cases r with
   | cons r3 r =>
    cases r
    obtain ⟨t1,rfl⟩:=r1
    obtain ⟨t2,rfl⟩:=r2
    obtain ⟨t3,rfl⟩:=r3
    refine max_three_ints (I.ok.hd hc) fun h' tk k=>?_
    have I':=I.kept (t':=tk) k
    by_cases hba:b>a
    ·rw [if_pos hba]
     by_cases hcb:c>b
     ·rw [if_pos hcb]; exact ⟨.int c,H,I',⟨_,rfl⟩,q c (.inr (.inr rfl)) (by lia) (by lia) (by lia)⟩
     ·rw [if_neg hcb]; exact ⟨.int b,H,I',⟨_,rfl⟩,q b (.inr (.inl rfl)) (by lia) (by lia) (by lia)⟩
    ·rw [if_neg hba]
     by_cases hca:c>a
     ·rw [if_pos hca]; exact ⟨.int c,H,I',⟨_,rfl⟩,q c (.inr (.inr rfl)) (by lia) (by lia) (by lia)⟩
     ·rw [if_neg hca]; exact ⟨.int a,H,I',⟨_,rfl⟩,q a (.inl rfl) (by lia) (by lia) (by lia)⟩
end
end L2
namespace L2.Q
open PySem PySem.Spec PyProof.Rows
section
variable {X:Cx} {K:PySem.W.Frag} {a b c:Expr} {ta tb tc:WE} {p pos:Pos}
def Am (ta tb tc:WE):WE:=fun ρ Q=>ta ρ fun _ x=>tb ρ fun _ y=>tc ρ fun _ z=>intD x fun a=>intD y fun b=>intD z fun c=>∀ m,(m=a\/m=b\/m=c)->a<=m->b<=m->c<=m->Q .sh (.int m)
theorem Cy (hg:Gl X "max") (hm:X.mg "max" = none) (ha:QE X K a ta) (hb:QE X K b tb) (hcc:QE X K c tc) (hc:X.calm=true:=by rfl)
  (hs:starEach [a,b,c] X.env=(false,eval a X.env) :: starEach [b,c] X.env:=by rfl) (hs2:starEach [b,c] X.env=(false,eval b X.env) :: starEach [c] X.env:=by rfl) (hs3:starEach [c] X.env=(false,eval c X.env) :: starEach [] X.env:=by rfl)
  (hpl:(backTo pos (starEach [b,c] X.env)).any (·.1)=false:=by rfl):QE X K (.Call (.Name "max" p) [a,b,c] [] pos) (Am ta tb tc):=by
 refine PE.imp (pe_callB (vy hc) hg hm Bw (pa_cons ha (pa_cons hb (pa_cons hcc pa_nil hs3) hs2) hs) (by decide) (by decide) hs hpl) fun σ H Qv hx=>ex4 hx fun Hs ρ tot Q sr h f=>?_
 refine ⟨Hs,ρ,tot,_,sr,h,fun v H1 Hs1 m x As g1 r1 f1 q1=>⟨Hs1,ρ,tot,_,sr.grow g1,q1,fun u H2 Hs2 m2 y Bs g2 r2 f2 q2=>⟨Hs2,ρ,tot,_,(sr.grow g1).grow g2,q2,fun w H3 Hs3 m3 z Cs g3 r3 f3 q3=>?_⟩⟩⟩
 have rx:=((r1.grow g2).grow g3).rep g3.wf
 have ry:=(r2.grow g3).rep g3.wf
 have rz:=r3.rep g3.wf
 cases rx with
 | int i =>
  cases ry with
  | int j =>
   cases rz with
   | int k=>exact ⟨i,j,k,rfl,fun m e h1 h2 h3=>Fin.after f ((g1.trans g2).trans g3) (.int m) H3 Hs3 .sh (.int m) [] (Grow.refl g3.wf) ⟨rfl,.int m⟩ cG.nil (q3 m e h1 h2 h3)⟩
   | _=>exact q3.elim
  | _=>exact q3.elim
 | _=>exact q3.elim
end
end L2.Q
namespace L2.Q.R
open PySem PySem.Spec PyProof.Rows L2.Q
theorem Hz {ta tb tc:WE} {ρ:L2.Q.Env} {Q:Md->L2.Q.D->Prop}:Am ta tb tc ρ Q=ta ρ fun _ x=>tb ρ fun _ y=>tc ρ fun _ z=>onK x (f:=fun x=>intD x fun a=>onK y (f:=fun y=>intD y fun b=>onK z (f:=fun z=>intD z fun c=>∀ m,(m=a\/m=b\/m=c)->a<=m->b<=m->c<=m->Q .sh (.int m)) ⟨⟩) ⟨⟩) ⟨⟩:=rfl
end L2.Q.R
local macro_rules | `(tactic| walk_at "q") => do
 let nm (s:String):Lean.Ident:=Lean.mkIdent ((s.splitOn ".").foldl Lean.Name.mkStr .anonymous)
 let ds ← ("Gu Iz Hq GX Fw Gy Il Ie Fg Ed GJ Hw Ht G7 GD GZ Ig Hh GF G6 Jc Hx HB Hc Hm Jd Jl Jr Ir I_ Jt Jk Gw Gk Jg Ji G8 G5 Ci Ew DX Ep HW Gv wB_ Jm wOr_ Ij Jb Ey Ex wC_ wOp_ wUn_ Gq Jf Ii Ik Hv Gb Fd Fq Gi Fj FJ FQ Ft Hf HF GR G_ Hk Gj IK Im Jq Hb Gm Jj IW Ja Hj Bp Gp Eg D_ Ej HX E_ Hz HR Ip Ih Iw H_ Jh Hl Hy Hu Hi GC Fb Ez Fv wSl_ DW Gn Ho IV Jo Jp Hd Et Ek wpN_ DY Ia Eo Iu HQ Hr Io Fx Gz Fl Ef Ec DR gN_ gT_ Hn Js G4 HH HJ FW Gf Eu Je GK G3 G9 Gd Es GQ HN wFz_ Gr Hg".splitOn " ").toArray.mapM fun s=>`(Lean.Parser.Tactic.simpLemma| ↓$(nm ("L2.Q.R." ++ s)):ident)
 let us ← ("L2.Q.mvE L2.Q.mvV L2.Q.movS L2.Q.outM L2.Q.rN L2.Q.zg L2.Q.okSh L2.Q.okOw L2.Q.okFl L2.Q.retM L2.Q.iK L2.Q.frzE L2.Q.shS L2.Q.shC L2.Q.jY L2.Q.Af L2.Q.asg L2.Q.itm L2.Q.bO L2.Q.D.flat L2.Q.flats L2.Q.D.ty L2.Q.truD L2.Q.D.key1 L2.Q.gq L2.Q.Cj L2.Q.Gs List.length_map List.map_cons List.map_nil List.length_cons List.length_nil List.replicate_succ List.replicate_zero List.cons_append List.nil_append List.append_nil List.getElem?_cons_zero List.getElem?_cons_succ List.getElem?_nil List.set_cons_zero List.set_cons_succ List.all_cons List.all_nil Option.some.injEq Option.join_some Option.map_some Option.map_none Nat.reduceAdd Nat.reduceSub true_and and_true Bool.and_true Bool.true_and Bool.and_false Bool.false_and Bool.not_true Bool.not_false Bool.false_eq_true if_true if_false decide_true decide_false reduceIte cond_true cond_false PySem.sizeLine_eq L2.Q.atI0 L2.Q.atI1 L2.Q.atI2 L2.Q.cO L2.Q.Ck L2.Q.empty_app Nat.zero_add exists_eq_left' Int.reduceLT Int.reduceLE Int.reducePow Int.reduceNeg Int.reduceToNat Int.reduceAdd Int.reduceMul Int.reduceSub Nat.reduceLeDiff Nat.reduceLT false_or or_false and_self L2.Ib".splitOn " ").toArray.mapM fun s=>`(Lean.Parser.Tactic.simpLemma| $(nm s):ident)
 let as:Lean.TSyntaxArray [`Lean.Parser.Tactic.simpStar,`Lean.Parser.Tactic.simpErase,`Lean.Parser.Tactic.simpLemma]:=(ds++us).map fun x=>⟨x.raw⟩
 `(tactic| simp -dsimp only [$as,*])
namespace L2.Q.Law
open PySem PySem.Spec PyProof.Rows
def isLet (c:Nat):Bool:=decide (97<=c/\c<=122)
abbrev abc:Str := "abcdefghijklmnopqrstuvwxyz"
theorem wH:sg abc=(List.range 26).map (97 + ·):=by decide +kernel
theorem uQ {i:Int} (h0:0<=i) (h1:i<26):∃ c,atI (sg abc) i=some c/\isLet c=true:=by
 refine ⟨97+i.toNat,?_,?_⟩
 ·have:atI (sg abc) ((i.toNat:Nat):Int)=some (97+i.toNat):=atI_nat (by
   rw [wH]
   have:i.toNat<26:=by lia
   simp [this])
  rwa [xbg h0] at this
 ·simp [isLet]; lia
theorem pC (x:Int):∃ c,atI (sg abc) (x % 26)=some c/\isLet c=true:=uQ (Int.emod_nonneg _ (by decide)) (xcm _ (by decide))
def lets (x:Str):Prop:=∀ c∈sg x,isLet c=true
def Open (x:Str):Prop:=1<=x.length/\x.length<=6/\lets x
def Deed (x:Str):Prop:=x = "*"\/Open x
theorem xQ {x y:Str} (hx:lets x) (hy:lets y):lets (x++y):=fun c hc=>by
 rw [qw] at hc
 exact (xai.mp hc).elim (hx c) (hy c)
theorem wX {c:Nat} (h:isLet c=true):lets ⟨#[c]⟩:=fun d hd=>by
 have:d=c:=by simpa [sg] using hd
 rw [this]; exact h
theorem gZ (c:Nat):(⟨#[c]⟩:Str).length=1:=rfl
theorem Deed.ok {x:Str} (h:Deed x):PyData.strOk x=true:=by
 rw [zL]
 rcases h with rfl | h
 ·have:sg "*" = [42]:=by decide +kernel
  intro c hc
  rw [this] at hc
  have:c=42:=by simpa using hc
  lia
 ·intro c hc
  have:=h.2.2 c hc
  simp [isLet] at this
  lia
abbrev Stp:=Int × Str × Int
def stpK (s:Stp):List Key:=[.inl s.1,.inr s.2.1,.inl s.2.2]
def stpD (s:Stp):D:=.tup [.int s.1,.str s.2.1,.int s.2.2]
def mD (many:Int) (steps:List Stp):D:=.tup [.int many,.list (steps.map stpD)]
theorem bR:∀ (l:List Stp),flats (l.map stpD)=true
 | []=>rfl
 | x :: l=>by simp [flats,bR l,stpD,D.flat]
def StOk (many:Int) (s:Stp):Prop:=0<=s.1/\s.1<many/\Deed s.2.1/\0<=s.2.2/\s.2.2<many
theorem DQ {many:Int} {s:Stp} (n:Nat) (h:StOk many s):okD (n+1) (stpD s)=true:=by
 have:=h.2.2.1.ok
 simp [okD,stpD,this]
theorem Fp {many:Int} {l:List Stp} (n:Nat) (h:∀ s∈l,StOk many s):okD (n+2) (.list (l.map stpD))=true:=by
 simp only [okD,xcA,xbq]
 intro s hs
 exact DQ n (h s hs)
theorem eq_self {x:D} (h:x.nb=true):eqD x x=true:=(lV x x h h).mpr rfl
def ltP (s t:Stp):Bool:=ltK (stpK s) (stpK t)
theorem pW {P:Stp->Prop}:∀ {ks:List (List Key)},(∀ k∈ks,∃ s,k=stpK s/\P s)->∃ l:List Stp,ks=l.map stpK/\∀ s∈l,P s
 | [],_=>⟨[],rfl,fun s h=>nomatch h⟩
 | k :: ks,h=>by
  obtain ⟨s,rfl,p⟩:=h k xad
  obtain ⟨l,rfl,q⟩:=pW fun k hk=>h k (xab _ hk)
  refine ⟨s :: l,rfl,fun t ht=>?_⟩
  rcases xak.mp ht with rfl | ht
  ·exact p
  ·exact q t ht
abbrev Kn:=List (List Key × D)
def StD (P:Stp->Prop) (kvs:Kn):Prop:=(∀ p∈kvs,∃ s,p.1=stpK s/\P s)/\(kvs.map (·.1)).Nodup
theorem uP {κ β:Type} [DecidableEq κ] (kvs:List (κ × β)) (k:κ) (v:β):(putG kvs k v).map (·.1)=if k∈kvs.map (·.1) then kvs.map (·.1) else kvs.map (·.1)++[k]:=by
 unfold putG
 by_cases h:k∈kvs.map (·.1)
 ·have:(kvs.any fun kv=>decide (kv.1=k))=true:=by
   obtain ⟨p,hp,e⟩:=xaj.mp h
   exact xct.mpr ⟨p,hp,decide_eq_true e⟩
  rw [if_pos this,if_pos h,xaJ]
  apply xch
  intro p _
  show (if p.1=k then (p.1,v) else p).1=p.1
  split <;> rfl
 ·have:¬ (kvs.any fun kv=>decide (kv.1=k))=true:=by
   intro z
   obtain ⟨p,hp,e⟩:=xct.mp z
   exact h (xaj.mpr ⟨p,hp,of_decide_eq_true e⟩)
  rw [if_neg this,if_neg h,xbL]
  rfl
theorem StD.put {P:Stp->Prop} {kvs:Kn} {s:Stp} {d:D} (h:StD P kvs) (hs:P s):StD P (putG kvs (stpK s) d):=by
 refine ⟨fun p hp=>?_,?_⟩
 ·rcases lE hp with e | e
  ·exact ⟨s,e,hs⟩
  ·obtain ⟨q,hq,e⟩:=xaj.mp e
   rw [<- e]
   exact h.1 q hq
 ·rw [uP]
  split
  ·exact h.2
  ·rename_i hn
   exact xar.mpr ⟨h.2,by simp,fun a ha b hb e=>by
    have:b=stpK s:=by simpa using hb
    subst this; subst e; exact hn ha⟩
theorem StD.nil {P:Stp->Prop}:StD P []:=⟨(fun p hp=>nomatch hp),xaR⟩
theorem StD.sorted {P:Stp->Prop} {kvs:Kn} (h:StD P kvs) {Q:Md->D->Prop} (k:∀ steps:List Stp,(steps.map stpK).Perm (kvs.map (·.1))->(∀ s∈steps,P s)->steps.Pairwise (fun a b=>ltP a b=true)->steps.length=kvs.length->Q (.ow true) (.list (steps.map stpD))) :
  Cj (.ow true) (.list (kvs.map fun kv=>.tup (kv.1.map keyD))) Q:=by
 refine ⟨kvs.map (·.1),[false,true],by rw [xaJ]; rfl,fun k hk=>?_,fun ms pm pw=>?_⟩
 ·obtain ⟨p,hp,rfl⟩:=xaj.mp hk
  obtain ⟨s,e,_⟩:=h.1 p hp
  rw [e]; rfl
 ·obtain ⟨l,rfl,hl⟩:=pW (P:=P) (ks:=ms) fun k hk=>by
   obtain ⟨p,hp,e⟩:=xaj.mp (pm.mem_iff.mp hk)
   rw [<- e]
   exact h.1 p hp
  have e:(l.map stpK).map keyT=l.map stpD:=by rw [xaJ]; rfl
  rw [e]
  refine k l pm hl ?_ (by have:=pm.length_eq; simpa using this)
  have nd:(l.map stpK).Nodup:=pm.nodup_iff.mpr h.2
  rw [xaL] at pw
  have nd':l.Pairwise fun a b=>stpK a≠stpK b:=by
   rw [List.Nodup,xaL] at nd
   exact nd
  refine (pw.and nd').imp fun {a b} ⟨h1,h2⟩=>?_
  unfold ltP
  cases h3:ltK (stpK a) (stpK b) with
  | true=>rfl
  | false=>exact absurd (ji (a:=stpK a) (b:=stpK b) rfl h3 h1) h2
theorem jF:∀ (l:List Str),flats (l.map D.str)=true
 | []=>rfl
 | x :: l=>by simp [flats,jF l,D.flat]
theorem dN:∀ (l:List Int),flats (l.map D.int)=true
 | []=>rfl
 | x :: l=>by simp [flats,dN l,D.flat]
theorem yq (l:List Str) (x:Str):l.map D.str++[D.str x]=(l++[x]).map D.str:=by simp
theorem bL {n i:Nat} {lo:Int} {x:D} (h:(nu lo n)[i]? = some x):i<n/\x=.int (lo+(i:Nat)):=by
 unfold nu at h
 rw [xaG] at h
 by_cases hi:i<n
 ·rw [List.getElem?_range hi] at h
  exact ⟨hi,(Option.some.inj h).symm⟩
 ·rw [xaK (by simpa using hi)] at h
  cases h
theorem bH (lo:Int) (n:Nat):(nu lo n).length=n:=by simp [nu]
theorem pA {names:List Str} {i:Int} (h0:0<=i) (h1:i<names.length):∃ n,n∈names/\atI (names.map D.str) i=some (.str n):=by
 have hn:i.toNat<names.length:=by lia
 refine ⟨names[i.toNat],xbj hn,?_⟩
 have:=atI_nat (xs:=names.map D.str) (j:=i.toNat) (v:=.str names[i.toNat]) (by simp [hn])
 rwa [xbg h0] at this
theorem mQ {n d:Nat} {k:Int} (h0:0<=k) (h1:k<=n):HT.sIx n d (some k)=k.toNat:=by
 simp only [HT.sIx]
 rw [if_neg (by lia)]
 lia
theorem fK {α:Type} [DecidableEq α]:∀ {l m:List α},l.Nodup->(∀ x∈l,x∈m)->l.length<=m.length
 | [],_,_,_=>xas _
 | x :: l,m,nd,h=>by
  obtain ⟨hx,nd⟩:=xaH.mp nd
  have hm:=h x xad
  have:=fK (l:=l) (m:=m.erase x) nd fun y hy=>(List.mem_erase_of_ne (fun e=>by subst e; exact hx hy)).mpr (h y (xab _ hy))
  rw [List.length_erase_of_mem hm] at this
  have:=List.length_pos_of_mem hm
  simp only [xaN]
  lia
def gA (n:Nat):List Int:=(List.range n).map fun i=>((i:Nat):Int)
theorem rR (n:Nat):(gA n).length=n:=by simp [gA]
theorem sX {n:Nat} {x:Int}:x∈gA n↔0<=x/\x<n:=by
 unfold gA
 rw [xaj]
 constructor
 ·rintro ⟨i,hi,rfl⟩
  have:=xaV.mp hi
  lia
 ·intro ⟨h0,h1⟩
  exact ⟨x.toNat,xaV.mpr (by lia),by lia⟩
def StIn (many:Int) (steps:List Stp):Prop:=∀ s∈steps,StOk many s
theorem Bu {steps:List Stp} {i:Nat} {x:D} (h:(steps.map stpD)[i]? = some x):∃ p d r,x=.tup [.int p,.str d,.int r]/\(p,d,r)∈steps/\steps.take (i+1)=steps.take i++[(p,d,r)]:=by
 rw [xaG] at h
 cases e:steps[i]? with
 | none=>rw [e] at h; cases h
 | some s =>
  rw [e] at h
  cases h
  obtain ⟨p,d,r⟩:=s
  exact ⟨p,d,r,rfl,xaC e,by rw [xbM,e]; rfl⟩
theorem fj {l:List Int} {i:Int} (h0:0<=i) (h1:i<l.length):∃ c,c∈l/\atI (l.map D.int) i=some (.int c):=by
 have hn:i.toNat<l.length:=by lia
 refine ⟨l[i.toNat],xbj hn,?_⟩
 have:=atI_nat (xs:=l.map D.int) (j:=i.toNat) (v:=.int l[i.toNat]) (by simp [hn])
 rwa [xbg h0] at this
theorem yQ (x:Int) {m:Int} (h:0<m):0<=x % m/\x % m<m:=⟨Int.emod_nonneg _ (by lia),xcm _ h⟩
theorem bz {a b:Int} (h0:-1000<=b) (h1:b<=10000000000):CMul a b:=.inr ⟨by lia,by lia⟩
theorem g8 {a b:Int} (h0:-1000<=a) (h1:a<=10000000000):CMul a b:=.inl ⟨by lia,by lia⟩
theorem iu:∀ l:List Nat,sg (Str.join "" (l.map fun c=>(⟨#[c]⟩:Str)))=l
 | []=>by decide +kernel
 | [c]=>rfl
 | c :: d :: l=>by
  have ih:=iu (d :: l)
  show sg ((⟨#[c]⟩:Str) ++ "" ++ Str.join "" ((d :: l).map fun c=>(⟨#[c]⟩:Str)))=_
  rw [qw,qw,ih,show sg ("" : Str)=[] by decide +kernel]
  rfl
theorem rn:∀ l:List Nat,(l.map fun _=>1).sum=l.length
 | []=>rfl
 | x :: l=>by simp [rn l]; lia
theorem jZ:∀ (l:List Str),iK (l.map D.str)=some l
 | []=>rfl
 | x :: l=>by simp [iK,jZ l]
def Lts (n:Nat) (out:List D):Prop:=∃ cs:List Nat,out=cs.map (fun c=>D.str ⟨#[c]⟩)/\cs.length=n/\∀ c∈cs,isLet c=true
theorem Lts.nil:Lts 0 []:=⟨[],rfl,rfl,fun c hc=>nomatch hc⟩
theorem Lts.push {n:Nat} {out:List D} {c:Nat} (h:Lts n out) (hc:isLet c=true):Lts (n+1) (out++[.str ⟨#[c]⟩]):=by
 obtain ⟨cs,rfl,hl,ha⟩:=h
 refine ⟨cs++[c],by simp,by simp [hl],fun d hd=>?_⟩
 rcases xai.mp hd with hd | hd
 ·exact ha d hd
 ·rw [xaS.mp hd]; exact hc
theorem Lts.join {n:Nat} {out:List D} (h:Lts n out) (hn:n<=100) :
  ∃ zs,iK out=some zs/\(zs.map (·.length)).sum+zs.length * (Str.ofString "").length<=16777216/\(Str.join "" zs).length=n/\lets (Str.join "" zs):=by
 obtain ⟨cs,rfl,hl,ha⟩:=h
 refine ⟨cs.map fun c=>⟨#[c]⟩,?_,?_,?_⟩
 ·rw [<- jZ,xaJ]; rfl
 ·rw [show (Str.ofString "").length=0 by decide,xaJ,Nat.mul_zero,xbY]
  show (cs.map fun _=>1).sum<=_
  rw [rn]; lia
 ·have hw:=iu cs
  generalize Str.join "" (cs.map fun c=>(⟨#[c]⟩:Str))=word at hw ⊢
  refine ⟨?_,fun c hc=>ha c (by rwa [hw] at hc)⟩
  have:(sg word).length=n:=by rw [hw,hl]
  rw [<- this]; unfold sg Str.length; simp
theorem wR (l:List Str) (lo hi:Option Int):cutG (l.map D.str) lo hi=(cutG l lo hi).map D.str:=by
 unfold cutG
 rw [xag,List.map_take,List.map_drop]
theorem Ds {α:Type} {l:List α} {a b:Int} (h0:0<=a) (h1:a<b) (h2:a<l.length):1<=(cutG l (some a) (some b)).length/\(cutG l (some a) (some b)).length<=l.length/\∀ x∈cutG l (some a) (some b),x∈l:=by
 have e:HT.sIx l.length 0 (some a)=a.toNat:=mQ h0 (by lia)
 have e2:a.toNat<HT.sIx l.length l.length (some b):=by
  simp only [HT.sIx]
  rw [if_neg (by lia)]
  lia
 unfold cutG
 rw [e,xaE,xa5]
 exact ⟨by lia,by lia,fun x hx=>xce (xbR hx)⟩
theorem StD.v_ {P:Stp->Prop} {kvs:Kn} (h:StD P kvs) {R:List (List Key)->Prop} (k:∀ steps:List Stp,(steps.map stpK).Perm (kvs.map (·.1))->(∀ s∈steps,P s)->steps.Pairwise (fun a b=>ltP a b=true)->steps.length=kvs.length->R (steps.map stpK)) :
  ∃ b0 sh,(∀ p∈kvs,shOf p.1=b0 :: sh)/\∀ ms:List (List Key),ms.Perm (kvs.map (·.1))->(ms.Pairwise fun a b=>ltK b a=false)->R ms:=by
 refine ⟨true,[false,true],fun p hp=>?_,fun ms pm pw=>?_⟩
 ·obtain ⟨s,e,_⟩:=h.1 p hp
  rw [e]; rfl
 ·obtain ⟨l,rfl,hl⟩:=pW (P:=P) (ks:=ms) fun k hk=>by
   obtain ⟨p,hp,e⟩:=xaj.mp (pm.mem_iff.mp hk)
   rw [<- e]
   exact h.1 p hp
  refine k l pm hl ?_ (by have:=pm.length_eq; simpa using this)
  have nd:(l.map stpK).Nodup:=pm.nodup_iff.mpr h.2
  rw [xaL] at pw
  have nd':l.Pairwise fun a b=>stpK a≠stpK b:=by
   rw [List.Nodup,xaL] at nd
   exact nd
  refine (pw.and nd').imp fun {a b} ⟨h1,h2⟩=>?_
  unfold ltP
  cases h3:ltK (stpK a) (stpK b) with
  | true=>rfl
  | false=>exact absurd (ji (a:=stpK a) (b:=stpK b) rfl h3 h1) h2
theorem jU (l:List Stp):(l.map stpK).map keyT=l.map stpD:=by rw [xaJ]; rfl
theorem uZ {one states j copies:Int} (h0:0<=one) (h1:one<states) (hj:0<=j) (hj2:j<copies):0<=one+states * j/\one+states * j<copies * states:=by
 have a:=Int.mul_le_mul_of_nonneg_left (show j+1<=copies by lia) (show 0<=states by lia)
 rw [Int.mul_add,Int.mul_one,Int.mul_comm states copies] at a
 have b:=Int.mul_nonneg (show 0<=states by lia) hj
 lia
abbrev Pr:=Str × Int
abbrev Ky:=Int × List Pr
def prK (p:Pr):List Key:=[.inr p.1,.inl p.2]
def prD (p:Pr):D:=.tup [.str p.1,.int p.2]
def kyD (k:Ky):D:=.tup [.int k.1,.list (k.2.map prD)]
def rsD (r:List Int):D:=.list (r.map .int)
def ltY (a b:Ky):Bool:=PySem.SeqAt.ltP 3 (kyD a).py (kyD b).py
def OkY (k:Ky):Prop:=∀ p∈k.2,PyData.strOk p.1=true
theorem uR (k:Ky):(kyD k).py=.tuple [.int k.1,.list (k.2.map L2.du)]:=by
 show PyData.tuple [.int k.1,.list (pys (k.2.map prD))]=_
 rw [gU,xaJ]
 rfl
theorem OkY.rkS {k:Ky} (h:OkY k):L2.rkS (kyD k).py:=⟨k.1,k.2,uR k,h⟩
theorem mO (a:Ky) (h:OkY a):ltY a a=false:=L2.keyS.tot.irr _ h.rkS
theorem Du {a b c:Ky} (ha:OkY a) (hb:OkY b) (hc:OkY c):ltY a b=true->ltY b c=true->ltY a c=true:=L2.keyS.tot.tr _ _ _ ha.rkS hb.rkS hc.rkS
theorem zZ {p q:Pr} (h:prD p=prD q):p=q:=by
 obtain ⟨a,b⟩:=p
 obtain ⟨c,d⟩:=q
 simp [prD] at h
 rw [h.1,h.2]
theorem Bj {p q:Pr} (h:prK p=prK q):p=q:=by
 obtain ⟨a,b⟩:=p
 obtain ⟨c,d⟩:=q
 simp [prK] at h
 rw [h.1,h.2]
theorem map_inj {α β:Type} {f:α->β} (hf:∀ a b,f a=f b->a=b):∀ {l m:List α},l.map f=m.map f->l=m
 | [],[],_=>rfl
 | [],_ :: _,h=>by simp at h
 | _ :: _,[],h=>by simp at h
 | x :: l,y :: m,h=>by
  simp only [xat,List.cons.injEq] at h
  rw [hf _ _ h.1,map_inj hf h.2]
theorem uO {a b:Ky} (h:kyD a=kyD b):a=b:=by
 simp only [kyD,D.tup.injEq,List.cons.injEq,D.int.injEq,D.list.injEq] at h
 exact Prod.ext h.1 (map_inj (fun _ _=>zZ) h.2.1)
theorem yt:∀ l:List Pr,nbs (l.map prD)=true
 | []=>rfl
 | x :: l=>by simp [nbs,yt l,prD,D.nb]
theorem Dk (k:Ky):(kyD k).nb=true:=by simp [kyD,D.nb,nbs,yt]
theorem rG (a b:Ky):eqD (kyD a) (kyD b)=decide (a=b):=by
 rw [xbf,lV _ _ (Dk a) (Dk b),decide_eq_true_iff]
 exact ⟨uO,fun e=>by rw [e]⟩
theorem A_ {a b:Ky} (ha:OkY a) (hb:OkY b) (h1:ltY a b=false) (h2:ltY b a=false):a=b:=by
 have e:=L2.keyS.tot.tot _ _ ha.rkS hb.rkS h1 h2
 have:eqD (kyD a) (kyD b)=eqD (kyD a) (kyD a):=by unfold eqD; rw [e]
 rw [rG,rG] at this
 simpa using this
theorem zr {a b:Ky} (h:a.1<b.1):ltY a b=true:=by
 unfold ltY
 rw [uR,uR,PySem.SeqAt.ltP,PySem.SeqAt.lexP]
 have:PyData.eqv (.int a.1) (.int b.1)=false:=by
  have:a.1≠b.1:=by lia
  simpa [PyData.eqv] using this
 rw [this,if_neg xap,PySem.SeqAt.ltP]
 exact decide_eq_true h
theorem xW {k:Ky} (h:OkY k) (n:Nat):okD (n+3) (kyD k)=true:=by
 have:∀ p∈k.2.map prD,okD (n+1) p=true:=fun d hd=>by
  obtain ⟨p,hp,rfl⟩:=xaj.mp hd
  simp [prD,okD,h p hp]
 simp only [kyD,okD,xbH,List.all_nil,xcp,Bool.true_and,xbq]
 exact this
theorem yU {l:List Ky} (h:∀ k∈l,OkY k) (n:Nat):okD (n+4) (.list (l.map kyD))=true:=by
 simp only [okD,xcA,xbq]
 exact fun k hk=>xW (h k hk) n
theorem Dh (l:List Ky) (k:Ky):anyD (l.map kyD) (kyD k)=decide (k∈l):=by
 unfold anyD
 rw [List.any_map,xbf,xct,decide_eq_true_iff]
 constructor
 ·rintro ⟨j,hj,e⟩
  have e:eqD (kyD j) (kyD k)=true:=e
  rw [rG,decide_eq_true_iff] at e
  rwa [<- e]
 ·exact fun hk=>⟨k,hk,by show eqD (kyD k) (kyD k)=true; rw [rG]; exact decide_eq_true rfl⟩
theorem l_:∀ l:List Int,nbs (l.map D.int)=true
 | []=>rfl
 | x :: l=>by simp [nbs,l_ l,D.nb]
theorem FN (a b:List Int):eqD (.list (a.map .int)) (.list (b.map .int))=decide (a=b):=by
 rw [xbf,lV _ _ (by simp [D.nb,l_]) (by simp [D.nb,l_]),decide_eq_true_iff]
 refine ⟨fun h=>map_inj (f:=D.int) (fun _ _=>D.int.inj) (D.list.inj h),fun e=>by rw [e]⟩
theorem pM (l:List Int) (n:Nat):okD (n+1) (.list (l.map .int))=true:=by
 simp [okD,xcA]
theorem to_f {α β:Type} {f:β->α} {P:β->Prop}:∀ {ks:List α},(∀ k∈ks,∃ s,k=f s/\P s)->∃ l:List β,ks=l.map f/\∀ s∈l,P s
 | [],_=>⟨[],rfl,fun s h=>nomatch h⟩
 | k :: ks,h=>by
  obtain ⟨s,rfl,p⟩:=h k xad
  obtain ⟨l,rfl,q⟩:=to_f fun k hk=>h k (xab _ hk)
  refine ⟨s :: l,rfl,fun t ht=>?_⟩
  rcases xak.mp ht with rfl | ht
  ·exact p
  ·exact q t ht
theorem qG {α:Type} {lt:α->α->Prop}:∀ {l m:List α},(∀ a∈l,∀ b∈l,lt a b->lt b a->False)->l.Pairwise lt->m.Pairwise lt->(∀ x,x∈l↔x∈m)->l=m
 | [],[],_,_,_,_=>rfl
 | [],y :: m,_,_,_,h=>absurd ((h y).mpr xad) (by simp)
 | x :: l,[],_,_,_,h=>absurd ((h x).mp xad) (by simp)
 | x :: l,y :: m,as,hl,hm,h=>by
  obtain ⟨a1,a2⟩:=List.pairwise_cons.mp hl
  obtain ⟨b1,b2⟩:=List.pairwise_cons.mp hm
  have e:x=y:=by
   rcases xak.mp ((h x).mp xad) with e | e
   ·exact e
   ·rcases xak.mp ((h y).mpr xad) with e' | e'
    ·exact e'.symm
    ·exact (as x xad y (xab _ e') (a1 y e') (b1 x e)).elim
  subst e
  have irr:¬ lt x x:=fun z=>as x xad x xad z z
  rw [qG (fun a ha b hb=>as a (xab _ ha) b (xab _ hb)) a2 b2 fun z=>⟨fun hz=>by
   rcases xak.mp ((h z).mp (xab _ hz)) with e | e
   ·subst e; exact absurd (a1 z hz) irr
   ·exact e,fun hz=>by
   rcases xak.mp ((h z).mpr (xab _ hz)) with e | e
   ·subst e; exact absurd (b1 z hz) irr
   ·exact e⟩]
def rk (ranks:List Int) (s:Int):Int:=ranks.getD s.toNat 0
structure KyIs (steps:List Stp) (ranks:List Int) (s:Int) (k:Ky):Prop where
 fst:k.1=rk ranks s
 up:k.2.Pairwise fun a b=>ltK (prK a) (prK b)=true
 mem:∀ p,p∈k.2↔∃ t∈steps,t.1=s/\p=(t.2.1,rk ranks t.2.2)
theorem KyIs.ok {many:Int} {steps:List Stp} {ranks:List Int} {s:Int} {k:Ky} (a:KyIs steps ranks s k) (h:StIn many steps):OkY k:=fun p hp=>by
 obtain ⟨t,ht,_,rfl⟩:=(a.mem p).mp hp
 exact (h t ht).2.2.1.ok
structure RBy (many:Int) (steps:List Stp) (ranks r:List Int) (ky:Int->Ky) (diff:List Ky):Prop where
 len:r.length=many.toNat
 key:∀ s,0<=s->s<many->KyIs steps ranks s (ky s)
 up:diff.Pairwise fun a b=>ltY a b=true
 mem:∀ k,k∈diff↔∃ s,(0<=s/\s<many)/\k=ky s
 pos:∀ s,0<=s->s<many->0<=rk r s/\diff[(rk r s).toNat]? = some (ky s)
def RB (many:Int) (steps:List Stp) (ranks r:List Int):Prop:=∃ ky diff,RBy many steps ranks r ky diff
section
variable {many:Int} {steps:List Stp} {ranks r:List Int} {ky:Int->Ky} {diff:List Ky}
theorem RBy.ok (h:RBy many steps ranks r ky diff) (hin:StIn many steps) {k:Ky} (hk:k∈diff):OkY k:=by
 obtain ⟨s,hs,rfl⟩:=(h.mem k).mp hk
 exact (h.key s hs.1 hs.2).ok hin
theorem Gx {l m:List Int} (hl:l.length=many.toNat) (hm:m.length=many.toNat) (h:∀ s,0<=s->s<many->rk l s=rk m s):l=m:=by
 apply xcu (by lia)
 intro i h1 h2
 have:=h (i:Nat) (by lia) (by lia)
 unfold rk at this
 simpa [List.getD,h1,h2] using this
theorem RBy.inj (h:RBy many steps ranks r ky diff) (hin:StIn many steps) {i j:Nat} {k:Ky} (hi:diff[i]? = some k) (hj:diff[j]? = some k):i=j:=by
 obtain ⟨hi1,hi2⟩:=xal.mp hi
 obtain ⟨hj1,hj2⟩:=xal.mp hj
 have hk:k∈diff:=xaC hi
 have irr:=mO k (h.ok hin hk)
 have pw:=xaQ.mp h.up
 rcases Nat.lt_trichotomy i j with e | e | e
 ·have:=pw i j hi1 hj1 e
  rw [hi2,hj2,irr] at this; cases this
 ·exact e
 ·have:=pw j i hj1 hi1 e
  rw [hi2,hj2,irr] at this; cases this
theorem RBy.CT (h:RBy many steps ranks r ky diff) {s t:Int} (hs:0<=s/\s<many) (ht:0<=t/\t<many) (e:rk r s=rk r t):ky s=ky t:=by
 have p1:=(h.pos s hs.1 hs.2).2
 have p2:=(h.pos t ht.1 ht.2).2
 rw [e,p2] at p1
 exact (Option.some.inj p1).symm
theorem RBy.lt (h:RBy many steps ranks r ky diff) (hin:StIn many steps) {s t:Int} (hs:0<=s/\s<many) (ht:0<=t/\t<many):rk r s<rk r t↔ltY (ky s) (ky t)=true:=by
 have p1:=h.pos s hs.1 hs.2
 have p2:=h.pos t ht.1 ht.2
 have k1:=h.ok hin (xaC p1.2)
 have k2:=h.ok hin (xaC p2.2)
 obtain ⟨a1,a2⟩:=xal.mp p1.2
 obtain ⟨b1,b2⟩:=xal.mp p2.2
 have pw:=xaQ.mp h.up
 constructor
 ·intro l
  have:=pw _ _ a1 b1 (by lia)
  rwa [a2,b2] at this
 ·intro l
  by_cases z:rk r t<rk r s
  ·have:=pw _ _ b1 a1 (by lia)
   rw [a2,b2] at this
   have:=Du k1 k2 k1 l this
   rw [mO _ k1] at this; cases this
  ·by_cases z2:rk r s=rk r t
   ·have:=h.CT hs ht z2
    rw [this,mO _ k2] at l; cases l
   ·lia
theorem RB.mono (h:RB many steps ranks r) (hin:StIn many steps) {s t:Int} (hs:0<=s/\s<many) (ht:0<=t/\t<many) (l:rk ranks s<rk ranks t):rk r s<rk r t:=by
 obtain ⟨ky,diff,h⟩:=h
 refine (h.lt hin hs ht).mpr (zr ?_)
 rw [(h.key s hs.1 hs.2).fst,(h.key t ht.1 ht.2).fst]
 exact l
def rQ (many:Int) (r:List Int):Prop:=r.length=many.toNat/\(∀ s,0<=s->s<many->0<=rk r s/\rk r s<many)/\∀ s,0<=s->s<many->0<rk r s->∃ t,(0<=t/\t<many)/\rk r t=rk r s - 1
theorem RBy.short (h:RBy many steps ranks r ky diff) (hin:StIn many steps):diff.length<=many.toNat:=by
 have nd:diff.Nodup:=by
  rw [xbt]
  have:=xaQ.mp h.up
  rw [xaQ]
  intro i j hi hj hij e
  have z:=this i j hi hj hij
  rw [e,mO _ (h.ok hin (xbj hj))] at z
  cases z
 have:=fK (m:=(gA many.toNat).map ky) nd fun k hk=>by
  obtain ⟨s,hs,rfl⟩:=(h.mem k).mp hk
  exact xaj.mpr ⟨s,sX.mpr (by lia),rfl⟩
 rwa [xag,rR] at this
theorem RB.xN (h:RB many steps ranks r) (hin:StIn many steps):rQ many r:=by
 obtain ⟨ky,diff,h⟩:=h
 have sh:=h.short hin
 refine ⟨h.len,fun s a b=>?_,fun s a b c=>?_⟩
 ·have p:=h.pos s a b
  have:=(xal.mp p.2).1
  lia
 ·have p:=h.pos s a b
  have l:=(xal.mp p.2).1
  have l2:(rk r s - 1).toNat<diff.length:=by lia
  obtain ⟨t,ht,e⟩:=(h.mem _).mp (xbj l2)
  have p2:=h.pos t ht.1 ht.2
  have:=h.inj hin p2.2 (xal.mpr ⟨l2,e⟩)
  exact ⟨t,ht,by lia⟩
theorem RB.grows (h:RB many steps ranks r) (hin:StIn many steps) (d:rQ many ranks):∀ (n:Nat) (s:Int),0<=s->s<many->rk ranks s=n->rk ranks s<=rk r s
 | 0,s,a,b,e=>by rw [e]; exact ((h.xN hin).2.1 s a b).1
 | n+1,s,a,b,e=>by
  obtain ⟨t,ht,et⟩:=d.2.2 s a b (by lia)
  have:=RB.grows h hin d n t ht.1 ht.2 (by lia)
  have:=h.mono hin ht ⟨a,b⟩ (by lia)
  lia
theorem RB.le (h:RB many steps ranks r) (hin:StIn many steps) (d:rQ many ranks) {s:Int} (a:0<=s) (b:s<many):rk ranks s<=rk r s :=
 h.grows hin d (rk ranks s).toNat s a b (by have:=(d.2.1 s a b).1; lia)
end
theorem yI:∀ {l m:List Int},l.length=m.length->(∀ (i:Nat) (h1:i<l.length) (h2:i<m.length),l[i]<=m[i])->l.sum<=m.sum/\(l≠m->l.sum<m.sum)
 | [],[],_,_=>⟨by simp,fun h=>absurd rfl h⟩
 | [],y :: m,h,_=>by simp at h
 | x :: l,[],h,_=>by simp at h
 | x :: l,y :: m,h,hl=>by
  have ih:=yI (l:=l) (m:=m) (by simpa using h) fun i h1 h2=>by
   have:=hl (i+1) (by simp; lia) (by simp; lia)
   simpa using this
  have h0:x<=y:=by have:=hl 0 (by simp) (by simp); simpa using this
  simp only [List.sum_cons]
  refine ⟨by have:=ih.1; lia,fun ne=>?_⟩
  by_cases e:x=y
  ·subst e
   have:l≠m:=fun z=>ne (by rw [z])
   have:=ih.2 this
   lia
  ·have:=ih.1
   lia
theorem sum_bound {l:List Int} {b:Int} (h:∀ x∈l,x<=b) (hb:0<=b):l.sum<=l.length * b:=by
 induction l with
 | nil=>simp
 | cons x l ih =>
  have:=ih fun y hy=>h y (xab _ hy)
  have:=h x xad
  simp only [List.sum_cons,xaN]
  have e:((l.length+1:Nat):Int) * b=l.length * b+b:=by rw [Int.natCast_add,Int.add_mul]; simp
  lia
theorem iT {r:List Int} {i:Nat} (h:i<r.length):r[i]=rk r i:=by simp [rk,List.getD,h]
theorem RB.sum {many:Int} {steps:List Stp} {ranks r:List Int} (h:RB many steps ranks r) (hin:StIn many steps) (d:rQ many ranks) (hm:0<=many) (ne:r≠ranks):ranks.sum<r.sum/\r.sum<=many * many:=by
 have d2:=h.xN hin
 have hl:=d.1
 have hl2:=d2.1
 refine ⟨(yI (by lia) fun i h1 h2=>?_).2 fun e=>ne e.symm,?_⟩
 ·rw [iT h1,iT h2]
  exact h.le hin d (by lia) (by lia)
 ·have:=sum_bound (l:=r) (b:=many) (fun x hx=>by
   obtain ⟨i,hi,rfl⟩:=List.mem_iff_getElem.mp hx
   rw [iT hi]
   have:=(d2.2.1 i (by lia) (by lia)).2
   lia) hm
  rwa [hl2,xbg hm] at this
def Chain (many:Int) (steps:List Stp):List Int->List (List Int)->Prop
 | cur,[]=>RB many steps cur cur
 | cur,nxt :: rest=>RB many steps cur nxt/\nxt≠cur/\Chain many steps nxt rest
def fJ (cur:List Int) (rest:List (List Int)):List Int:=(cur :: rest).getLast (by simp)
theorem rM (cur nxt:List Int) (rest:List (List Int)):fJ cur (nxt :: rest)=fJ nxt rest:=by simp [fJ]
theorem Chain.last {many:Int} {steps:List Stp}:∀ {cur:List Int} {rest:List (List Int)},Chain many steps cur rest->RB many steps (fJ cur rest) (fJ cur rest)
 | _,[],h=>h
 | cur,nxt :: rest,h=>by rw [rM]; exact h.2.2.last
def zeros (many:Int):List Int:=List.replicate many.toNat 0
theorem eN (many s:Int):rk (zeros many) s=0:=by
 unfold rk zeros
 by_cases h:s.toNat<many.toNat
 ·simp [List.getD,h]
 ·rw [List.getD,xaK (by simpa using h)]; rfl
theorem pF {many:Int} (h:1<=many):rQ many (zeros many) :=
 ⟨by simp [zeros],fun s _ _=>by rw [eN]; lia,fun s _ _ z=>by rw [eN] at z; lia⟩
def Kinds (many:Int) (steps:List Stp) (k:List Int):Prop:=∃ rest,Chain many steps (zeros many) rest/\k=fJ (zeros many) rest
theorem wL {ps:List Pr} (hl:ps.length<=1000) {m:Md} {Q:Md->D->Prop} (k:∀ l:List Pr,l.Pairwise (fun a b=>ltK (prK a) (prK b)=true)->(∀ p,p∈l↔p∈ps)->Q (.ow true) (.list (l.map prD))) :
  dH m (.list (ps.map prD)) Q:=by
 refine ⟨ps.map prK,[true],by rw [xaJ]; rfl,by rw [xag]; exact hl,fun k hk=>?_,fun ms nd mm pw=>?_⟩
 ·obtain ⟨p,_,rfl⟩:=xaj.mp hk
  rfl
 ·obtain ⟨l,rfl,hp⟩:=to_f (f:=prK) (P:=fun p=>p∈ps) (ks:=ms) fun k hk=>by
   obtain ⟨p,hp,e⟩:=xaj.mp ((mm k).mp hk)
   exact ⟨p,e.symm,hp⟩
  have e:(l.map prK).map keyT=l.map prD:=by rw [xaJ]; rfl
  rw [e]
  refine k l ?_ fun p=>⟨hp p,fun hp'=>?_⟩
  ·rw [xaL] at pw
   have nd':l.Pairwise fun a b=>prK a≠prK b:=by
    rw [List.Nodup,xaL] at nd
    exact nd
   refine (pw.and nd').imp fun {a b} ⟨h1,h2⟩=>?_
   cases h3:ltK (prK a) (prK b) with
   | true=>rfl
   | false=>exact absurd (ji (a:=prK a) (b:=prK b) rfl h3 h1) h2
  ·obtain ⟨q,hq,e⟩:=xaj.mp ((mm (prK p)).mpr (xaj.mpr ⟨p,hp',rfl⟩))
   rw [<- Bj e]
   exact hq
def exS (steps:List Stp) (s:Int):List Pr:=(steps.filter fun t=>decide (t.1=s)).map (·.2)
def exL (many:Int) (steps:List Stp):List D:=(gA many.toNat).map fun s=>.list ((exS steps s).map prD)
def exD (many:Int) (steps:List Stp):D:=.list (exL many steps)
theorem CJ (many:Int):((nu 0 many.toNat).filter fun _=>true).map (fun _=>D.list [])=exL many []:=by
 unfold exL nu gA
 rw [xbE.mpr fun _ _=>rfl,xaJ,xaJ]
 rfl
theorem zE {many s:Int} (steps:List Stp) (h0:0<=s) (h1:s<many):(exL many steps)[s.toNat]? = some (.list ((exS steps s).map prD)):=by
 have:s.toNat<many.toNat:=by lia
 simp [exL,gA,this,xbg h0]
theorem m8 (many:Int) (steps:List Stp):(exL many steps).length=many.toNat:=by simp [exL,gA]
theorem vK {n:Nat} {i:Int} (h0:0<=i) (h1:i<n):ixN n i=some i.toNat:=by unfold ixN; rw [if_pos h0,if_pos h1]
theorem xF (steps:List Stp) (p:Int) (d:Str) (r s:Int):exS (steps++[(p,d,r)]) s=if p=s then exS steps s++[(d,r)] else exS steps s:=by
 unfold exS
 by_cases h:p=s
 ·simp [h]
 ·simp [h]
theorem BL {many p:Int} (steps:List Stp) (d:Str) (r:Int) (h0:0<=p) (h1:p<many):(exL many steps).set p.toNat (.list ((exS steps p).map prD++[.tup [.str d,.int r]]))=exL many (steps++[(p,d,r)]):=by
 apply xbe
 intro i
 by_cases hi:i<many.toNat
 ·have e:∀ st,(exL many st)[i]? = some (.list ((exS st (i:Nat)).map prD)):=fun st=>by
   have:=zE (many:=many) (s:=(i:Nat)) st (by lia) (by lia)
   simpa using this
  rw [e,xF]
  by_cases hp:p=(i:Nat)
  ·subst hp
   rw [if_pos rfl]
   simp [m8,hi,prD]
  ·rw [if_neg hp,xbA (by lia),e]
 ·rw [xaK (by rw [List.length_set,m8]; lia),xaK (by rw [m8]; lia)]
theorem EY {many s:Int} (steps:List Stp) (h0:0<=s) (h1:s<many):atI (exL many steps) s=some (.list ((exS steps s).map prD)) :=
 vq (vK h0 (by rw [m8]; lia)) (zE steps h0 h1)
theorem Dt {many s:Int} {r:List Int} (hl:r.length=many.toNat) (h0:0<=s) (h1:s<many):atI (r.map D.int) s=some (.int (rk r s)):=by
 have h:s.toNat<r.length:=by lia
 refine vq (vK h0 (by rw [xag]; lia)) ?_
 simp [rk,List.getD,h]
theorem uM {steps:List Stp} {s:Int} {p:Pr} (h:p∈exS steps s):∃ t∈steps,t.1=s/\t.2=p:=by
 obtain ⟨t,ht,e⟩:=xaj.mp h
 obtain ⟨ht,hs⟩:=xbV.mp ht
 exact ⟨t,ht,of_decide_eq_true hs,e⟩
theorem Be {steps:List Stp} {t:Stp} (h:t∈steps):t.2∈exS steps t.1:=xaj.mpr ⟨t,xbV.mpr ⟨h,decide_eq_true rfl⟩,rfl⟩
theorem vY (steps:List Stp) (s:Int):(exS steps s).length<=steps.length:=by
 unfold exS
 rw [xag]
 exact List.length_filter_le _ _
theorem vO (many:Int):(List.replicate many.toNat [D.int 0]).flatten=(zeros many).map D.int:=by
 unfold zeros
 generalize many.toNat=n
 induction n with
 | zero=>rfl
 | succ n ih=>rw [xaY,xa8,ih,xaY]; rfl
theorem Chain.at {many:Int} {steps:List Stp}:∀ {cur:List Int} {rest:List (List Int)},Chain many steps cur rest->∀ (i:Nat) (a b:List Int),(cur :: rest)[i]? = some a->(cur :: rest)[i+1]? = some b->RB many steps a b/\b≠a
 | _,[],_,i,a,b,_,hb=>by simp at hb
 | cur,nxt :: rest,h,0,a,b,ha,hb=>by
  cases ha
  cases hb
  exact ⟨h.1,h.2.1⟩
 | cur,nxt :: rest,h,i+1,a,b,ha,hb=>h.2.2.at i a b (by simpa using ha) (by simpa using hb)
theorem Chain.end {many:Int} {steps:List Stp} {cur:List Int} {rest:List (List Int)} (h:Chain many steps cur rest) {a:List Int} (ha:(cur :: rest)[rest.length]? = some a):RB many steps a a:=by
 have:=h.last
 unfold fJ at this
 rw [List.getLast_eq_getElem] at this
 have e:=(xal.mp ha).2
 simp only [xaN,Nat.add_sub_cancel] at this
 rwa [e] at this
theorem RB.len {many:Int} {steps:List Stp} {ranks r:List Int} (h:RB many steps ranks r):r.length=many.toNat:=by
 obtain ⟨ky,diff,h⟩:=h
 exact h.len
def ltPr (p q:Pr):Bool:=if p.1=q.1 then decide (p.2<q.2) else ltS p.1 q.1
def lexL:List Pr->List Pr->Bool
 | [],m=>!m.isEmpty
 | _ :: _,[]=>false
 | p :: l,q :: m=>if p=q then lexL l m else ltPr p q
theorem Dy (p q:Pr):ltK (prK p) (prK q)=ltPr p q:=by
 obtain ⟨a,b⟩:=p
 obtain ⟨c,d⟩:=q
 unfold ltPr prK
 by_cases h:a=c
 ·subst h
  by_cases g:b=d
  ·subst g; simp [ltK]
  ·simp [ltK,g,lt1]
 ·simp [ltK,h,lt1]
theorem wz {p q:Pr} (h:L2.du p=L2.du q):p=q:=by
 obtain ⟨a,b⟩:=p
 obtain ⟨c,d⟩:=q
 simp [L2.du] at h
 rw [h.1,h.2]
theorem yN:L2.Tot (PySem.SeqAt.ltP 1) fun x=>∃ a b,x=.tuple [a,b]/\(∃ s,a=.str s)/\∃ i,b=.int i:=L2.Tot.pair (L2.Tot.str 0) (L2.Tot.int 0)
theorem xP (p:Pr):∃ a b,L2.du p=.tuple [a,b]/\(∃ s,a=PyData.str s)/\∃ i,b=PyData.int i:=⟨_,_,rfl,⟨_,rfl⟩,_,rfl⟩
theorem F_ (p q:Pr):PySem.SeqAt.ltP 1 (L2.du p) (L2.du q)=ltPr p q:=by
 unfold L2.du
 rw [PySem.SeqAt.ltP,L2.cz (L2.Tot.str 0) (L2.Tot.int 0) ⟨_,rfl⟩ ⟨_,rfl⟩ ⟨_,rfl⟩ ⟨_,rfl⟩]
 unfold ltPr
 by_cases h:p.1=q.1
 ·rw [if_pos h,if_pos (by rw [h]),PySem.SeqAt.ltP]
 ·rw [if_neg h,if_neg (fun z=>h (by simpa using z)),PySem.SeqAt.ltP]
  rfl
theorem vm:∀ l m:List Pr,PySem.SeqAt.lexP (PySem.SeqAt.ltP 1) (l.map L2.du) (m.map L2.du)=lexL l m
 | [],[]=>rfl
 | [],_ :: _=>rfl
 | _ :: _,[]=>rfl
 | p :: l,q :: m=>by
  rw [xat,xat,L2.cA yN (xP p) (xP q),vm l m,F_]
  rw [lexL]
  by_cases h:p=q
  ·rw [if_pos h,if_pos (by rw [h])]
  ·rw [if_neg h,if_neg fun z=>h (wz z)]
theorem yw {a b:Ky}:ltY a b=if a.1=b.1 then lexL a.2 b.2 else decide (a.1<b.1):=by
 unfold ltY
 rw [uR,uR,PySem.SeqAt.ltP,L2.cz (L2.Tot.int 2) (L2.Tot.list yN) ⟨_,rfl⟩ ⟨_,rfl,fun y hy=>by obtain ⟨p,_,rfl⟩:=xaj.mp hy; exact xP p⟩ ⟨_,rfl⟩ ⟨_,rfl,fun y hy=>by obtain ⟨p,_,rfl⟩:=xaj.mp hy; exact xP p⟩]
 by_cases h:a.1=b.1
 ·rw [if_pos h,if_pos (by rw [h]),PySem.SeqAt.ltP,vm]
 ·rw [if_neg h,if_neg (fun z=>h (by simpa using z)),PySem.SeqAt.ltP]
structure Emb (many:Int) (steps:List Stp) (many2:Int) (steps2:List Stp) (off:Int):Prop where
 lo:0<=off
 hi:many+off<=many2
 to:∀ t∈steps,(t.1+off,t.2.1,t.2.2+off)∈steps2
 back:∀ u∈steps2,∀ s,0<=s->s<many->u.1=s+off->∃ t∈steps,t.1=s/\u=(t.1+off,t.2.1,t.2.2+off)
def OrdS (many off:Int) (r r2:List Int):Prop:=∀ s t,(0<=s/\s<many)->(0<=t/\t<many)->(rk r s<rk r t↔rk r2 (s+off)<rk r2 (t+off))
theorem OrdS.eq {many off:Int} {r r2:List Int} (h:OrdS many off r r2) {s t:Int} (hs:0<=s/\s<many) (ht:0<=t/\t<many):rk r s=rk r t↔rk r2 (s+off)=rk r2 (t+off):=by
 have a:=h s t hs ht
 have b:=h t s ht hs
 constructor <;> intro e <;> lia
open Classical in
def phi (many off:Int) (r r2:List Int) (v:Int):Int:=if z:∃ e,(0<=e/\e<many)/\rk r e=v then rk r2 (z.choose+off) else 0
theorem oY {many off:Int} {r r2:List Int} (h:OrdS many off r r2) {e:Int} (he:0<=e/\e<many):phi many off r r2 (rk r e)=rk r2 (e+off):=by
 have z:∃ e',(0<=e'/\e'<many)/\rk r e'=rk r e:=⟨e,he,rfl⟩
 unfold phi
 rw [dif_pos z]
 exact (h.eq z.choose_spec.1 he).mp z.choose_spec.2
def InR (many:Int) (r:List Int) (v:Int):Prop:=∃ e,(0<=e/\e<many)/\rk r e=v
theorem qZ {many off:Int} {r r2:List Int} (h:OrdS many off r r2) {v w:Int} (hv:InR many r v) (hw:InR many r w):v<w↔phi many off r r2 v<phi many off r r2 w:=by
 obtain ⟨e,he,rfl⟩:=hv
 obtain ⟨f,hf,rfl⟩:=hw
 rw [oY h he,oY h hf]
 exact h e f he hf
theorem vJ {many off:Int} {r r2:List Int} (h:OrdS many off r r2) {v w:Int} (hv:InR many r v) (hw:InR many r w):v=w↔phi many off r r2 v=phi many off r r2 w:=by
 have a:=qZ h hv hw
 have b:=qZ h hw hv
 constructor <;> intro e <;> lia
def phP (many off:Int) (r r2:List Int) (p:Pr):Pr:=(p.1,phi many off r r2 p.2)
theorem yJ {many off:Int} {r r2:List Int} (h:OrdS many off r r2) {p q:Pr} (hp:InR many r p.2) (hq:InR many r q.2):p=q↔phP many off r r2 p=phP many off r r2 q:=by
 constructor
 ·intro e; rw [e]
 ·intro e
  have e1:p.1=q.1:=(Prod.mk.inj e).1
  have e2:phi many off r r2 p.2=phi many off r r2 q.2:=(Prod.mk.inj e).2
  exact Prod.ext e1 ((vJ h hp hq).mpr e2)
theorem yV {many off:Int} {r r2:List Int} (h:OrdS many off r r2) {p q:Pr} (hp:InR many r p.2) (hq:InR many r q.2):ltPr (phP many off r r2 p) (phP many off r r2 q)=ltPr p q:=by
 unfold ltPr phP
 by_cases e:p.1=q.1
 ·rw [if_pos e,if_pos e,xbf,decide_eq_true_iff,decide_eq_true_iff]
  exact (qZ h hp hq).symm
 ·rw [if_neg e,if_neg e]
theorem uT {many off:Int} {r r2:List Int} (h:OrdS many off r r2):∀ (l m:List Pr),(∀ p∈l,InR many r p.2)->(∀ p∈m,InR many r p.2)->lexL (l.map (phP many off r r2)) (m.map (phP many off r r2))=lexL l m
 | [],[],_,_=>rfl
 | [],_ :: _,_,_=>rfl
 | _ :: _,[],_,_=>rfl
 | p :: l,q :: m,hl,hm=>by
  have ih:=uT h l m (fun x hx=>hl x (xab _ hx)) (fun x hx=>hm x (xab _ hx))
  have hp:=hl p xad
  have hq:=hm q xad
  simp only [xat,lexL]
  by_cases e:p=q
  ·rw [if_pos e,if_pos ((yJ h hp hq).mp e),ih]
  ·rw [if_neg e,if_neg fun z=>e ((yJ h hp hq).mpr z),yV h hp hq]
theorem yu {many many2 off:Int} {steps steps2:List Stp} {r r2:List Int} (E:Emb many steps many2 steps2 off) (hin:StIn many steps) (h:OrdS many off r r2) {s:Int} (hs:0<=s/\s<many) {k k2:Ky} (hk:KyIs steps r s k) (hk2:KyIs steps2 r2 (s+off) k2) :
  k2=(phi many off r r2 k.1,k.2.map (phP many off r r2))/\∀ p∈k.2,InR many r p.2:=by
 have inr:∀ p∈k.2,InR many r p.2:=fun p hp=>by
  obtain ⟨t,ht,_,rfl⟩:=(hk.mem p).mp hp
  exact ⟨t.2.2,⟨(hin t ht).2.2.2.1,(hin t ht).2.2.2.2⟩,rfl⟩
 refine ⟨Prod.ext ?_ ?_,inr⟩
 ·rw [hk2.fst,hk.fst,oY h hs]
 ·show k2.2=k.2.map (phP many off r r2)
  refine qG (lt:=fun a b=>ltK (prK a) (prK b)=true) (fun a _ b _ h1 h2=>by have:=qp h1 h2; rw [pN] at this; cases this) hk2.up ?_ fun p=>?_
  ·rw [xaL]
   refine (xaQ.mpr fun i j hi hj hij=>?_)
   have:=xaQ.mp hk.up i j hi hj hij
   rw [Dy] at this ⊢
   rw [yV h (inr _ (xbj hi)) (inr _ (xbj hj))]
   exact this
  ·rw [hk2.mem,xaj]
   constructor
   ·rintro ⟨u,hu,e1,rfl⟩
    obtain ⟨t,ht,et,rfl⟩:=E.back u hu s hs.1 hs.2 e1
    refine ⟨(t.2.1,rk r t.2.2),(hk.mem _).mpr ⟨t,ht,et,rfl⟩,?_⟩
    unfold phP
    rw [oY h ⟨(hin t ht).2.2.2.1,(hin t ht).2.2.2.2⟩]
   ·rintro ⟨q,hq,rfl⟩
    obtain ⟨t,ht,et,rfl⟩:=(hk.mem q).mp hq
    refine ⟨_,E.to t ht,by rw [et],?_⟩
    unfold phP
    rw [oY h ⟨(hin t ht).2.2.2.1,(hin t ht).2.2.2.2⟩]
theorem OrdS.next {many many2 off:Int} {steps steps2:List Stp} {r r2 q q2:List Int} (E:Emb many steps many2 steps2 off) (hin:StIn many steps) (hin2:StIn many2 steps2) (h:OrdS many off r r2) (b:RB many steps r q) (b2:RB many2 steps2 r2 q2):OrdS many off q q2:=by
 obtain ⟨ky,diff,b⟩:=b
 obtain ⟨ky2,diff2,b2⟩:=b2
 intro s t hs ht
 have lo:=E.lo
 have hi:=E.hi
 rw [b.lt hin hs ht,b2.lt hin2 (s:=s+off) (t:=t+off) (by lia) (by lia)]
 obtain ⟨es,is⟩:=yu E hin h hs (b.key s hs.1 hs.2) (b2.key (s+off) (by lia) (by lia))
 obtain ⟨et,it⟩:=yu E hin h ht (b.key t ht.1 ht.2) (b2.key (t+off) (by lia) (by lia))
 have i1:InR many r (ky s).1:=⟨s,hs,(b.key s hs.1 hs.2).fst.symm⟩
 have i2:InR many r (ky t).1:=⟨t,ht,(b.key t ht.1 ht.2).fst.symm⟩
 rw [es,et,yw,yw]
 show _↔(if phi many off r r2 (ky s).1=phi many off r r2 (ky t).1 then lexL ((ky s).2.map _) ((ky t).2.map _) else decide (phi many off r r2 (ky s).1<phi many off r r2 (ky t).1))=true
 by_cases e:(ky s).1=(ky t).1
 ·rw [if_pos e,if_pos ((vJ h i1 i2).mp e),uT h _ _ is it]
 ·rw [if_neg e,if_neg fun z=>e ((vJ h i1 i2).mpr z),decide_eq_true_iff,decide_eq_true_iff]
  exact qZ h i1 i2
def rdAt (rest:List (List Int)) (many:Int) (k:Nat):List Int:=(zeros many :: rest).getD (min k rest.length) []
theorem iR {many:Int} {steps:List Stp} {rest:List (List Int)} (h:Chain many steps (zeros many) rest) (k:Nat):RB many steps (rdAt rest many k) (rdAt rest many (k+1)):=by
 have at':∀ j,j<=rest.length->(zeros many :: rest)[j]? = some (rdAt rest many j):=fun j hj=>by
  unfold rdAt
  rw [Nat.min_eq_left hj,List.getD,xam (by simp; lia)]
  rfl
 by_cases hk:k+1<=rest.length
 ·exact (h.at k _ _ (at' k (by lia)) (at' (k+1) hk)).1
 ·have e:∀ j,rest.length<=j->rdAt rest many j=rdAt rest many rest.length:=fun j hj=>by
   unfold rdAt
   rw [Nat.min_eq_right hj,Nat.min_eq_right (xaf _)]
  rw [e k (by lia),e (k+1) (by lia)]
  exact h.end (at' rest.length (xaf _))
theorem eG {many many2 off:Int} {steps steps2:List Stp} {rest rest2:List (List Int)} (E:Emb many steps many2 steps2 off) (hin:StIn many steps) (hin2:StIn many2 steps2) (h:Chain many steps (zeros many) rest) (h2:Chain many2 steps2 (zeros many2) rest2) :
  ∀ k,OrdS many off (rdAt rest many k) (rdAt rest2 many2 k)
 | 0=>fun s t _ _=>by
  have e:∀ (m:Int) (rs:List (List Int)),rdAt rs m 0=zeros m:=fun m rs=>by simp [rdAt]
  rw [e,e,eN,eN,eN,eN]
 | k+1=>(eG E hin hin2 h h2 k).next E hin hin2 (iR h k) (iR h2 k)
theorem gk {many:Int} {rest:List (List Int)} {k:Nat} (hk:rest.length<=k):rdAt rest many k=fJ (zeros many) rest:=by
 unfold rdAt fJ
 rw [Nat.min_eq_right hk,List.getLast_eq_getElem,List.getD,xam (by simp)]
 simp
def sgI (a b:Int):Int:=(if decide (a>b) then 1 else 0) - (if decide (a<b) then 1 else 0)
def sgs (r:List Int):List (List Int):=r.map fun a=>r.map fun b=>sgI a b
theorem yE {l m:List Int} (hl:l.length=m.length) (h:∀ (i j:Nat) (hi:i<l.length) (hj:j<l.length),(l[i]<l[j]↔m[i]'(by lia)<m[j]'(by lia))):sgs l=sgs m:=by
 unfold sgs
 apply xcu (by simp [hl])
 intro i h1 h2
 simp only [xag] at h1 h2
 simp only [List.getElem_map]
 apply xcu (by simp [hl])
 intro j h3 h4
 simp only [xag] at h3 h4
 simp only [List.getElem_map]
 have a:=h i j h1 h3
 have b:=h j i h3 h1
 unfold sgI
 simp only [decide_eq_true_eq,gt_iff_lt,a,b]
def g_:WS :=
 (wSeq (wSet 1 (d_ (cg (wOp fIx (wVar 0) (wC (.int 0)))) (gN 0) wYes (wLst wNil) 1 []))
 (wSeq (wFrz 0 (wFor (oX (wOp fIx (wVar 0) (wC (.int 1)))) (gT 3 (eZ (gN 2) (eZ (gN 3) (eZ (gN 4) sG))))
 (wFrz 4 (wFrz 3 (wApp (wpIx (wpN 1) (wVar 2)) (wTup (aj (wVar 3) (aj (wVar 4) wNil))))))))
 (uo 1)))
def bW:SpD:=fun ds Q=>∃ (many:Int) (steps:List Stp),ds=[mD many steps]/\(0<=many/\many<=1000)/\StIn many steps/\steps.length<=1000/\Q (.ow true) (exD many steps)
theorem ou (ds Q) (h:bW ds Q):ds.length=["m"].length:=by obtain ⟨_,_,rfl,_⟩:=h; rfl
theorem rP:∀ ds Q,bW ds Q->g_ { nx:=fun _=>Q .sh .non,rt:=Q } (bO 5 ds):=by
 rintro ds Q ⟨many,steps,rfl,hm,hin,hl,h⟩
 unfold g_ mD
 walk_at "q"
 refine ⟨by lia,by lia,?_⟩
 refine dq (fun _=>true) (fun _=>.list []) (fun ρ=>∃ o,ρ=[o]) _ _ _ ⟨_,rfl⟩ ?_ ?_
 ·rintro x hx ρ ⟨o,rfl⟩ N1 N2 n1 n2
  walk_at "q"
  exact ⟨.inr rfl,n2 _ ⟨_,rfl⟩ rfl⟩
 rw [CJ]
 refine dD _ (fun i ρ=>∃ o2 o3 o4,ρ=[some (.sh (.tup [.int many,.list (steps.map stpD)])),some (.ow true (.list (exL many (steps.take i)))),o2,o3,o4]) ⟨none,none,none,by simp⟩ ?_ ?_
 ·rintro i x ρ hx ⟨o2,o3,o4,rfl⟩ N hN
  obtain ⟨p,d,r,rfl,hs,ht⟩:=Bu hx
  have ok:=hin _ hs
  walk_at "q"
  refine ⟨p.toNat,.list ((exS (steps.take i) p).map prD),vK ok.1 (by rw [m8]; have:=ok.2.1; lia),zE _ ok.1 ok.2.1,rfl,?_⟩
  walk_at "q"
  refine ⟨?_,?_⟩
  ·have:=vY (steps.take i) p
   have:(steps.take i).length<=steps.length:=by rw [xaE]; lia
   lia
  ·refine hN _ ⟨some (.sh (.int p)),some (.sh (.str d)),some (.sh (.int r)),?_⟩
   rw [BL _ _ _ ok.1 ok.2.1,<- ht]
 ·rintro ρ ⟨o2,o3,o4,rfl⟩
  walk_at "q"
  rw [xcs]
  exact h
def lO:WS :=
 (wRet (wTup (aj (wOp fIx (wVar 1) (wVar 2)) (aj (wUn dH (d_ (iy (wOp fIx (wVar 0) (wVar 2))) (gT 2 (eZ (gN 0) (eZ (gN 1) sG))) wYes (wTup (aj (wVar 0) (aj (wOp fIx (wVar 2) (wVar 1)) wNil))) 2 [1])) wNil))))
def dg:SpD:=fun ds Q=>∃ (many:Int) (steps:List Stp) (ranks:List Int) (s:Int),ds=[exD many steps,.list (ranks.map .int),.int s]/\(0<=s/\s<many)/\ranks.length=many.toNat/\StIn many steps/\steps.length<=1000/\∀ k,KyIs steps ranks s k->Q (.ow true) (kyD k)
theorem sZ (ds Q) (h:dg ds Q):ds.length=["exits", "ranks", "state"].length:=by obtain ⟨_,_,_,_,rfl,_⟩:=h; rfl
theorem xH:∀ ds Q,dg ds Q->lO { nx:=fun _=>Q .sh .non,rt:=Q } (bO 3 ds):=by
 rintro ds Q ⟨many,steps,ranks,s,rfl,hs,hr,hin,hl,h⟩
 unfold lO exD
 walk_at "q"
 refine ⟨_,Dt hr hs.1 hs.2,?_⟩
 walk_at "q"
 refine ⟨_,EY steps hs.1 hs.2,?_⟩
 walk_at "q"
 refine dq (fun _=>true) (fun d=>match d with
  | .tup [.str x,.int e]=>.tup [.str x,.int (rk ranks e)]
  | d=>d) (fun ρ=>∃ o0 o1,ρ=[o0,o1,some (.sh (.list (ranks.map .int)))]) _ _ _ ⟨_,_,rfl⟩ ?_ ?_
 ·rintro x hx ρ ⟨o0,o1,rfl⟩ N1 N2 n1 n2
  obtain ⟨p,hp,rfl⟩:=xaj.mp hx
  obtain ⟨t,ht,e1,e2⟩:=uM hp
  obtain ⟨x,e⟩:=p
  have ok:=hin t ht
  obtain ⟨t1,t2,t3⟩:=t
  cases e2
  unfold prD
  walk_at "q"
  refine ⟨_,Dt hr ok.2.2.2.1 ok.2.2.2.2,?_⟩
  walk_at "q"
  exact ⟨.inl rfl,n2 _ ⟨_,_,rfl⟩ rfl⟩
 have e1:((exS steps s).map prD |>.filter fun _=>true).map (fun d=>match d with
   | .tup [.str x,.int e]=>.tup [.str x,.int (rk ranks e)]
   | d=>d)=((exS steps s).map fun p=>(p.1,rk ranks p.2)).map prD:=by
  rw [xbE.mpr fun _ _=>rfl,xaJ,xaJ]
  rfl
 rw [e1]
 refine wL (ps:=(exS steps s).map fun p=>(p.1,rk ranks p.2)) (m:=.ow true) (Q:=fun _ d=>Q (.ow true) (.tup [.int (rk ranks s),d])) (by rw [xag]; exact xaA (vY steps s) hl) fun l up mem=>?_
 refine h (rk ranks s,l) ⟨rfl,up,fun p=>(mem p).trans ⟨fun hp=>?_,fun hp=>?_⟩⟩
 ·obtain ⟨q,hq,rfl⟩:=xaj.mp hp
  obtain ⟨t,ht,e1,rfl⟩:=uM hq
  exact ⟨t,ht,e1,rfl⟩
 ·obtain ⟨t,ht,rfl,rfl⟩:=hp
  exact xaj.mpr ⟨t.2,Be ht,rfl⟩
def cZ:WS :=
 (wSeq (wIfS (wB (wOp fLt (wVar 1) (wUn fLen (wVar 0))))
 (wRet (wOp fIx (wVar 0) (wVar 1)))
 fO)
 (wRet (wC (.int 0))))
def aB:SpD:=fun ds Q=>∃ (ns:List Int) (k:Int),ds=[.list (ns.map .int),.int k]/\0<=k/\Q .sh (.int (ns.getD k.toNat 0))
theorem iC (ds Q) (h:aB ds Q):ds.length=["_law_script", "_law_k"].length:=by obtain ⟨_,_,rfl,_⟩:=h; rfl
theorem jR:∀ ds Q,aB ds Q->cZ { nx:=fun _=>Q .sh .non,rt:=Q } (bO 2 ds):=by
 rintro ds Q ⟨ns,k,rfl,hk,h⟩
 unfold cZ
 walk_at "q"
 refine R.D (fun hl=>?_) fun hl=>?_
 ·walk_at "q"
  have hn:k.toNat<ns.length:=by lia
  refine ⟨.int ns[k.toNat],?_,?_⟩
  ·have:=atI_nat (xs:=ns.map D.int) (j:=k.toNat) (v:=.int ns[k.toNat]) (by simp [hn])
   rwa [xbg hk] at this
  ·show Q .sh _; simpa [List.getD,hn] using h
 ·walk_at "q"
  have:ns.getD k.toNat 0=0:=by
   have:ns.length<=k.toNat:=by lia
   simp [List.getD,xaK this]
  rwa [this] at h
def dZ:WS :=
 (wSeq (wSet 3 (wOp fIx (wLst (aj (wC (.int 1000003)) (aj (wC (.int 998244353)) (aj (wC (.int 104729)) (aj (wC (.int 2147483647)) (aj (wC (.int 15485863)) (aj (wC (.int 32452843)) wNil))))))) (wVar 1)))
 (wRet (wOp fMod (wOp fDiv (wOp fMod (wOp fMul (wVar 0) (wOp fIx (wLst (aj (wC (.int 48271)) (aj (wC (.int 69621)) (aj (wC (.int 16807)) (aj (wC (.int 40692)) (aj (wC (.int 39373)) (aj (wC (.int 22571)) wNil))))))) (wVar 1))) (wVar 3)) (wC (.int 11))) (wVar 2))))
def aq:SpD:=fun ds Q=>∃ c w m:Int,ds=[.int c,.int w,.int m]/\(0<=w/\w<6)/\0<m/\∀ r,0<=r->r<m->Q .sh (.int r)
theorem jM (ds Q) (h:aq ds Q):ds.length=["_law_cell", "_law_way", "_law_many"].length:=by obtain ⟨_,_,_,rfl,_⟩:=h; rfl
theorem nT:∀ ds Q,aq ds Q->dZ { nx:=fun _=>Q .sh .non,rt:=Q } (bO 4 ds):=by
 rintro ds Q ⟨c,w,m,rfl,hw,hm,h⟩
 unfold dZ
 walk_at "q"
 obtain ⟨p,hp,ep⟩:=fj (l:=[1000003,998244353,104729,2147483647,15485863,32452843]) hw.1 hw.2
 obtain ⟨q,hq,eq⟩:=fj (l:=[48271,69621,16807,40692,39373,22571]) hw.1 hw.2
 have hp':=(by decide:∀ p∈([1000003,998244353,104729,2147483647,15485863,32452843]:List Int),0<p) p hp
 have hq':=(by decide:∀ p∈([48271,69621,16807,40692,39373,22571]:List Int),0<p/\p<100000) q hq
 refine ⟨.int p,ep,?_⟩
 walk_at "q"
 refine ⟨.int q,eq,?_⟩
 walk_at "q"
 have:=yQ (c * q % p / 11) hm
 exact ⟨bz (by lia) (by lia),hp',hm,h _ this.1 this.2⟩
def dG:WS :=
 (wRet (d_ (iy (wVar 0)) (gT 3 (eZ (gN 0) (eZ (gN 1) (eZ (gN 2) sG)))) wYes (wTup (aj (wOp fAdd (wVar 0) (wVar 3)) (aj (wVar 1) (aj (wOp fAdd (wVar 2) (wVar 3)) wNil)))) 3 [1]))
def mvS (far:Int) (t:Stp):Stp:=(t.1+far,t.2.1,t.2.2+far)
def aV:SpD:=fun ds Q=>∃ (steps:List Stp) (far:Int),ds=[.list (steps.map stpD),.int far]/\Q (.ow true) (.list ((steps.map (mvS far)).map stpD))
theorem jG (ds Q) (h:aV ds Q):ds.length=["_law_steps", "_law_far"].length:=by obtain ⟨_,_,rfl,_⟩:=h; rfl
theorem nR:∀ ds Q,aV ds Q->dG { nx:=fun _=>Q .sh .non,rt:=Q } (bO 2 ds):=by
 rintro ds Q ⟨steps,far,rfl,h⟩
 unfold dG
 walk_at "q"
 refine dq (fun _=>true) (fun d=>match d with
  | .tup [.int a,.str x,.int b]=>.tup [.int (a+far),.str x,.int (b+far)]
  | d=>d) (fun ρ=>∃ o0 o1 o2,ρ=[o0,o1,o2,some (.sh (.int far))]) _ _ _ ⟨_,_,_,rfl⟩ ?_ ?_
 ·rintro x hx ρ ⟨o0,o1,o2,rfl⟩ N1 N2 n1 n2
  obtain ⟨⟨a,d,b⟩,ht,rfl⟩:=xaj.mp hx
  unfold stpD at n2 ⊢
  walk_at "q"
  exact ⟨.inl rfl,n2 _ ⟨_,_,_,rfl⟩ rfl⟩
 have e1:((steps.map stpD).filter fun _=>true).map (fun d=>match d with
   | .tup [.int a,.str x,.int b]=>.tup [.int (a+far),.str x,.int (b+far)]
   | d=>d)=(steps.map (mvS far)).map stpD:=by
  rw [xbE.mpr fun _ _=>rfl,xaJ,xaJ]
  rfl
 rw [e1]
 exact h
def dJ:WS :=
 (wRet (d_ (iy (wVar 0)) (gN 0) wYes (d_ (iy (wVar 1)) (gN 0) wYes (wOp fSub (wUn fInt (wOp fGt (wVar 1) (wVar 0))) (wUn fInt (wOp fLt (wVar 1) (wVar 0)))) 1 [0]) 1 [0]))
def aJ:SpD:=fun ds Q=>∃ r:List Int,ds=[.list (r.map .int)]/\Q (.ow true) (.list ((sgs r).map rsD))
theorem jL (ds Q) (h:aJ ds Q):ds.length=["_law_ranks"].length:=by obtain ⟨_,rfl,_⟩:=h; rfl
theorem oA:∀ ds Q,aJ ds Q->dJ { nx:=fun _=>Q .sh .non,rt:=Q } (bO 1 ds):=by
 rintro ds Q ⟨r,rfl,h⟩
 unfold dJ
 walk_at "q"
 refine dq (fun _=>true) (fun d=>match d with
  | .int a=>rsD (r.map fun b=>sgI a b)
  | d=>d) (fun ρ=>∃ o,ρ=[o,some (.sh (.list (r.map .int)))]) _ _ _ ⟨_,rfl⟩ ?_ ?_
 ·rintro x hx ρ ⟨o,rfl⟩ N1 N2 n1 n2
  obtain ⟨a,ha,rfl⟩:=xaj.mp hx
  walk_at "q"
  refine dq (fun _=>true) (fun d=>match d with
   | .int b=>.int (sgI a b)
   | d=>d) (fun ρ=>∃ o,ρ=[o,some (.sh (.int a))]) _ _ _ ⟨_,rfl⟩ ?_ ?_
  ·rintro y hy ρ ⟨o,rfl⟩ M1 M2 m1 m2
   obtain ⟨b,hb,rfl⟩:=xaj.mp hy
   walk_at "q"
   exact ⟨.inl rfl,m2 _ ⟨_,rfl⟩ rfl⟩
  have e1:((r.map D.int).filter fun _=>true).map (fun d=>match d with
    | .int b=>.int (sgI a b)
    | d=>d)=(r.map fun b=>sgI a b).map D.int:=by
   rw [xbE.mpr fun _ _=>rfl,xaJ,xaJ]
   rfl
  rw [e1]
  exact ⟨.inr rfl,n2 _ ⟨_,rfl⟩ rfl⟩
 have e1:((r.map D.int).filter fun _=>true).map (fun d=>match d with
   | .int a=>rsD (r.map fun b=>sgI a b)
   | d=>d)=(sgs r).map rsD:=by
  unfold sgs
  rw [xbE.mpr fun _ _=>rfl,xaJ,xaJ]
  rfl
 rw [e1]
 exact h
def cW:WS :=
 (wSeq (wSet 2 (d_ (cg (wUn fLen (wVar 1))) (gN 0) wYes (aL dg (aj (wVar 1) (aj (wVar 2) (aj (wVar 0) wNil)))) 1 [0,1]))
 (wSeq (wSet 3 (wLst wNil))
 (wSeq (wFrz 2 (wFor (oX (wUn tZ (wVar 2))) (gN 4)
 (wIfS (wB (wOp (fInR true) (wVar 4) (wVar 3)))
 (wFrz 4 (wApp (wpN 3) (wVar 4)))
 fO)))
 (wRet (d_ (iy (wVar 2)) (gN 0) wYes (qD (wVar 1) (wVar 0)) 1 [3])))))
def aR:SpD:=fun ds Q=>∃ (many:Int) (steps:List Stp) (ranks:List Int),ds=[exD many steps,.list (ranks.map .int)]/\(0<=many/\many<=1000)/\ranks.length=many.toNat/\StIn many steps/\steps.length<=1000/\∀ r,RB many steps ranks r->Q (.ow true) (.list (r.map .int))
theorem iJ (ds Q) (h:aR ds Q):ds.length=["exits", "ranks"].length:=by obtain ⟨_,_,_,rfl,_⟩:=h; rfl
theorem jQ:∀ ds Q,aR ds Q->cW { nx:=fun _=>Q .sh .non,rt:=Q } (bO 5 ds):=by
 rintro ds Q ⟨many,steps,ranks,rfl,hm,hr,hin,hl,h⟩
 unfold cW exD
 walk_at "q"
 refine ⟨by lia,by lia,?_⟩
 refine cu (fun n out=>∃ l:List Ky,out=l.map kyD/\l.length=n/\∀ (i:Nat) k,l[i]? = some k->KyIs steps ranks i k) (fun ρ=>∃ o,ρ=[o,some (.sh (.list (exL many steps))),some (.sh (.list (ranks.map .int)))]) _ 0 [] _ _ ⟨_,rfl⟩ ⟨[],rfl,rfl,fun i k hk=>by simp at hk⟩ ?_ ?_
 ·rintro j y hy ρ ⟨o,rfl⟩ out ⟨l,rfl,hll,hk⟩ N1 N2 hN2
  have hj:=(bL hy).1
  obtain ⟨_,rfl⟩:=bL hy
  walk_at "q"
  refine ⟨many,steps,ranks,0+(j:Nat),rfl,by lia,hr,hin,hl,fun k hk2=>?_⟩
  walk_at "q"
  refine ⟨.inr rfl,hN2 _ _ ⟨_,rfl⟩ ⟨l++[k],by simp,by simp [hll],fun i k' hk'=>?_⟩⟩
  rcases xbZ i l.length with hi | hi
  ·rw [xa0 hi] at hk'
   exact hk i k' hk'
  ·rw [xaM hi] at hk'
   have hi0:i - l.length=0:=by
    rcases Nat.eq_zero_or_pos (i - l.length) with z | z
    ·exact z
    ·rw [xaK (by simp; lia)] at hk'; cases hk'
   rw [hi0] at hk'
   cases hk'
   have:((i:Nat):Int)=0+(j:Nat):=by lia
   rw [this]
   exact hk2
 rintro out ⟨l,e,hll,hk⟩
 simp only [xbw] at e
 subst e
 rw [bH,xa3] at hll
 have okl:∀ k∈l,OkY k:=fun k hkm=>by
  obtain ⟨i,hi⟩:=xbu.mp hkm
  exact (hk i k hi).ok hin
 refine ⟨fun d hd=>?_,fun ms pm pw=>?_⟩
 ·obtain ⟨k,hkm,rfl⟩:=xaj.mp hd
  exact ⟨xW (okl k hkm) 9,(okl k hkm).rkS⟩
 obtain ⟨l2,rfl,hl2⟩:=to_f (f:=kyD) (P:=fun k=>k∈l) (ks:=ms) fun d hd=>by
  obtain ⟨k,hkm,e⟩:=xaj.mp (pm.mem_iff.mp hd)
  exact ⟨k,e.symm,hkm⟩
 have back:∀ k∈l,k∈l2:=fun k hkm=>by
  obtain ⟨j,hj,e⟩:=xaj.mp (pm.mem_iff.mpr (xaj.mpr ⟨k,hkm,rfl⟩))
  rw [<- uO e]; exact hj
 have hll2:l2.length=l.length:=by have:=pm.length_eq; simpa using this
 rw [xaL] at pw
 have pw:l2.Pairwise fun a b=>ltY b a=false:=pw
 refine dD _ (fun i ρ=>∃ (diff:List Ky) (fl:Bool) (o4:Option Sl),diff.Pairwise (fun a b=>ltY a b=true)/\(∀ k,k∈diff↔k∈l2.take i)/\diff.length<=i/\ρ=[some (.sh (.list (exL many steps))),some (.sh (.list (ranks.map .int))),some (.sh (.list (l.map kyD))),some (.ow fl (.list (diff.map kyD))),o4]) ⟨[],true,none,.nil,by simp,by simp,rfl⟩ ?_ ?_
 ·rintro i x ρ hx ⟨diff,fl,o4,up,mem,dl,rfl⟩ N hN
  obtain ⟨hi,hx'⟩:=xal.mp hx
  have hi':i<l2.length:=by simpa using hi
  have hxe:x=kyD l2[i]:=by rw [<- hx']; simp
  subst hxe
  have hkm:l2[i]∈l:=hl2 _ (xbj hi')
  have tk:l2.take (i+1)=l2.take i++[l2[i]]:=by rw [xbM,xam hi']; rfl
  have okd:∀ k∈diff,OkY k:=fun k hkd=>okl k (hl2 k (xbR ((mem k).mp hkd)))
  generalize ek:l2[i]=k at *
  walk_at "q"
  refine ⟨xW (okl k hkm) 9,yU okd 8,?_⟩
  rw [Dh]
  by_cases hd:k∈diff
  ·refine R.F (by simp [hd]) ?_
   walk_at "q"
   refine hN _ ⟨diff,fl,_,up,fun k'=>?_,by lia,rfl⟩
   rw [mem,tk,xai,xaS]
   exact ⟨.inl,fun z=>z.elim id fun e=>by rw [e]; exact (mem k).mp hd⟩
  ·refine R.T (by simp [hd]) ?_
   walk_at "q"
   refine ⟨by lia,?_⟩
   refine hN _ ⟨diff++[k],fl && (kyD k).flat,some (.sh (kyD k)),?_,fun k'=>?_,by simp; lia,by simp⟩
   ·refine xbB.mpr ⟨up,by simp,fun a ha b hb=>?_⟩
    rw [xaS.mp hb]
    cases h3:ltY a k with
    | true=>rfl
    | false =>
     have h4:ltY k a=false:=by
      obtain ⟨j,hj⟩:=xbu.mp ((mem a).mp ha)
      obtain ⟨hj1,hj2⟩:=xal.mp hj
      have hji:j<i:=by rw [xaE] at hj1; lia
      have:=xaQ.mp pw j i (by lia) hi' hji
      rw [ek] at this
      rw [xcq] at hj2
      rwa [hj2] at this
     exact absurd (A_ (okd a ha) (okl k hkm) h3 h4) fun e=>hd (by rw [<- e]; exact ha)
   ·rw [xai,xaS,mem,tk,xai,xaS]
 ·rintro ρ ⟨diff,fl,o4,up,mem,dl,rfl⟩
  rw [xag,xcs] at mem
  have md:∀ k,k∈diff↔k∈l:=fun k=>(mem k).trans ⟨hl2 k,back k⟩
  have okd:∀ k∈diff,OkY k:=fun k hkd=>okl k ((md k).mp hkd)
  walk_at "q"
  refine cu (fun n out=>∃ r:List Int,out=r.map .int/\r.length=n/\∀ (i:Nat) x,r[i]? = some x->0<=x/\diff[x.toNat]? = l[i]?) (fun ρ=>∃ o,ρ=[o,some (.sh (.list (diff.map kyD)))]) _ 0 [] _ _ ⟨_,rfl⟩ ⟨[],rfl,rfl,fun i k hk=>by simp at hk⟩ ?_ ?_
  ·rintro j y hy ρ ⟨o,rfl⟩ out ⟨r,rfl,hrl,hrk⟩ N1 N2 hN2
   obtain ⟨hj,hy'⟩:=xal.mp hy
   have hj':j<l.length:=by simpa using hj
   have hye:y=kyD l[j]:=by rw [<- hy']; simp
   subst hye
   have hkm:l[j]∈l:=xbj hj'
   have hlj:l[j]? = some l[j]:=xam hj'
   generalize l[j]=k at *
   have hkd:=(md k).mpr hkm
   have hix:=List.idxOf_lt_length_of_mem hkd
   walk_at "q"
   refine ⟨yU okd 8,xW (okl k hkm) 9,diff.idxOf k,⟨kyD k,?_,by rw [rG]; exact decide_eq_true rfl⟩,fun i z hi hz=>?_,.inl rfl,hN2 _ _ ⟨_,rfl⟩ ⟨r++[((diff.idxOf k:Nat):Int)],by simp,by simp [hrl],fun i x hx=>?_⟩⟩
   ·rw [xaG,xam hix,List.getElem_idxOf hix]; rfl
   ·rw [xaG,xam (by lia)] at hz
    cases hz
    rw [rG]
    refine decide_eq_false fun e=>?_
    have:=List.not_of_lt_findIdx (p:=(· == k)) (xs:=diff) hi
    rw [show diff[i]=k from e] at this
    simp at this
   ·rcases xbZ i r.length with hi | hi
    ·rw [xa0 hi] at hx
     exact hrk i x hx
    ·rw [xaM hi] at hx
     have hi0:i - r.length=0:=by
      rcases Nat.eq_zero_or_pos (i - r.length) with z | z
      ·exact z
      ·rw [xaK (by simp; lia)] at hx; cases hx
     rw [hi0] at hx
     cases hx
     have:i=j:=by lia
     subst this
     refine ⟨by lia,?_⟩
     rw [hlj,xbx,xam hix,List.getElem_idxOf hix]
  rintro out ⟨r,e,hrl,hrk⟩
  simp only [xbw] at e
  subst e
  rw [xag,xa3] at hrl
  refine h r ⟨fun s=>l.getD s.toNat (0,[]),diff,by lia,fun s a b=>?_,up,fun k=>?_,fun s a b=>?_⟩
  ·have hs:s.toNat<l.length:=by lia
   have:=hk s.toNat l[s.toNat] (xam hs)
   rw [xbg a] at this
   simpa [List.getD,hs] using this
  ·rw [md]
   constructor
   ·intro hkm
    obtain ⟨i,hi,rfl⟩:=List.mem_iff_getElem.mp hkm
    exact ⟨(i:Nat),by lia,by simp [List.getD,hi]⟩
   ·rintro ⟨s,hs,rfl⟩
    have hs:s.toNat<l.length:=by lia
    simp [List.getD,hs]
  ·have hs:s.toNat<r.length:=by lia
   have hs':s.toNat<l.length:=by lia
   have:=hrk s.toNat r[s.toNat] (xam hs)
   simpa [rk,List.getD,hs,hs'] using this
def dw:WS :=
 (wSeq (wFor (cg (wC (.int 6))) (gN 7)
 (wSeq (wSet 8 (jf (wC (.str "")) (d_ (cg (wVar 2)) (gN 0) wYes (wOp fIx (wVar 4) (wOp fMod (wOp fAdd (wOp fIx (wVar 2) (wVar 0)) (wOp fMul (wVar 3) (wUn fInt (wOp fEq (wVar 0) (wVar 1))))) (wC (.int 26)))) 1 [3,4,7,1])))
 (wSeq (wIfS (wB (wOp fEq (wVar 5) (wC (.int 1))))
 (wSet 8 (jf (wC (.str "")) (d_ (cg (wOp fAdd (wVar 7) (wC (.int 1)))) (gN 0) wYes (wOp fIx (wVar 2) (wOp fIx (wVar 1) (wVar 0))) 1 [4,1])))
 fO)
 (wSeq (wIfS (wB (wOp fEq (wVar 5) (wC (.int 2))))
 (wSeq (wSet 9 (d_ (cg (aL aq (aj (wOp fAdd (wVar 0) (wVar 7)) (aj (wC (.int 4)) (aj (wC (.int 6)) wNil))))) (gN 0) wYes (wOp fIx (wVar 2) (wOp fIx (wVar 1) (wVar 0))) 1 [4,1]))
 (wSet 8 (wOp fAdd (wOp fIx (wVar 1) (wOp fMod (wOp fAdd (wOp fIx (wVar 4) (wC (.int 0))) (wOp fMul (wC (.int 11)) (wVar 7))) (wC (.int 26)))) (jf (wC (.str "")) (wVar 9)))))
 fO)
 (wSeq (wIfS (wB (wOp fEq (wVar 5) (wC (.int 3))))
 (wSet 8 (jf (wC (.str "")) (d_ (cg (wC (.int 6))) (gN 0) wYes (wOp fIx (wVar 3) (wOp fMod (wOp fAdd (wOp fIx (wVar 1) (wC (.int 0))) (wOp fMod (wOp fAdd (wVar 0) (wVar 2)) (wC (.int 6)))) (wC (.int 26)))) 1 [4,7,1])))
 fO)
 (wFrz 8 (wApp (wpN 6) (wVar 8))))))))
 (wSeq (wSet 10 (aL aq (aj (wVar 0) (aj (wC (.int 4)) (aj (wC (.int 2)) wNil)))))
 (wRet (wSl (wOp fAdd (wLst (aj (wC (.str "*")) wNil)) (wVar 6)) (nU (wVar 10)) (nU (wOp fAdd (wOp fAdd (wVar 10) (wC (.int 1))) (aL aq (aj (wVar 0) (aj (wC (.int 5)) (aj (wC (.int 7)) wNil))))))))))
def fD:WS :=
 (wSeq (wSet 1 (wC (.str "abcdefghijklmnopqrstuvwxyz")))
 (wSeq (wSet 2 (wOp fAdd (wC (.int 1)) (aL aq (aj (wVar 0) (aj (wC (.int 0)) (aj (wC (.int 6)) wNil))))))
 (wSeq (wSet 3 (aL aq (aj (wVar 0) (aj (wC (.int 1)) (aj (wVar 2) wNil)))))
 (wSeq (wSet 4 (d_ (cg (wC (.int 6))) (gN 0) wYes (aL aq (aj (wOp fAdd (wOp fMul (wVar 1) (wOp fAdd (wVar 0) (wC (.int 1)))) (wVar 0)) (aj (wC (.int 2)) (aj (wC (.int 26)) wNil)))) 1 [0]))
 (wSeq (wSet 5 (aL aq (aj (wVar 0) (aj (wC (.int 3)) (aj (wC (.int 4)) wNil)))))
 (wSeq (wSet 6 (wLst wNil))
 dw))))))
def aY:SpD:=fun ds Q=>∃ c:Int,ds=[.int c]/\∀ names:List Str,1<=names.length->names.length<=7->(∀ n∈names,Deed n)->Q (.ow true) (.list (names.map .str))
theorem mW (ds Q) (h:aY ds Q):ds.length=["_law_cell"].length:=by obtain ⟨_,rfl,_⟩:=h; rfl
theorem lH (Q:Md->D->Prop) (c size at' kind:Int) (base:List Int) (hs:1<=size/\size<=6) (hk:0<=kind/\kind<4) (hb:base.length=6) (hbb:∀ b∈base,0<=b/\b<26)
  (h:∀ names:List Str,1<=names.length->names.length<=7->(∀ n∈names,Deed n)->Q (.ow true) (.list (names.map .str))) :
  dw { nx:=fun _=>Q .sh .non,rt:=Q } [some (.sh (.int c)),some (.sh (.str abc)),some (.sh (.int size)),some (.sh (.int at')),some (.ow true (.list (base.map .int))),some (.sh (.int kind)),some (.ow true (.list [])),none,none,none,none]:=by
 unfold dw
 walk_at "q"
 refine dD _ (fun i ρ=>∃ (words:List Str) (o7 o8 o9:Option Sl),words.length=i/\(∀ n∈words,Open n)/\ρ=[some (.sh (.int c)),some (.sh (.str abc)),some (.sh (.int size)),some (.sh (.int at')),some (.ow true (.list (base.map .int))),some (.sh (.int kind)),some (.ow true (.list (words.map .str))),o7,o8,o9,none]) ⟨[],_,_,_,rfl,(fun n hn=>nomatch hn),rfl⟩ ?_ ?_
 ·rintro i x ρ hx ⟨words,o7,o8,o9,hl,ho,rfl⟩ N hN
  obtain ⟨hi,rfl⟩:=bL hx
  have hi:i<6:=hi
  have push:∀ (w:Str) (o9':Option Sl),Open w->N [some (.sh (.int c)),some (.sh (.str abc)),some (.sh (.int size)),some (.sh (.int at')),some (.ow true (.list (base.map .int))),some (.sh (.int kind)),some (.ow true (.list (words.map .str++[.str w]))),some (.sh (.int (0+(i:Nat)))),some (.sh (.str w)),o9',none]:=fun w o9' hw=>by
   rw [yq]
   refine hN _ ⟨words++[w],_,_,_,by simp [hl],fun n hn=>?_,rfl⟩
   rcases xai.mp hn with hn | hn
   ·exact ho n hn
   ·rw [xaS.mp hn]; exact hw
  walk_at "q"
  refine ⟨by lia,by lia,?_⟩
  refine cu (fun n out=>Lts n out) (fun ρ=>∃ o,ρ=[o,some (.sh (.int at')),some (.sh (.list (base.map .int))),some (.sh (.int (0+(i:Nat)))),some (.sh (.str abc))]) _ 0 [] _ _ ⟨_,rfl⟩ Lts.nil ?_ ?_
  ·rintro j y hy ρ ⟨o,rfl⟩ out ho N1 N2 hN2
   obtain ⟨hj,rfl⟩:=bL hy
   walk_at "q"
   obtain ⟨b,_,eb⟩:=fj (l:=base) (i:=0+(j:Nat)) (by lia) (by lia)
   refine ⟨.int b,eb,?_⟩
   walk_at "q"
   refine ⟨g8 (by lia) (by lia),?_⟩
   obtain ⟨ch,ec,lc⟩:=pC (b+(0+(i:Nat)) * (if decide (0+(j:Int)=at')=true then 1 else 0))
   refine ⟨ch,ec,.inl rfl,hN2 _ _ ⟨_,rfl⟩ ?_⟩
   rw [xa3] at ho ⊢
   exact ho.push lc
  intro out hout
  rw [bH] at hout
  simp only [xa3,xbw] at hout
  obtain ⟨zs,ez,zl,wl0,we0⟩:=hout.join (by lia)
  refine ⟨zs,ez,zl,?_⟩
  generalize Str.join _ zs=w0 at *
  have hw0:Open w0:=⟨by lia,by lia,we0⟩
  clear ez zl
  rcases (show kind=0\/kind=1\/kind=2\/kind=3 by lia) with rfl | rfl | rfl | rfl
  ·refine R.F (by decide) ?_
   walk_at "q"
   refine R.F (by decide) ?_
   walk_at "q"
   refine R.F (by decide) ?_
   walk_at "q"
   exact ⟨by lia,push w0 _ hw0⟩
  ·refine R.T (by decide) ?_
   walk_at "q"
   refine ⟨by lia,by lia,?_⟩
   refine cu (fun n out=>Lts n out) (fun ρ=>∃ o,ρ=[o,some (.sh (.list (base.map .int))),some (.sh (.str abc))]) _ 0 [] _ _ ⟨_,rfl⟩ Lts.nil ?_ ?_
   ·rintro j y hy ρ ⟨o,rfl⟩ out ho N1 N2 hN2
    obtain ⟨hj,rfl⟩:=bL hy
    walk_at "q"
    obtain ⟨b,mb,eb⟩:=fj (l:=base) (i:=0+(j:Nat)) (by lia) (by lia)
    refine ⟨.int b,eb,?_⟩
    walk_at "q"
    obtain ⟨ch,ec,lc⟩:=uQ (hbb b mb).1 (hbb b mb).2
    refine ⟨ch,ec,.inl rfl,hN2 _ _ ⟨_,rfl⟩ ?_⟩
    rw [xa3] at ho ⊢
    exact ho.push lc
   intro out hout
   rw [bH] at hout
   simp only [xa3,xbw] at hout
   obtain ⟨zs,ez,zl,wl1,we1⟩:=hout.join (by lia)
   refine ⟨zs,ez,zl,?_⟩
   generalize Str.join _ zs=w1 at *
   refine R.F (by decide) ?_
   walk_at "q"
   refine R.F (by decide) ?_
   walk_at "q"
   exact ⟨by lia,push w1 _ ⟨by lia,by lia,we1⟩⟩
  ·refine R.F (by decide) ?_
   walk_at "q"
   refine ⟨_,4,6,rfl,by decide,by decide,fun r r0 r1=>?_⟩
   walk_at "q"
   refine ⟨by lia,by lia,?_⟩
   refine cu (fun n out=>Lts n out) (fun ρ=>∃ o,ρ=[o,some (.sh (.list (base.map .int))),some (.sh (.str abc))]) _ 0 [] _ _ ⟨_,rfl⟩ Lts.nil ?_ ?_
   ·rintro j y hy ρ ⟨o,rfl⟩ out ho N1 N2 hN2
    obtain ⟨hj,rfl⟩:=bL hy
    walk_at "q"
    obtain ⟨b,mb,eb⟩:=fj (l:=base) (i:=0+(j:Nat)) (by lia) (by lia)
    refine ⟨.int b,eb,?_⟩
    walk_at "q"
    obtain ⟨ch,ec,lc⟩:=uQ (hbb b mb).1 (hbb b mb).2
    refine ⟨ch,ec,.inl rfl,hN2 _ _ ⟨_,rfl⟩ ?_⟩
    rw [xa3] at ho ⊢
    exact ho.push lc
   intro out hout
   rw [bH] at hout
   simp only [xa3,xbw] at hout
   obtain ⟨b0,mb0,eb0⟩:=fj (l:=base) (i:=0) (by lia) (by lia)
   refine ⟨.int b0,eb0,?_⟩
   walk_at "q"
   obtain ⟨ch,ec,lc⟩:=pC (b0+11 * (0+(i:Nat)))
   refine ⟨g8 (by lia) (by lia),ch,ec,?_⟩
   obtain ⟨zs,ez,zl,wl1,we1⟩:=hout.join (by lia)
   refine ⟨zs,ez,zl,?_⟩
   generalize Str.join _ zs=w1 at *
   refine ⟨by rw [gZ]; lia,?_⟩
   refine R.F (by decide) ?_
   walk_at "q"
   exact ⟨by lia,push _ _ ⟨by rw [cO,gZ]; lia,by rw [cO,gZ]; lia,xQ (wX lc) we1⟩⟩
  ·refine R.F (by decide) ?_
   walk_at "q"
   refine R.F (by decide) ?_
   walk_at "q"
   refine cu (fun n out=>Lts n out) (fun ρ=>∃ o,ρ=[o,some (.sh (.list (base.map .int))),some (.sh (.int (0+(i:Nat)))),some (.sh (.str abc))]) _ 0 [] _ _ ⟨_,rfl⟩ Lts.nil ?_ ?_
   ·rintro j y hy ρ ⟨o,rfl⟩ out ho N1 N2 hN2
    obtain ⟨hj,rfl⟩:=bL hy
    walk_at "q"
    obtain ⟨b,mb,eb⟩:=fj (l:=base) (i:=0) (by lia) (by lia)
    refine ⟨.int b,eb,?_⟩
    walk_at "q"
    obtain ⟨ch,ec,lc⟩:=pC (b+(0+(j:Int)+(0+(i:Nat))) % 6)
    refine ⟨ch,ec,.inl rfl,hN2 _ _ ⟨_,rfl⟩ ?_⟩
    rw [xa3] at ho ⊢
    exact ho.push lc
   intro out hout
   rw [bH] at hout
   simp only [xa3,xbw] at hout
   obtain ⟨zs,ez,zl,wl1,we1⟩:=hout.join (by decide)
   refine ⟨zs,ez,zl,?_⟩
   generalize Str.join _ zs=w1 at *
   exact ⟨by lia,push w1 _ ⟨by rw [wl1]; decide,by rw [wl1]; decide,we1⟩⟩
 ·rintro ρ ⟨words,o7,o8,o9,hl,ho,rfl⟩
  rw [bH] at hl
  walk_at "q"
  refine ⟨c,4,2,rfl,by decide,by decide,fun f f0 f1=>?_⟩
  walk_at "q"
  refine ⟨by lia,.inl ⟨jF words,?_⟩⟩
  refine ⟨c,5,7,rfl,by decide,by decide,fun r r0 r1=>?_⟩
  walk_at "q"
  refine .inl ⟨jF words,?_⟩
  have e:(D.str "*" :: words.map D.str)=(("*" : Str) :: words).map D.str:=rfl
  rw [e,wR]
  have hc:=Ds (l:=("*" : Str) :: words) (a:=f) (b:=f+1+r) f0 (by lia) (by simp; lia)
  refine h _ hc.1 (xaA hc.2.1 (by simp; lia)) fun n hn=>?_
  rcases xak.mp (hc.2.2 n hn) with rfl | hn
  ·exact .inl rfl
  ·exact .inr (ho n hn)
theorem pL:∀ ds Q,aY ds Q->fD { nx:=fun _=>Q .sh .non,rt:=Q } (bO 11 ds):=by
 rintro ds Q ⟨c,rfl,h⟩
 unfold fD
 walk_at "q"
 refine ⟨c,0,6,rfl,by decide,by decide,fun s s0 s1=>?_⟩
 walk_at "q"
 refine ⟨c,1,1+s,rfl,by decide,by lia,fun at' a0 a1=>?_⟩
 walk_at "q"
 refine cu (fun n out=>∃ bs:List Int,out=bs.map .int/\bs.length=n/\∀ b∈bs,0<=b/\b<26) (fun ρ=>∃ o,ρ=[o,some (.sh (.int c))]) _ 0 [] _ _ ⟨_,rfl⟩ ⟨[],rfl,rfl,fun b hb=>nomatch hb⟩ ?_ ?_
 ·rintro j y hy ρ ⟨o,rfl⟩ out ⟨bs,rfl,hl,hbb⟩ N1 N2 hN2
  have hj:=(bL hy).1
  obtain ⟨hj,rfl⟩:=bL hy
  walk_at "q"
  refine ⟨bz (by lia) (by lia),_,2,26,rfl,by decide,by decide,fun r r0 r1=>?_⟩
  walk_at "q"
  refine ⟨.inl rfl,hN2 _ _ ⟨_,rfl⟩ ⟨bs++[r],by simp,by simp [hl],fun b hb=>?_⟩⟩
  rcases xai.mp hb with hb | hb
  ·exact hbb b hb
  ·rw [xaS.mp hb]; exact ⟨r0,r1⟩
 rintro out ⟨base,e,hb,hbb⟩
 simp only [xbw] at e
 subst e
 rw [bH] at hb
 refine ⟨c,3,4,rfl,by decide,by decide,fun kind k0 k1=>?_⟩
 walk_at "q"
 exact lH Q c _ at' kind base (by lia) ⟨k0,k1⟩ (by simpa using hb) hbb h
def fu:WS :=
 (wSeq (wSet 4 (aL aB (aj (wVar 0) (aj (wOp fAdd (wC (.int 3)) (wOp fMod (wOp fAdd (wOp fMul (wC (.int 7)) (wVar 1)) (wOp fMul (wC (.int 11)) (wVar 2))) (wC (.int 60)))) wNil))))
 (wRet (aL aq (aj (wOp fAdd (wOp fAdd (wVar 4) (wOp fMul (aL aB (aj (wVar 0) (aj (wC (.int 2)) wNil))) (wOp fAdd (wVar 1) (wC (.int 2))))) (wOp fMul (wOp fAdd (wVar 1) (wC (.int 1))) (wOp fAdd (wOp fAdd (wVar 1) (wC (.int 5))) (wVar 2)))) (aj (wVar 2) (aj (wVar 3) wNil))))))
def aD:SpD:=fun ds Q=>∃ (ns:List Int) (k w m:Int),ds=[.list (ns.map .int),.int k,.int w,.int m]/\(0<=k/\k<=1000)/\(0<=w/\w<6)/\0<m/\∀ r,0<=r->r<m->Q .sh (.int r)
theorem lM (ds Q) (h:aD ds Q):ds.length=["_law_script", "_law_k", "_law_way", "_law_many"].length:=by obtain ⟨_,_,_,_,rfl,_⟩:=h; rfl
theorem p_:∀ ds Q,aD ds Q->fu { nx:=fun _=>Q .sh .non,rt:=Q } (bO 5 ds):=by
 rintro ds Q ⟨ns,k,w,m,rfl,hk,hw,hm,h⟩
 unfold fu
 walk_at "q"
 have a:=yQ (7 * k+11 * w) (show (0:Int)<60 by decide)
 refine ⟨bz (by lia) (by lia),bz (by lia) (by lia),ns,_,rfl,by lia,?_⟩
 generalize ns.getD _ 0=c1
 walk_at "q"
 refine ⟨ns,2,rfl,by decide,?_⟩
 generalize ns.getD _ 0=c2
 walk_at "q"
 refine ⟨bz (by lia) (by lia),bz (by lia) (by lia),_,w,m,rfl,hw,hm,fun r r0 r1=>?_⟩
 walk_at "q"
 exact h r r0 r1
def fc:WS :=
 (wSeq (wSet 1 (aL bW (aj (wVar 0) wNil)))
 (wSeq (wSet 2 (wLst (aj (wOp xG (wLst (aj (wC (.int 0)) wNil)) (wOp fIx (wVar 0) (wC (.int 0)))) wNil)))
 (wSeq (wSet 3 (aL aR (aj (wVar 1) (aj (wOp fIx (wVar 2) (wC (.int 0))) wNil))))
 (wSeq (yK (wB (wOp fNe (wVar 3) (wOp fIx (wVar 2) (wUn fNeg (wC (.int 1))))))
 (uV 2 3 (aL aR (aj (wVar 1) (aj (wVar 3) wNil)))))
 (uo 2)))))
def rdD (rs:List (List Int)):D:=.list (rs.map rsD)
def aO:SpD:=fun ds Q=>∃ (many:Int) (steps:List Stp),ds=[mD many steps]/\(1<=many/\many<=100)/\StIn many steps/\steps.length<=1000/\∀ rest,Chain many steps (zeros many) rest->rest.length<=10000->Q (.ow true) (rdD (zeros many :: rest))
theorem lG (ds Q) (h:aO ds Q):ds.length=["m"].length:=by obtain ⟨_,_,rfl,_⟩:=h; rfl
theorem vB (cur:List Int) (pre:List (List Int)):atI ((cur :: pre).map rsD) (-1)=some (rsD (fJ cur pre)):=by
 have e:(cur :: pre).map rsD=((cur :: pre).dropLast.map rsD)++[rsD (fJ cur pre)]:=by
  conv=>lhs; rw [<- List.dropLast_concat_getLast (show cur :: pre≠[] by simp)]
  rw [xbL]
  rfl
 rw [e]
 exact atI_last _ _
theorem rO (cur nxt:List Int) (pre:List (List Int)):fJ cur (pre++[nxt])=nxt:=by
 unfold fJ
 rw [List.getLast_cons (by simp),List.getLast_concat]
theorem pH:∀ ds Q,aO ds Q->fc { nx:=fun _=>Q .sh .non,rt:=Q } (bO 4 ds):=by
 rintro ds Q ⟨many,steps,rfl,hm,hin,hl,h⟩
 unfold fc
 have hmm:many * many<=10000:=by
  have:=Int.mul_le_mul hm.2 hm.2 (by lia) (by lia)
  lia
 have e0:bO 4 [mD many steps]=[some (.sh (mD many steps)),none,none,none]:=rfl
 rw [e0]
 walk_at "q"
 refine ⟨many,steps,rfl,by lia,hin,hl,?_⟩
 unfold exD
 walk_at "q"
 unfold mD
 walk_at "q"
 refine ⟨by lia,?_⟩
 rw [vO]
 refine ⟨many,steps,zeros many,rfl,by lia,by simp [zeros],hin,hl,fun r hr=>?_⟩
 walk_at "q"
 refine ⟨fun ρ=>∃ (pre:List (List Int)) (cur nxt:List Int),rQ many cur/\RB many steps cur nxt/\(∀ rest,Chain many steps cur rest->Chain many steps (zeros many) (pre++rest))/\fJ (zeros many) pre=cur/\(pre.length:Int)<=cur.sum/\cur.sum<=many * many /\
   ρ=[some (.sh (.tup [.int many,.list (steps.map stpD)])),some (.ow true (.list (exL many steps))),some (.ow true (.list ((zeros many :: pre).map rsD))),some (.ow true (.list (nxt.map .int)))],
  fun ρ=>match ρ with
   | [_,_,some (.ow _ (.list rs)),_]=>20000 - rs.length
   | _=>0,⟨[],zeros many,r,pF hm.1,hr,fun rest hc=>hc,rfl,?_,?_,rfl⟩,?_⟩
 ·simp [zeros]
 ·have:0<=many * many:=Int.mul_nonneg (by lia) (by lia)
  simp [zeros]; lia
 rintro ρ ⟨pre,cur,nxt,hd,hb,hc,hla,hp,hs,rfl⟩
 walk_at "q"
 refine ⟨_,vB _ _,?_⟩
 rw [hla]
 unfold rsD
 walk_at "q"
 refine ⟨pM _ _,pM _ _,?_⟩
 rw [FN]
 by_cases e:nxt=cur
 ·rw [if_neg (by simp [e])]
  rw [e] at hb
  have:=hc [] hb
  rw [xaX] at this
  exact h pre this (by lia)
 ·rw [if_pos (by simp [e])]
  have hsum:=hb.sum hin hd (by lia) e
  refine ⟨dN _,by lia,?_⟩
  refine ⟨many,steps,nxt,rfl,by lia,(hb.xN hin).1,hin,hl,fun r2 hr2=>?_⟩
  walk_at "q"
  refine ⟨⟨pre++[nxt],nxt,r2,hb.xN hin,hr2,fun rest hch=>?_,rO _ _ _,by simp; lia,hsum.2,by simp [rsD]⟩,?_⟩
  ·have:=hc (nxt :: rest) ⟨hb,e,hch⟩
   simpa using this
  ·simp
   lia
def bF:WS :=
 (wSeq (wSet 7 (aL aY (aj (aL aB (aj (wVar 0) (aj (wC (.int 1)) wNil))) wNil)))
 (wSeq (wSet 8 qR)
 (wSeq (wFor (cg (wOp sS (wVar 6) (wOp fDiv (wVar 1) (wOp fMul (wVar 3) (wVar 3))))) (gN 9)
 (wSeq (wSet 10 (aL aD (aj (wVar 0) (aj (wVar 9) (aj (wC (.int 0)) (aj (wVar 4) wNil))))))
 (wSeq (wSet 11 (aL aD (aj (wVar 0) (aj (wVar 9) (aj (wC (.int 1)) (aj (wVar 4) wNil))))))
 (wSeq (wSet 12 (wOp fIx (wVar 7) (aL aD (aj (wVar 0) (aj (wVar 9) (aj (wC (.int 2)) (aj (wUn fLen (wVar 7)) wNil)))))))
 (wSeq (wSet 13 (aL aD (aj (wVar 0) (aj (wVar 9) (aj (wC (.int 3)) (aj (wC (.int 3)) wNil))))))
 (wFor (cg (wVar 3)) (gN 14)
 (wFor (cg (wVar 3)) (gN 15)
 (wIfS (wOr (wB (wOp fEq (wVar 13) (wC (.int 2)))) (wB (wOp fEq (wVar 15) (wOp fMod (wOp fAdd (wVar 13) (wVar 14)) (wVar 3)))))
 (sI (wpN 8) (wTup (aj (wOp fAdd (wVar 10) (wOp fMul (wVar 4) (wVar 14))) (aj (wVar 12) (aj (wOp fAdd (wVar 11) (wOp fMul (wVar 4) (wVar 15))) wNil)))) (wC (.bl true)))
 fO))))))))
 (wSeq (wFor (cg (wOp fSub (wOp fMul (wVar 3) (wVar 4)) (wC (.int 1)))) (gN 9)
 (wIfS (wAnd (wB (wOp fEq (aL aq (aj (wVar 2) (aj (wC (.int 4)) (aj (wC (.int 3)) wNil)))) (wC (.int 1)))) (wB (wOp fGt (wOp fMod (wOp fAdd (wVar 9) (wC (.int 1))) (wVar 4)) (wC (.int 0)))))
 (sI (wpN 8) (wTup (aj (wVar 9) (aj (wOp fIx (wVar 7) (wC (.int 0))) (aj (wOp fAdd (wVar 9) (wC (.int 1))) wNil)))) (wC (.bl true)))
 fO))
 (wRet (wTup (aj (wOp fMul (wVar 3) (wVar 4)) (aj (wUn kZ (wVar 8)) wNil))))))))
def bJ:WS :=
 (wSeq (wSet 6 (aL aq (aj (wVar 2) (aj (wC (.int 3)) (aj (wOp fMul (wC (.int 3)) (wVar 4)) wNil)))))
 (wSeq (wIfS (wB (wOp fEq (wVar 5) (wC (.int 2))))
 (wFrz 1 (wSet 6 (wVar 1)))
 fO)
 bF))
def cY:WS :=
 (wSeq (wSet 2 (aL aB (aj (wVar 0) (aj (wC (.int 0)) wNil))))
 (wSeq (wSet 3 (wOp fAdd (wC (.int 1)) (wOp fDiv (aL aq (aj (wVar 2) (aj (wC (.int 0)) (aj (wC (.int 3)) wNil)))) (wC (.int 2)))))
 (wSeq (wSet 4 (wOp fAdd (wC (.int 1)) (aL aq (aj (wVar 2) (aj (wC (.int 1)) (aj (wOp fDiv (wC (.int 10)) (wVar 3)) wNil))))))
 (wSeq (wSet 5 (aL aq (aj (wVar 2) (aj (wC (.int 2)) (aj (wC (.int 8)) wNil)))))
 (wSeq (wIfS (wB (wOp fEq (wVar 5) (wC (.int 1))))
 (wSet 4 (wOp fDiv (wC (.int 10)) (wVar 3)))
 fO)
 (wSeq (wIfS (wB (wOp fEq (wVar 5) (wC (.int 3))))
 (wSet 4 (wOp fAdd (wC (.int 1)) (aL aq (aj (wVar 2) (aj (wC (.int 5)) (aj (wOp fDiv (wC (.int 10)) (wVar 3)) wNil))))))
 fO)
 bJ))))))
def aX:SpD:=fun ds Q=>∃ (ns:List Int) (most:Int),ds=[.list (ns.map .int),.int most]/\(1<=most/\most<=100)/\∀ (many:Int) (steps:List Stp),1<=many->many<=20->StIn many steps->steps.length<=500->steps.Pairwise (fun a b=>ltP a b=true)->Q (.ow true) (mD many steps)
theorem iI (ds Q) (h:aX ds Q):ds.length=["_law_script", "_law_most"].length:=by obtain ⟨_,_,rfl,_⟩:=h; rfl
theorem dF {Q:Md->D->Prop} {ns:List Int} {most shape copies states size many:Int} (hc:copies=1\/copies=2) (hs:1<=states) (hcs:copies * states<=20) (hmm:0<=many/\many<=1000) (hmo:1<=most/\most<=100)
  (h:∀ (many:Int) (steps:List Stp),1<=many->many<=20->StIn many steps->steps.length<=500->steps.Pairwise (fun a b=>ltP a b=true)->Q (.ow true) (mD many steps)) :
  bF { nx:=fun _=>Q .sh .non,rt:=Q } [some (.sh (.list (ns.map .int))),some (.sh (.int most)),some (.sh (.int shape)),some (.sh (.int copies)),some (.sh (.int states)),some (.sh (.int size)),some (.sh (.int many)),none,none,none,none,none,none,none,none,none]:=by
 have hst:states<=20:=by rcases hc with rfl | rfl <;> lia
 unfold bF
 walk_at "q"
 refine ⟨ns,1,rfl,by decide,?_⟩
 generalize ns.getD _ 0=c1
 walk_at "q"
 refine ⟨c1,rfl,fun names n1 n7 hd=>?_⟩
 walk_at "q"
 have hcc:copies * copies=1\/copies * copies=4:=by rcases hc with rfl | rfl <;> decide
 refine ⟨bz (by lia) (by lia),by lia,?_⟩
 have hmin:∃ r:Int,(if most / (copies * copies)<many then most / (copies * copies) else many)=r/\0<=r/\r<=100:=by
  refine ⟨_,rfl,?_⟩
  have:0<=most / (copies * copies)/\most / (copies * copies)<=100:=by rcases hcc with e | e <;> rw [e] <;> lia
  split <;> lia
 obtain ⟨r,er,r0,r1⟩:=hmin
 rw [er]
 refine ⟨by lia,by lia,?_⟩
 refine dD _ (fun i ρ=>∃ (kvs:Kn) (o9 o10 o11 o12 o13 o14 o15:Option Sl),StD (StOk (copies * states)) kvs/\kvs.length<=4 * i/\ρ=[some (.sh (.list (ns.map .int))),some (.sh (.int most)),some (.sh (.int shape)),some (.sh (.int copies)),some (.sh (.int states)),some (.sh (.int size)),some (.sh (.int many)),some (.ow true (.list (names.map .str))),some (.ow true (.dT kvs)),o9,o10,o11,o12,o13,o14,o15]) ⟨[],_,_,_,_,_,_,_,StD.nil,xaf _,rfl⟩ ?_ ?_
 ·rintro i x ρ hx ⟨kvs,o9,o10,o11,o12,o13,o14,o15,hk,hkl,rfl⟩ N hN
  obtain ⟨hi,rfl⟩:=bL hx
  walk_at "q"
  refine ⟨ns,_,0,states,rfl,by lia,by decide,by lia,fun one a0 a1=>?_⟩
  walk_at "q"
  refine ⟨ns,_,1,states,rfl,by lia,by decide,by lia,fun two b0 b1=>?_⟩
  walk_at "q"
  refine ⟨ns,_,2,(names.length:Nat),rfl,by lia,by decide,by lia,fun w w0 w1=>?_⟩
  obtain ⟨n,hn,en⟩:=pA (names:=names) w0 w1
  walk_at "q"
  refine ⟨_,en,?_⟩
  walk_at "q"
  refine ⟨ns,_,3,3,rfl,by lia,by decide,by decide,fun way y0 y1=>?_⟩
  walk_at "q"
  refine ⟨by lia,by lia,?_⟩
  refine dD _ (fun j ρ=>∃ (kvs:Kn) (o14 o15:Option Sl),StD (StOk (copies * states)) kvs/\kvs.length<=4 * i+2 * j/\ρ=[some (.sh (.list (ns.map .int))),some (.sh (.int most)),some (.sh (.int shape)),some (.sh (.int copies)),some (.sh (.int states)),some (.sh (.int size)),some (.sh (.int many)),some (.ow true (.list (names.map .str))),some (.ow true (.dT kvs)),some (.sh (.int (0+(i:Nat)))),some (.sh (.int one)),some (.sh (.int two)),some (.sh (.str n)),some (.sh (.int way)),o14,o15]) ⟨kvs,_,_,hk,by lia,rfl⟩ ?_ ?_
  ·clear hk hkl
   rintro j x ρ hx ⟨kvs,o14,o15,hk,hkl,rfl⟩ N hN
   obtain ⟨hj,rfl⟩:=bL hx
   walk_at "q"
   refine ⟨by lia,by lia,?_⟩
   refine dD _ (fun l ρ=>∃ (kvs:Kn) (o15:Option Sl),StD (StOk (copies * states)) kvs/\kvs.length<=4 * i+2 * j+l/\ρ=[some (.sh (.list (ns.map .int))),some (.sh (.int most)),some (.sh (.int shape)),some (.sh (.int copies)),some (.sh (.int states)),some (.sh (.int size)),some (.sh (.int many)),some (.ow true (.list (names.map .str))),some (.ow true (.dT kvs)),some (.sh (.int (0+(i:Nat)))),some (.sh (.int one)),some (.sh (.int two)),some (.sh (.str n)),some (.sh (.int way)),some (.sh (.int (0+(j:Nat)))),o15]) ⟨kvs,_,hk,by lia,rfl⟩ ?_ ?_
   ·clear hk hkl
    rintro l x ρ hx ⟨kvs,o15,hk,hkl,rfl⟩ N hN
    obtain ⟨hl,rfl⟩:=bL hx
    have go:CMul states (0+(j:Nat))/\CMul states (0+(l:Nat))/\kvs.length<16777216/\N [some (.sh (.list (ns.map .int))),some (.sh (.int most)),some (.sh (.int shape)),some (.sh (.int copies)),some (.sh (.int states)),some (.sh (.int size)),some (.sh (.int many)),some (.ow true (.list (names.map .str))),some (.ow true (.dT (putG kvs (stpK (one+states * (0+(j:Nat)),n,two+states * (0+(l:Nat)))) (.bl true)))),some (.sh (.int (0+(i:Nat)))),some (.sh (.int one)),some (.sh (.int two)),some (.sh (.str n)),some (.sh (.int way)),some (.sh (.int (0+(j:Nat)))),some (.sh (.int (0+(l:Nat))))]:=by
     have c1:=uZ (one:=one) (states:=states) (j:=0+(j:Nat)) (copies:=copies) a0 a1 (by lia) (by lia)
     have c2:=uZ (one:=two) (states:=states) (j:=0+(l:Nat)) (copies:=copies) b0 b1 (by lia) (by lia)
     refine ⟨bz (by lia) (by lia),bz (by lia) (by lia),by lia,?_⟩
     have:=gB kvs (stpK (one+states * (0+(j:Nat)),n,two+states * (0+(l:Nat)))) (D.bl true)
     exact hN _ ⟨_,_,hk.put (s:=(one+states * (0+(j:Nat)),n,two+states * (0+(l:Nat)))) ⟨c1.1,c1.2,hd n hn,c2.1,c2.2⟩,by omega,rfl⟩
    walk_at "q"
    refine R.D (fun e=>?_) fun e=>?_
    ·walk_at "q"
     exact go
    ·walk_at "q"
     refine ⟨by lia,R.D (fun e=>?_) fun e=>?_⟩
     ·walk_at "q"
      exact go
     ·walk_at "q"
      exact hN _ ⟨kvs,_,hk,by lia,rfl⟩
   ·clear hk hkl
    rintro ρ ⟨kvs,o15,hk,hkl,rfl⟩
    rw [bH] at hkl
    exact hN _ ⟨kvs,_,_,hk,by lia,rfl⟩
  ·clear hk hkl
   rintro ρ ⟨kvs,o14,o15,hk,hkl,rfl⟩
   rw [bH] at hkl
   exact hN _ ⟨kvs,_,_,_,_,_,_,_,hk,by lia,rfl⟩
 ·rintro ρ ⟨kvs,o9,o10,o11,o12,o13,o14,o15,hk,hkl,rfl⟩
  rw [bH] at hkl
  walk_at "q"
  have hcs1:1<=copies * states:=by rcases hc with rfl | rfl <;> lia
  refine ⟨bz (by lia) (by lia),by lia,by lia,?_⟩
  refine dD _ (fun i ρ=>∃ (kvs:Kn) (o9:Option Sl),StD (StOk (copies * states)) kvs/\kvs.length<=400+i/\ρ=[some (.sh (.list (ns.map .int))),some (.sh (.int most)),some (.sh (.int shape)),some (.sh (.int copies)),some (.sh (.int states)),some (.sh (.int size)),some (.sh (.int many)),some (.ow true (.list (names.map .str))),some (.ow true (.dT kvs)),o9,o10,o11,o12,o13,o14,o15]) ⟨kvs,_,hk,by lia,rfl⟩ ?_ ?_
  ·clear hk hkl
   rintro i x ρ hx ⟨kvs,o9,hk,hkl,rfl⟩ N hN
   obtain ⟨hi,rfl⟩:=bL hx
   walk_at "q"
   refine ⟨_,4,3,rfl,by decide,by decide,fun q q0 q1=>?_⟩
   walk_at "q"
   refine R.D (fun e=>?_) fun e=>?_
   ·walk_at "q"
    refine ⟨by lia,R.D (fun e2=>?_) fun e2=>?_⟩
    ·obtain ⟨n,hn,en⟩:=pA (names:=names) (i:=0) (by decide) (by lia)
     walk_at "q"
     refine ⟨_,en,?_⟩
     walk_at "q"
     refine ⟨by lia,?_⟩
     have:=gB kvs (stpK (0+(i:Nat),n,0+(i:Nat)+1)) (D.bl true)
     exact hN _ ⟨_,_,hk.put (s:=(0+(i:Nat),n,0+(i:Nat)+1)) ⟨(by lia : (0:Int)<=0+(i:Nat)),(by lia : 0+((i:Nat):Int)<copies * states),hd n hn,(by lia : (0:Int)<=0+(i:Nat)+1),(by lia : 0+((i:Nat):Int)+1<copies * states)⟩,by lia,rfl⟩
    ·walk_at "q"
     exact hN _ ⟨kvs,_,hk,by lia,rfl⟩
   ·walk_at "q"
    exact hN _ ⟨kvs,_,hk,by lia,rfl⟩
  ·clear hk hkl
   rintro ρ ⟨kvs,o9,hk,hkl,rfl⟩
   rw [bH] at hkl
   walk_at "q"
   refine ⟨bz (by lia) (by lia),?_⟩
   refine hk.v_ fun steps pm hP pw hlen=>?_
   rw [jU]
   exact h _ steps (by rcases hc with rfl | rfl <;> lia) hcs hP (by lia) pw
theorem cF {Q:Md->D->Prop} {ns:List Int} {most shape copies states size:Int} (hc:copies=1\/copies=2) (hs:1<=states) (hcs:copies * states<=20) (hmo:1<=most/\most<=100)
  (h:∀ (many:Int) (steps:List Stp),1<=many->many<=20->StIn many steps->steps.length<=500->steps.Pairwise (fun a b=>ltP a b=true)->Q (.ow true) (mD many steps)) :
  bJ { nx:=fun _=>Q .sh .non,rt:=Q } [some (.sh (.list (ns.map .int))),some (.sh (.int most)),some (.sh (.int shape)),some (.sh (.int copies)),some (.sh (.int states)),some (.sh (.int size)),none,none,none,none,none,none,none,none,none,none]:=by
 have hst:states<=20:=by rcases hc with rfl | rfl <;> lia
 obtain ⟨w8,e8⟩:∃ w8,w8=bF:=⟨_,rfl⟩
 unfold bJ
 rw [<- e8]
 walk_at "q"
 refine ⟨g8 (by lia) (by lia),_,3,_,rfl,by decide,by lia,fun many m0 m1=>?_⟩
 walk_at "q"
 refine R.D (fun e=>?_) fun e=>?_
 ·walk_at "q"
  rw [e8]
  exact dF hc hs hcs ⟨by lia,by lia⟩ hmo h
 ·walk_at "q"
  rw [e8]
  exact dF hc hs hcs ⟨by lia,by lia⟩ hmo h
theorem jT:∀ ds Q,aX ds Q->cY { nx:=fun _=>Q .sh .non,rt:=Q } (bO 16 ds):=by
 rintro ds Q ⟨ns,most,rfl,hmo,h⟩
 obtain ⟨w6,e6⟩:∃ w6,w6=bJ:=⟨_,rfl⟩
 unfold cY
 rw [<- e6]
 walk_at "q"
 refine ⟨ns,0,rfl,by decide,?_⟩
 generalize ns.getD _ 0=shape
 walk_at "q"
 refine ⟨shape,0,3,rfl,by decide,by decide,fun c c0 c1=>?_⟩
 walk_at "q"
 have hc:1+c / 2=1\/1+c / 2=2:=by lia
 generalize 1+c / 2=copies at hc ⊢
 refine ⟨by lia,?_⟩
 refine ⟨shape,1,_,rfl,by decide,by rcases hc with rfl | rfl <;> lia,fun st s0 s1=>?_⟩
 walk_at "q"
 refine ⟨shape,2,8,rfl,by decide,by decide,fun size z0 z1=>?_⟩
 walk_at "q"
 refine R.D (fun e=>?_) fun e=>?_
 ·walk_at "q"
  refine ⟨by lia,?_⟩
  refine R.F (by simp; lia) ?_
  walk_at "q"
  rw [e6]
  exact cF hc (by rcases hc with rfl | rfl <;> lia) (by rcases hc with rfl | rfl <;> lia) hmo h
 ·walk_at "q"
  refine R.D (fun e=>?_) fun e=>?_
  ·walk_at "q"
   refine ⟨by lia,?_⟩
   refine ⟨shape,5,_,rfl,by decide,by rcases hc with rfl | rfl <;> lia,fun q q0 q1=>?_⟩
   walk_at "q"
   rw [e6]
   exact cF hc (by lia) (by rcases hc with rfl | rfl <;> lia) hmo h
  ·walk_at "q"
   rw [e6]
   exact cF hc (by lia) (by rcases hc with rfl | rfl <;> lia) hmo h
def eE:WS :=
 (wSeq (wSet 1 (aL aY (aj (aL aB (aj (wVar 0) (aj (wC (.int 1)) wNil))) wNil)))
 (wSeq (wSet 2 (wOp fAdd (wC (.int 1)) (aL aD (aj (wVar 0) (aj (wC (.int 70)) (aj (wC (.int 0)) (aj (wC (.int 10)) wNil)))))))
 (wSeq (wSet 3 qR)
 (wSeq (wFor (cg (aL aD (aj (wVar 0) (aj (wC (.int 71)) (aj (wC (.int 1)) (aj (wC (.int 61)) wNil)))))) (gN 4)
 (wSeq (wSet 5 (wOp fIx (wVar 1) (aL aD (aj (wVar 0) (aj (wOp fAdd (wC (.int 100)) (wVar 4)) (aj (wC (.int 2)) (aj (wUn fLen (wVar 1)) wNil)))))))
 (sI (wpN 3) (wTup (aj (aL aD (aj (wVar 0) (aj (wOp fAdd (wC (.int 100)) (wVar 4)) (aj (wC (.int 0)) (aj (wVar 2) wNil))))) (aj (wVar 5) (aj (aL aD (aj (wVar 0) (aj (wOp fAdd (wC (.int 100)) (wVar 4)) (aj (wC (.int 3)) (aj (wVar 2) wNil))))) wNil)))) (wC (.bl true)))))
 (zy [.inr 2,.inl (wUn kZ (wVar 3))])))))
def bC:SpD:=fun ds Q=>∃ ns:List Int,ds=[.list (ns.map .int)]/\∀ (far:Int) (others:List Stp),1<=far->far<=10->StIn far others->others.length<=100->Q (.ow true) (mD far others)
theorem jK (ds Q) (h:bC ds Q):ds.length=["_law_script"].length:=by obtain ⟨_,rfl,_⟩:=h; rfl
theorem oJ:∀ ds Q,bC ds Q->eE { nx:=fun _=>Q .sh .non,rt:=Q } (bO 6 ds):=by
 rintro ds Q ⟨ns,rfl,h⟩
 unfold eE
 walk_at "q"
 refine ⟨ns,1,rfl,by decide,?_⟩
 generalize ns.getD _ 0=c1
 walk_at "q"
 refine ⟨c1,rfl,fun names n1 n7 hd=>?_⟩
 walk_at "q"
 refine ⟨ns,70,0,10,rfl,by decide,by decide,by decide,fun f f0 f1=>?_⟩
 walk_at "q"
 refine ⟨ns,71,1,61,rfl,by decide,by decide,by decide,fun r r0 r1=>?_⟩
 walk_at "q"
 refine ⟨by lia,by lia,?_⟩
 refine dD _ (fun i ρ=>∃ (kvs:Kn) (o4 o5:Option Sl),StD (StOk (1+f)) kvs/\kvs.length<=i/\ρ=[some (.sh (.list (ns.map .int))),some (.ow true (.list (names.map .str))),some (.sh (.int (1+f))),some (.ow true (.dT kvs)),o4,o5]) ⟨[],_,_,StD.nil,xaf _,rfl⟩ ?_ ?_
 ·rintro i x ρ hx ⟨kvs,o4,o5,hk,hkl,rfl⟩ N hN
  obtain ⟨hi,rfl⟩:=bL hx
  walk_at "q"
  refine ⟨ns,_,2,(names.length:Nat),rfl,by lia,by decide,by lia,fun w w0 w1=>?_⟩
  obtain ⟨n,hn,en⟩:=pA (names:=names) w0 w1
  walk_at "q"
  refine ⟨_,en,?_⟩
  walk_at "q"
  refine ⟨ns,_,0,1+f,rfl,by lia,by decide,by lia,fun one a0 a1=>?_⟩
  walk_at "q"
  refine ⟨ns,_,3,1+f,rfl,by lia,by decide,by lia,fun two b0 b1=>?_⟩
  walk_at "q"
  refine ⟨by lia,?_⟩
  have:=gB kvs (stpK (one,n,two)) (D.bl true)
  exact hN _ ⟨_,_,_,hk.put (s:=(one,n,two)) ⟨a0,a1,hd n hn,b0,b1⟩,by lia,rfl⟩
 ·rintro ρ ⟨kvs,o4,o5,hk,hkl,rfl⟩
  rw [bH] at hkl
  walk_at "q"
  refine hk.v_ fun steps pm hP pw hlen=>?_
  rw [jU]
  exact h _ steps (by lia) (by lia) hP (by lia)
def gP:WS :=
 (wRet (wIxO (aL aO (aj (wVar 0) wNil)) (wUn fNeg (wC (.int 1)))))
def bK:SpD:=fun ds Q=>∃ (many:Int) (steps:List Stp),ds=[mD many steps]/\(1<=many/\many<=100)/\StIn many steps/\steps.length<=1000/\∀ k,Kinds many steps k->Q (.ow true) (.list (k.map .int))
theorem oF (ds Q) (h:bK ds Q):ds.length=["m"].length:=by obtain ⟨_,_,rfl,_⟩:=h; rfl
theorem tG:∀ ds Q,bK ds Q->gP { nx:=fun _=>Q .sh .non,rt:=Q } (bO 1 ds):=by
 rintro ds Q ⟨many,steps,rfl,hm,hin,hl,h⟩
 unfold gP
 rw [show bO 1 [mD many steps]=[some (.sh (mD many steps))] from rfl]
 walk_at "q"
 refine ⟨many,steps,rfl,hm,hin,hl,fun rest hc hr=>?_⟩
 unfold rdD
 walk_at "q"
 refine ⟨_,vB _ _,?_⟩
 unfold rsD
 walk_at "q"
 exact h _ ⟨rest,hc,rfl⟩
def mF:WS :=
 (wSeq (wFor (cg (Am (wUn fLen (wVar 5)) (wUn fLen (wVar 6)) (wUn fLen (wVar 7)))) (gN 8)
 (wSeq (wSet 9 (aL aJ (aj (wOp fIx (wVar 5) (wOp sS (wVar 8) (wOp fSub (wUn fLen (wVar 5)) (wC (.int 1))))) wNil)))
 (wSeq (wIfS (wB (wOp fNe (aL aJ (aj (wSl (wOp fIx (wVar 6) (wOp sS (wVar 8) (wOp fSub (wUn fLen (wVar 6)) (wC (.int 1))))) jB (nU (wVar 1))) wNil)) (wVar 9)))
 (wRet (wC (.bl false)))
 fO)
 (wIfS (wB (wOp fNe (aL aJ (aj (wSl (wOp fIx (wVar 7) (wOp sS (wVar 8) (wOp fSub (wUn fLen (wVar 7)) (wC (.int 1))))) (nU (wVar 3)) jB) wNil)) (wVar 9)))
 (wRet (wC (.bl false)))
 fO))))
 (wSeq (wFrz 1 (wSet 9 (aL aJ (aj (aL bK (aj (wTup (aj (wVar 1) (aj (wUn rY (wVar 2)) wNil))) wNil)) wNil))))
 (wRet (wOp fEq (aL aJ (aj (wSl (aL bK (aj (wTup (aj (wOp fAdd (wVar 3) (wVar 1)) (aj (wOp fAdd (wVar 4) (aL aV (aj (wVar 2) (aj (wVar 3) wNil)))) wNil))) wNil)) (nU (wVar 3)) jB) wNil)) (wVar 9)))))
def Aa:WS :=
 (wSeq (yo 1 2 (wFz (aL aX (aj (wVar 0) (aj (wC (.int 60)) wNil)))))
 (wSeq (yo 3 4 (wFz (aL bC (aj (wVar 0) wNil))))
 (wSeq (wFrz 1 (wSet 5 (aL aO (aj (wTup (aj (wVar 1) (aj (wUn rY (wVar 2)) wNil))) wNil))))
 (wSeq (wSet 6 (aL aO (aj (wTup (aj (wOp fAdd (wVar 1) (wVar 3)) (aj (wOp fAdd (wVar 2) (aL aV (aj (wVar 4) (aj (wVar 1) wNil)))) wNil))) wNil)))
 (wSeq (wSet 7 (aL aO (aj (wTup (aj (wOp fAdd (wVar 3) (wVar 1)) (aj (wOp fAdd (wVar 4) (aL aV (aj (wVar 2) (aj (wVar 3) wNil)))) wNil))) wNil)))
 mF)))))
abbrev sp_law:SpD:=spLaw
theorem zf (ds Q) (h:sp_law ds Q):ds.length=["_law_script"].length:=by obtain ⟨_,rfl,_⟩:=h; rfl
theorem rT {many far:Int} {steps others:List Stp} (hin:StIn many steps) (hin2:StIn far others) (m1:1<=many) (f1:1<=far):Emb many steps (many+far) (steps++others.map (mvS many)) 0 where
 lo:=xbd 0
 hi:=by lia
 to t ht:=xai.mpr (.inl (by simpa using ht))
 back u hu s h0 h1 e:=by
  rcases xai.mp hu with z | z
  ·exact ⟨u,z,by lia,by simp⟩
  ·obtain ⟨t,ht,rfl⟩:=xaj.mp z
   have:=(hin2 t ht).1
   have e:t.1+many=s+0:=e
   lia
theorem vP {many far:Int} {steps others:List Stp} (hin:StIn many steps) (hin2:StIn far others) (m1:1<=many) (f1:1<=far):Emb many steps (far+many) (others++steps.map (mvS far)) far where
 lo:=by lia
 hi:=by lia
 to t ht:=xai.mpr (.inr (xaj.mpr ⟨t,ht,rfl⟩))
 back u hu s h0 h1 e:=by
  rcases xai.mp hu with z | z
  ·have:=(hin2 u z).2.1
   lia
  ·obtain ⟨t,ht,rfl⟩:=xaj.mp z
   have e:t.1+far=s+far:=e
   exact ⟨t,ht,by lia,rfl⟩
theorem mK {m n:Int} {a b:List Stp} (ha:StIn m a) (hb:StIn n b) (hm:0<=m) (hn:0<=n):StIn (m+n) (a++b.map (mvS m)):=fun s hs=>by
 rcases xai.mp hs with z | z
 ·have:=ha s z
  exact ⟨this.1,by have:=this.2.1; lia,this.2.2.1,this.2.2.2.1,by have:=this.2.2.2.2; lia⟩
 ·obtain ⟨t,ht,rfl⟩:=xaj.mp z
  have:=hb t ht
  refine ⟨?_,?_,this.2.2.1,?_,?_⟩
  ·show 0<=t.1+m; have:=this.1; lia
  ·show t.1+m<m+n; have:=this.2.1; lia
  ·show 0<=t.2.2+m; have:=this.2.2.2.1; lia
  ·show t.2.2+m<m+n; have:=this.2.2.2.2; lia
theorem fV {many:Int} {steps:List Stp} {rest:List (List Int)} (h:Chain many steps (zeros many) rest) (k:Nat):(rdAt rest many k).length=many.toNat:=by
 cases k with
 | zero=>simp [rdAt,zeros]
 | succ k=>exact (iR h k).len
theorem Bl (many:Int) (rest:List (List Int)) (k:Nat):atI ((zeros many :: rest).map rsD) (if (((zeros many :: rest).length:Nat):Int) - 1<0+(k:Nat) then (((zeros many :: rest).length:Nat):Int) - 1 else 0+(k:Nat))=some (rsD (rdAt rest many k)):=by
 have e:(if (((zeros many :: rest).length:Nat):Int) - 1<0+(k:Nat) then (((zeros many :: rest).length:Nat):Int) - 1 else 0+(k:Nat))=((min k rest.length:Nat):Int):=by
  simp only [xaN]
  split <;> lia
 rw [e]
 refine atI_nat ?_
 unfold rdAt
 have:min k rest.length<(zeros many :: rest).length:=by simp; lia
 rw [xaG,xam this,List.getD,xam this]
 rfl
theorem wN {many far:Int} {r r2:List Int} (m0:0<=many) (hf:0<=far) (h:OrdS many 0 r r2) (hr:r.length=many.toNat) (hr2:r2.length=(many+far).toNat):sgs (r2.take many.toNat)=sgs r:=by
 refine yE (by rw [xaE]; lia) fun i j hi hj=>?_
 rw [xaE] at hi hj
 have:=h i j (by lia) (by lia)
 rw [xcq,xcq,iT (r:=r2),iT (r:=r2),iT (r:=r),iT (r:=r)]
 simpa using this.symm
theorem qO {many far:Int} {r r2:List Int} (m0:0<=many) (hf:0<=far) (h:OrdS many far r r2) (hr:r.length=many.toNat) (hr2:r2.length=(far+many).toNat):sgs (r2.drop far.toNat)=sgs r:=by
 refine yE (by rw [xa5]; lia) fun i j hi hj=>?_
 rw [xa5] at hi hj
 have:=h i j (by lia) (by lia)
 rw [List.getElem_drop,List.getElem_drop,iT (r:=r2),iT (r:=r2),iT (r:=r),iT (r:=r)]
 have e:∀ i:Nat,((far.toNat+i:Nat):Int)=i+far:=fun i=>by lia
 rw [e,e]
 exact this.symm
theorem kW (l:List (List Int)) (n:Nat):okD (n+2) (.list (l.map rsD))=true:=by
 simp only [okD,xcA,xbq]
 exact fun r _=>pM r n
theorem yW:∀ l:List (List Int),nbs (l.map rsD)=true
 | []=>rfl
 | x :: l=>by simp [nbs,yW l,rsD,D.nb,l_]
theorem uK (l:List (List Int)):eqD (.list (l.map rsD)) (.list (l.map rsD))=true:=eq_self (by simp [D.nb,yW])
theorem xg (r:List Int) {n:Int} (h0:0<=n) (h1:n<=r.length):cutG (r.map D.int) none (some n)=(r.take n.toNat).map D.int:=by
 unfold cutG
 rw [mQ h0 (by rw [xag]; exact h1)]
 simp [HT.sIx]
theorem qH (r:List Int) {n:Int} (h0:0<=n) (h1:n<=r.length):cutG (r.map D.int) (some n) none=(r.drop n.toNat).map D.int:=by
 unfold cutG
 rw [mQ h0 (by rw [xag]; exact h1)]
 simp [HT.sIx]
 rw [xbp (by simp)]
theorem lW (a b:List Stp):a.map stpD++b.map stpD=(a++b).map stpD:=by simp
theorem Bk {Q:Md->D->Prop} {ns:List Int} {many far:Int} {steps others:List Stp} {ra rb rc:List (List Int)} (m1:1<=many) (m2:many<=20) (f1:1<=far) (f2:far<=10) (hin:StIn many steps) (hl:steps.length<=500) (hin2:StIn far others) (hl2:others.length<=100)
  (ca:Chain many steps (zeros many) ra) (cb:Chain (many+far) (steps++others.map (mvS many)) (zeros (many+far)) rb) (cc:Chain (far+many) (others++steps.map (mvS far)) (zeros (far+many)) rc) (la:ra.length<=10000) (lb:rb.length<=10000) (lc:rc.length<=10000) (h:∀ m,Q m (.bl true)) :
  mF { nx:=fun _=>Q .sh .non,rt:=Q } [some (.sh (.list (ns.map .int))),some (.sh (.int many)),some (.sh (.list (steps.map stpD))),some (.sh (.int far)),some (.sh (.list (others.map stpD))),some (.ow true (.list ((zeros many :: ra).map rsD))),some (.ow true (.list ((zeros (many+far) :: rb).map rsD))),some (.ow true (.list ((zeros (far+many) :: rc).map rsD))),none,none]:=by
 have Eb:=rT hin hin2 m1 f1
 have Ea:=vP hin hin2 m1 f1
 have hib:=mK hin hin2 (by lia) (by lia)
 have hia:=mK hin2 hin (by lia) (by lia)
 unfold mF
 walk_at "q"
 intro mx hmx _ _ _
 refine ⟨by lia,by lia,?_⟩
 refine dD _ (fun i ρ=>∃ (o8 o9:Option Sl),ρ=[some (.sh (.list (ns.map .int))),some (.sh (.int many)),some (.sh (.list (steps.map stpD))),some (.sh (.int far)),some (.sh (.list (others.map stpD))),some (.ow true (.list ((zeros many :: ra).map rsD))),some (.ow true (.list ((zeros (many+far) :: rb).map rsD))),some (.ow true (.list ((zeros (far+many) :: rc).map rsD))),o8,o9]) ⟨_,_,rfl⟩ ?_ ?_
 ·rintro i x ρ hx ⟨o8,o9,rfl⟩ N hN
  obtain ⟨hi,rfl⟩:=bL hx
  have ob:=eG Eb hin hib ca cb i
  have oa:=eG Ea hin hia ca cc i
  have l1:=fV ca i
  have l2:=fV cb i
  have l3:=fV cc i
  have ia:=Bl many ra i
  have ib:=Bl (many+far) rb i
  have ic:=Bl (far+many) rc i
  walk_at "q"
  refine ⟨_,by simpa using ia,?_⟩
  unfold rsD at ib ic ⊢
  walk_at "q"
  refine ⟨_,rfl,?_⟩
  walk_at "q"
  refine ⟨_,by simpa using ib,?_⟩
  walk_at "q"
  refine .inl ⟨dN _,?_⟩
  rw [xg _ (by lia) (by lia)]
  refine ⟨_,rfl,?_⟩
  walk_at "q"
  rw [wN (by lia) (by lia) ob l1 l2]
  refine ⟨kW _ _,kW _ _,?_⟩
  refine R.F (by rw [show eqD _ _=true from uK _]; rfl) ?_
  walk_at "q"
  refine ⟨_,by simpa using ic,?_⟩
  walk_at "q"
  refine .inl ⟨dN _,?_⟩
  rw [qH _ (by lia) (by lia)]
  refine ⟨_,rfl,?_⟩
  walk_at "q"
  rw [qO (by lia) (by lia) oa l1 l3]
  refine ⟨kW _ _,kW _ _,?_⟩
  refine R.F (by rw [show eqD _ _=true from uK _]; rfl) ?_
  walk_at "q"
  exact hN _ ⟨_,_,rfl⟩
 ·rintro ρ ⟨o8,o9,rfl⟩
  walk_at "q"
  refine .inl ⟨bR _,?_⟩
  refine ⟨many,steps,rfl,by lia,hin,by lia,fun k hk=>?_⟩
  obtain ⟨rk1,ck1,rfl⟩:=hk
  walk_at "q"
  refine ⟨_,rfl,?_⟩
  walk_at "q"
  refine ⟨steps,far,rfl,?_⟩
  walk_at "q"
  refine ⟨by lia,.inl ⟨bR _,bR _,?_⟩⟩
  rw [lW]
  refine ⟨far+many,_,rfl,by lia,hia,by simp; lia,fun k2 hk2=>?_⟩
  obtain ⟨rk2,ck2,rfl⟩:=hk2
  walk_at "q"
  refine .inl ⟨dN _,?_⟩
  have o:=eG Ea hin hia ck1 ck2 (max rk1.length rk2.length)
  have l1:=fV ck1 (max rk1.length rk2.length)
  have l2:=fV ck2 (max rk1.length rk2.length)
  rw [gk (Nat.le_max_left _ _),gk (Nat.le_max_right _ _)] at o
  rw [gk (Nat.le_max_left _ _)] at l1
  rw [gk (Nat.le_max_right _ _)] at l2
  rw [qH _ (by lia) (by lia)]
  refine ⟨_,rfl,?_⟩
  walk_at "q"
  rw [qO (by lia) (by lia) o l1 l2]
  refine ⟨kW _ _,kW _ _,?_⟩
  rw [show eqD _ _=true from uK _]
  exact h _
theorem En:∀ ds Q,sp_law ds Q->Aa { nx:=fun _=>Q .sh .non,rt:=Q } (bO 10 ds):=by
 rintro ds Q ⟨ns,rfl,hn,h⟩
 obtain ⟨w5,e5⟩:∃ w5,w5=mF:=⟨_,rfl⟩
 unfold Aa
 rw [<- e5]
 walk_at "q"
 refine ⟨ns,60,rfl,by decide,fun many steps m1 m2 hin hl pw=>?_⟩
 unfold mD
 walk_at "q"
 refine ⟨ns,rfl,fun far others f1 f2 hin2 hl2=>?_⟩
 unfold mD
 walk_at "q"
 refine .inl ⟨bR _,?_⟩
 refine ⟨many,steps,rfl,by lia,hin,by lia,fun ra ca la=>?_⟩
 unfold rdD
 walk_at "q"
 refine ⟨others,many,rfl,?_⟩
 walk_at "q"
 refine ⟨by lia,.inl ⟨bR _,bR _,?_⟩⟩
 rw [lW]
 refine ⟨many+far,_,rfl,by lia,mK hin hin2 (by lia) (by lia),by simp; lia,fun rb cb lb=>?_⟩
 unfold rdD
 walk_at "q"
 refine ⟨steps,far,rfl,?_⟩
 walk_at "q"
 refine ⟨by lia,.inl ⟨bR _,bR _,?_⟩⟩
 rw [lW]
 refine ⟨far+many,_,rfl,by lia,mK hin2 hin (by lia) (by lia),by simp; lia,fun rc cc lc=>?_⟩
 unfold rdD
 walk_at "q"
 rw [e5]
 exact Bk m1 m2 f1 f2 hin hl hin2 hl2 ca cb cc la lb lc h
def top (i:Nat):Stmt:=PySem.Challenge.pw_kinlook_k35_whole_order_stays.main.body.getD i (.Pass ⟨0,0,0,0⟩)
abbrev bY:Stmt:=top 1
abbrev jg:List Str:=["m", "exits", "start", "deed", "end"]
abbrev dB:Stmt:=top 3
abbrev oH:List Str:=["exits", "ranks", "state"]
abbrev aP:Stmt:=top 4
abbrev cP:List Str:=["exits", "ranks", "keys", "different", "key"]
abbrev b7:Stmt:=top 5
abbrev nW:List Str:=["m", "exits", "rounds", "ranks"]
abbrev cI:Stmt:=top 6
abbrev pY:List Str:=["m"]
abbrev bh:Stmt:=top 8
abbrev je:List Str:=["_law_script", "_law_k"]
abbrev bQ:Stmt:=top 9
abbrev lq:List Str:=["_law_cell", "_law_way", "_law_many", "_law_prime"]
abbrev aQ:Stmt:=top 10
abbrev bM:List Str:=["_law_cell", "_law_letters", "_law_size", "_law_at", "_law_base", "_law_kind", "_law_words", "_law_k", "_law_word", "_law_tail", "_law_first"]
abbrev bZ:Stmt:=top 11
abbrev oh:List Str:=["_law_script", "_law_k", "_law_way", "_law_many", "_law_cell"]
abbrev a_:Stmt:=top 12
abbrev jd:List Str:=["_law_script", "_law_most", "_law_shape", "_law_copies", "_law_states", "_law_size", "_law_many", "_law_menu_here", "_law_steps", "_law_k", "_law_one", "_law_two", "_law_deed", "_law_way", "_law_j", "_law_i"]
abbrev bN:Stmt:=top 13
abbrev lU:List Str:=["_law_script", "_law_menu_here", "_law_many", "_law_steps", "_law_k", "_law_deed"]
abbrev bu:Stmt:=top 14
abbrev gr:List Str:=["_law_steps", "_law_far"]
abbrev aZ:Stmt:=top 15
abbrev fU:List Str:=["_law_ranks"]
abbrev lF:Stmt:=top 16
abbrev Dw:List Str:=["_law_script", "_law_many", "_law_steps", "_law_far", "_law_others", "_law_alone", "_law_behind", "_law_ahead", "_law_k", "_law_due"]
structure Txt (K:PySem.W.Frag) (mg:Str->Option Value):Prop where
 n__law_other_here:mg "_law_other_here" = none
 n_int:mg "int" = none
 n_len:mg "len" = none
 n_list:mg "list" = none
 n_max:mg "max" = none
 n_min:mg "min" = none
 n_range:mg "range" = none
 n_set:mg "set" = none
 n_sorted:mg "sorted" = none
section
variable {P:Program} {w:World} {K:PySem.W.Frag} {mg:Str->Option Value} {base:Heap}
theorem jo:FnScope jg ["m"] (defScope bY):=⟨rfl,rfl,rfl,by decide +kernel,rfl,by decide +kernel,by decide +kernel⟩
theorem oZ {f:Addr} {fd:FuncData} (F:Fun K "exits_of" "exits_of" bY f fd) (T:Txt K mg)  : FnOk P w K mg base CX0 1 f fd ["m"] (az K bW) :=
 FunQ.ok (t:=g_) F jo ou (fun cdv A outer s H E hr =>
  have nd:=jo.nd
  have hu:=hr.units
  (ak (gO (i:=1) (tn:=["state"]) (cn:=[]) (ix:=[]) nd rfl (Or.inl rfl) rfl (iW (bU T.n_range (q_ix hu (qv 0) ao))) (bx.of (sc:=defScope bY) (N:=jg) rfl rfl (by decide +kernel)) (fun _ _ _ _=>(aK (i:=0) (show (["state"]:List Str).Nodup by decide +kernel) rfl (Or.inl rfl) (.inr rfl))) (fun _ _ _ _=>cD) (fun _ _ _ _=>(oK au)))
   (ak (gw 0 (fM PassesOwn.never rfl (vL (q_ix hu (qv 0) ao)) (tO rfl (cU (aK (i:=2) nd rfl (Or.inl rfl)) (cU (aK (i:=3) nd rfl (Or.inl rfl)) (cU (aK (i:=4) nd rfl (Or.inl rfl)) pJ))))
   (aF (gw 4 (gw 3 (uU (FZ hu (gQ (pv 1)) (qv 2)) (gR (aa (qv 3) (aa (qv 4) au)))))))))
   (aF (uw (pv 1)))))) rP
theorem oM:FnScope oH ["exits", "ranks", "state"] (defScope dB):=⟨rfl,rfl,rfl,by decide +kernel,rfl,by decide +kernel,by decide +kernel⟩
theorem uA {f:Addr} {fd:FuncData} (F:Fun K "key_of" "key_of" dB f fd) (T:Txt K mg)  : FnOk P w K mg base CX0 1 f fd ["exits", "ranks", "state"] (az K dg) :=
 FunQ.ok (t:=lO) F oM sZ (fun cdv A outer s H E hr =>
  have nd:=oM.nd
  have hu:=hr.units
  (aF (cT (gR (aa (q_ix hu (qv 1) (qv 2)) (aa (sW hu rfl T.n_sorted rfl T.n_set (iw (tn:=["deed", "end"]) (cn:=["ranks"]) (ix:=[1]) rfl (jn (q_ix hu (qv 0) (qv 2))) (bx.of (sc:=defScope dB) (N:=oH) rfl rfl (by decide +kernel)) (fun _ _ _ _=>(tO rfl (cU (aK (i:=0) (show (["deed", "end", "ranks"]:List Str).Nodup by decide +kernel) rfl (Or.inl rfl) (.inr rfl)) (cU (aK (i:=1) (show (["deed", "end", "ranks"]:List Str).Nodup by decide +kernel) rfl (Or.inl rfl) (.inr rfl)) pJ)))) (fun _ _ _ _=>cD) (fun _ _ _ _=>(gR (aa (qv 0) (aa (q_ix hu (qv 2) (qv 1)) au)))))) au)))))) xH
theorem dW:FnScope je ["_law_script", "_law_k"] (defScope bh):=⟨rfl,rfl,rfl,by decide +kernel,rfl,by decide +kernel,by decide +kernel⟩
theorem jq {f:Addr} {fd:FuncData} (F:Fun K "_law_cell_at" "_law_cell_at" bh f fd) (T:Txt K mg)  : FnOk P w K mg base CX0 1 f fd ["_law_script", "_law_k"] (az K aB) :=
 FunQ.ok (t:=cZ) F dW iC (fun cdv A outer s H E hr =>
  have nd:=dW.nd
  have hu:=hr.units
  (ak (iG (cN yM Bt (qv 1) (b8 bf e_ rfl T.n_len eY (qv 0)) (nomark _))
   (aF (cT (q_ix hu (qv 0) (qv 1))))
   cC)
   (aF (cT ao)))) jR
theorem gf:FnScope lq ["_law_cell", "_law_way", "_law_many"] (defScope bQ):=⟨rfl,rfl,rfl,by decide +kernel,rfl,by decide +kernel,by decide +kernel⟩
theorem mC {f:Addr} {fd:FuncData} (F:Fun K "_law_digit" "_law_digit" bQ f fd) (T:Txt K mg)  : FnOk P w K mg base CX0 1 f fd ["_law_cell", "_law_way", "_law_many"] (az K aq) :=
 FunQ.ok (t:=dZ) F gf jM (fun cdv A outer s H E hr =>
  have nd:=gf.nd
  have hu:=hr.units
  (ak (aG (i:=3) nd rfl (Or.inl rfl) (q_ix hu (oK (aa ao (aa ao (aa ao (aa ao (aa ao (aa ao au))))))) (qv 1)))
   (aF (cT (lg (sE (lg (gF (qv 0) (q_ix hu (oK (aa ao (aa ao (aa ao (aa ao (aa ao (aa ao au))))))) (qv 1))) (qv 3)) ao) (qv 2)))))) nT
theorem fQ:FnScope gr ["_law_steps", "_law_far"] (defScope bu):=⟨rfl,rfl,rfl,by decide +kernel,rfl,by decide +kernel,by decide +kernel⟩
theorem mH {f:Addr} {fd:FuncData} (F:Fun K "_law_moved" "_law_moved" bu f fd) (T:Txt K mg)  : FnOk P w K mg base CX0 1 f fd ["_law_steps", "_law_far"] (az K aV) :=
 FunQ.ok (t:=dG) F fQ jG (fun cdv A outer s H E hr =>
  have nd:=fQ.nd
  have hu:=hr.units
  (aF (cT (iw (tn:=["_law_one", "_law_deed", "_law_two"]) (cn:=["_law_far"]) (ix:=[1]) rfl (jn (qv 0)) (bx.of (sc:=defScope bu) (N:=gr) rfl rfl (by decide +kernel)) (fun _ _ _ _=>(tO rfl (cU (aK (i:=0) (show (["_law_one", "_law_deed", "_law_two", "_law_far"]:List Str).Nodup by decide +kernel) rfl (Or.inl rfl) (.inr rfl)) (cU (aK (i:=1) (show (["_law_one", "_law_deed", "_law_two", "_law_far"]:List Str).Nodup by decide +kernel) rfl (Or.inl rfl) (.inr rfl)) (cU (aK (i:=2) (show (["_law_one", "_law_deed", "_law_two", "_law_far"]:List Str).Nodup by decide +kernel) rfl (Or.inl rfl) (.inr rfl)) pJ))))) (fun _ _ _ _=>cD) (fun _ _ _ _=>(gR (aa (aW (qv 0) (qv 3)) (aa (qv 1) (aa (aW (qv 2) (qv 3)) au))))))))) nR
theorem gG:FnScope fU ["_law_ranks"] (defScope aZ):=⟨rfl,rfl,rfl,by decide +kernel,rfl,by decide +kernel,by decide +kernel⟩
theorem lu {f:Addr} {fd:FuncData} (F:Fun K "_law_signs" "_law_signs" aZ f fd) (T:Txt K mg)  : FnOk P w K mg base CX0 1 f fd ["_law_ranks"] (az K aJ) :=
 FunQ.ok (t:=dJ) F gG jL (fun cdv A outer s H E hr =>
  have nd:=gG.nd
  have hu:=hr.units
  (aF (cT (zF (tn:=["_law_one"]) (cn:=["_law_ranks"]) (ix:=[0]) rfl (jn (qv 0)) (dM.of (sc:=defScope aZ) (N:=fU) rfl rfl (by decide +kernel)) (fun _ _ _ _=>(aK (i:=0) (show (["_law_one", "_law_ranks"]:List Str).Nodup by decide +kernel) rfl (Or.inr rfl) (.inl rfl))) (fun _ _ _ _=>cD) (fun _ _ _ _=>(iw (tn:=["_law_other_here"]) (cn:=["_law_one"]) (ix:=[0]) rfl (jn (qv 1)) (bx.inC (sc:=defScope aZ) rfl (by decide +kernel)) (fun _ _ _ _=>(aK (i:=0) (show (["_law_other_here", "_law_one"]:List Str).Nodup by decide +kernel) rfl (Or.inl rfl) (.inr rfl))) (fun _ _ _ _=>cD) (fun _ _ _ _=>(vV (gK call_int1 ur rfl T.n_int qK (wU yL Cu (qv 1) (qv 0) (nomark _))) (gK call_int1 ur rfl T.n_int qK (wU yM Bt (qv 1) (qv 0) (nomark _))))))))))) oA
theorem dY:FnScope cP ["exits", "ranks"] (defScope aP):=⟨rfl,rfl,rfl,by decide +kernel,rfl,by decide +kernel,by decide +kernel⟩
theorem iU {f:Addr} {fd:FuncData} (F:Fun K "ranks_behind" "ranks_behind" aP f fd) (T:Txt K mg) (c_key_of:Cal P w K mg base 1 "key_of" ["exits", "ranks", "state"] (az K dg)):FnOk P w K mg base CX0 2 f fd ["exits", "ranks"] (az K aR) :=
 FunQ.ok (t:=cW) F dY iJ (fun cdv A outer s H E hr =>
  have nd:=dY.nd
  have hu:=hr.units
  (ak (gO (i:=2) (tn:=["state"]) (cn:=["exits", "ranks"]) (ix:=[0,1]) nd rfl (Or.inl rfl) rfl (iW (bU T.n_range (b8 bf e_ rfl T.n_len eY (qv 1)))) (bx.of (sc:=defScope aP) (N:=cP) rfl rfl (by decide +kernel)) (fun _ _ _ _=>(aK (i:=0) (show (["state", "exits", "ranks"]:List Str).Nodup by decide +kernel) rfl (Or.inl rfl) (.inr rfl))) (fun _ _ _ _=>cD) (fun _ _ _ _=>(aM c_key_of (hr.mono (by decide)) (aa (qv 1) (aa (qv 2) (aa (qv 0) au))))))
   (ak (aG (i:=3) nd rfl (Or.inr rfl) (oK au))
   (ak (gw 2 (fM PassesOwn.never rfl (vL (b8 (BR hu) xf rfl T.n_sorted gH (qv 2))) (aK (i:=4) nd rfl (Or.inl rfl))
   (aF (iG (cN (zB (K:=K) hu) Dn (qv 4) (qv 3) (by rfl))
   (aF (gw 4 (uU (gQ (pv 3)) (qv 4))))
   cC))))
   (aF (cT (iw (tn:=["key"]) (cn:=["different"]) (ix:=[3]) rfl (jn (qv 2)) (bx.of (sc:=defScope aP) (N:=cP) rfl rfl (by decide +kernel)) (fun _ _ _ _=>(aK (i:=0) (show (["key", "different"]:List Str).Nodup by decide +kernel) rfl (Or.inl rfl) (.inr rfl))) (fun _ _ _ _=>cD) (fun _ _ _ _=>(Ay hu (qv 1) (qv 0)))))))))) jQ
theorem h_:FnScope bM ["_law_cell"] (defScope aQ):=⟨rfl,rfl,rfl,by decide +kernel,rfl,by decide +kernel,by decide +kernel⟩
theorem nY {f:Addr} {fd:FuncData} (F:Fun K "_law_menu" "_law_menu" aQ f fd) (T:Txt K mg) (c__law_digit:Cal P w K mg base 1 "_law_digit" ["_law_cell", "_law_way", "_law_many"] (az K aq)):FnOk P w K mg base CX0 2 f fd ["_law_cell"] (az K aY) :=
 FunQ.ok (t:=fD) F h_ mW (fun cdv A outer s H E hr =>
  have nd:=h_.nd
  have hu:=hr.units
  (ak (aG (i:=1) nd rfl (Or.inr rfl) tE)
   (ak (aG (i:=2) nd rfl (Or.inl rfl) (aW ao (aM c__law_digit (hr.mono (by decide)) (aa (qv 0) (aa ao (aa ao au))))))
   (ak (aG (i:=3) nd rfl (Or.inr rfl) (aM c__law_digit (hr.mono (by decide)) (aa (qv 0) (aa ao (aa (qv 2) au)))))
   (ak (aG (i:=4) nd rfl (Or.inr rfl) (iw (tn:=["_law_j"]) (cn:=["_law_cell"]) (ix:=[0]) rfl (iW (bU T.n_range ao)) (bx.of (sc:=defScope aQ) (N:=bM) rfl rfl (by decide +kernel)) (fun _ _ _ _=>(aK (i:=0) (show (["_law_j", "_law_cell"]:List Str).Nodup by decide +kernel) rfl (Or.inl rfl) (.inr rfl))) (fun _ _ _ _=>cD) (fun _ _ _ _=>(aM c__law_digit (hr.mono (by decide)) (aa (aW (gF (qv 1) (aW (qv 0) ao)) (qv 0)) (aa ao (aa ao au)))))))
   (ak (aG (i:=5) nd rfl (Or.inl rfl) (aM c__law_digit (hr.mono (by decide)) (aa (qv 0) (aa ao (aa ao au)))))
   (ak (aG (i:=6) nd rfl (Or.inl rfl) (oK au))
   (ak (fM PassesOwn.never rfl (bU T.n_range ao) (aK (i:=7) nd rfl (Or.inr rfl))
   (ak (aG (i:=8) nd rfl (Or.inl rfl) (qi tE (iw (tn:=["_law_j"]) (cn:=["_law_at", "_law_base", "_law_k", "_law_letters"]) (ix:=[3,4,7,1]) rfl (iW (bU T.n_range (qv 2))) (bx.of (sc:=defScope aQ) (N:=bM) rfl rfl (by decide +kernel)) (fun _ _ _ _=>(aK (i:=0) (show (["_law_j", "_law_at", "_law_base", "_law_k", "_law_letters"]:List Str).Nodup by decide +kernel) rfl (Or.inl rfl) (.inr rfl))) (fun _ _ _ _=>cD) (fun _ _ _ _=>(q_ix hu (qv 4) (lg (aW (q_ix hu (qv 2) (qv 0)) (gF (qv 3) (gK call_int1 ur rfl T.n_int qK (wU (kEq (K:=K) hu) ju (qv 0) (qv 1) (nomark _))))) ao))))))
   (ak (iG (cN (kEq (K:=K) hu) ju (qv 5) ao (nomark _))
   (aF (aG (i:=8) nd rfl (Or.inl rfl) (qi tE (iw (tn:=["_law_j"]) (cn:=["_law_base", "_law_letters"]) (ix:=[4,1]) rfl (iW (bU T.n_range (aW (qv 7) ao))) (bx.of (sc:=defScope aQ) (N:=bM) rfl rfl (by decide +kernel)) (fun _ _ _ _=>(aK (i:=0) (show (["_law_j", "_law_base", "_law_letters"]:List Str).Nodup by decide +kernel) rfl (Or.inl rfl) (.inr rfl))) (fun _ _ _ _=>cD) (fun _ _ _ _=>(q_ix hu (qv 2) (q_ix hu (qv 1) (qv 0))))))))
   cC)
   (ak (iG (cN (kEq (K:=K) hu) ju (qv 5) ao (nomark _))
   (ak (gO (i:=9) (tn:=["_law_j"]) (cn:=["_law_base", "_law_letters"]) (ix:=[4,1]) nd rfl (Or.inl rfl) rfl (iW (bU T.n_range (aM c__law_digit (hr.mono (by decide)) (aa (aW (qv 0) (qv 7)) (aa ao (aa ao au)))))) (bx.of (sc:=defScope aQ) (N:=bM) rfl rfl (by decide +kernel)) (fun _ _ _ _=>(aK (i:=0) (show (["_law_j", "_law_base", "_law_letters"]:List Str).Nodup by decide +kernel) rfl (Or.inl rfl) (.inr rfl))) (fun _ _ _ _=>cD) (fun _ _ _ _=>(q_ix hu (qv 2) (q_ix hu (qv 1) (qv 0)))))
   (aF (aG (i:=8) nd rfl (Or.inl rfl) (aW (q_ix hu (qv 1) (lg (aW (q_ix hu (qv 4) ao) (gF ao (qv 7))) ao)) (qi tE (qv 9))))))
   cC)
   (ak (iG (cN (kEq (K:=K) hu) ju (qv 5) ao (nomark _))
   (aF (aG (i:=8) nd rfl (Or.inl rfl) (qi tE (iw (tn:=["_law_j"]) (cn:=["_law_base", "_law_k", "_law_letters"]) (ix:=[4,7,1]) rfl (iW (bU T.n_range ao)) (bx.of (sc:=defScope aQ) (N:=bM) rfl rfl (by decide +kernel)) (fun _ _ _ _=>(aK (i:=0) (show (["_law_j", "_law_base", "_law_k", "_law_letters"]:List Str).Nodup by decide +kernel) rfl (Or.inl rfl) (.inr rfl))) (fun _ _ _ _=>cD) (fun _ _ _ _=>(q_ix hu (qv 3) (lg (aW (q_ix hu (qv 1) ao) (lg (aW (qv 0) (qv 2)) ao)) ao)))))))
   cC)
   (aF (gw 8 (uU (gQ (pv 6)) (qv 8)))))))))
   (ak (aG (i:=10) nd rfl (Or.inl rfl) (aM c__law_digit (hr.mono (by decide)) (aa (qv 0) (aa ao (aa ao au)))))
   (aF (cT (lD (aW (oK (aa tE au)) (qv 6)) (jm (qv 10)) (jm (aW (aW (qv 10) ao) (aM c__law_digit (hr.mono (by decide)) (aa (qv 0) (aa ao (aa ao au)))))))))))))))))) pL
theorem iz:FnScope oh ["_law_script", "_law_k", "_law_way", "_law_many"] (defScope bZ):=⟨rfl,rfl,rfl,by decide +kernel,rfl,by decide +kernel,by decide +kernel⟩
theorem nG {f:Addr} {fd:FuncData} (F:Fun K "_law_draw" "_law_draw" bZ f fd) (T:Txt K mg) (c__law_cell_at:Cal P w K mg base 1 "_law_cell_at" ["_law_script", "_law_k"] (az K aB)) (c__law_digit:Cal P w K mg base 1 "_law_digit" ["_law_cell", "_law_way", "_law_many"] (az K aq)):FnOk P w K mg base CX0 2 f fd ["_law_script", "_law_k", "_law_way", "_law_many"] (az K aD) :=
 FunQ.ok (t:=fu) F iz lM (fun cdv A outer s H E hr =>
  have nd:=iz.nd
  have hu:=hr.units
  (ak (aG (i:=4) nd rfl (Or.inl rfl) (aM c__law_cell_at (hr.mono (by decide)) (aa (qv 0) (aa (aW ao (lg (aW (gF ao (qv 1)) (gF ao (qv 2))) ao)) au))))
   (aF (cT (aM c__law_digit (hr.mono (by decide)) (aa (aW (aW (qv 4) (gF (aM c__law_cell_at (hr.mono (by decide)) (aa (qv 0) (aa ao au))) (aW (qv 1) ao))) (gF (aW (qv 1) ao) (aW (aW (qv 1) ao) (qv 2)))) (aa (qv 2) (aa (qv 3) au)))))))) p_
theorem il:FnScope nW ["m"] (defScope b7):=⟨rfl,rfl,rfl,by decide +kernel,rfl,by decide +kernel,by decide +kernel⟩
theorem oN {f:Addr} {fd:FuncData} (F:Fun K "rounds_of" "rounds_of" b7 f fd) (T:Txt K mg) (c_exits_of:Cal P w K mg base 1 "exits_of" ["m"] (az K bW)) (c_ranks_behind:Cal P w K mg base 2 "ranks_behind" ["exits", "ranks"] (az K aR)):FnOk P w K mg base CX0 3 f fd ["m"] (az K aO) :=
 FunQ.ok (t:=fc) F il lG (fun cdv A outer s H E hr =>
  have nd:=il.nd
  have hu:=hr.units
  (ak (aG (i:=1) nd rfl (Or.inl rfl) (aM c_exits_of (hr.mono (by decide)) (aa (qv 0) au)))
   (ak (aG (i:=2) nd rfl (Or.inl rfl) (oK (aa (Df (oK (aa ao au)) (q_ix hu (qv 0) ao)) au)))
   (ak (aG (i:=3) nd rfl (Or.inl rfl) (aM c_ranks_behind (hr.mono (by decide)) (aa (qv 1) (aa (q_ix hu (qv 2) ao) au))))
   (ak (wQ PassesOwn.never (cN (kNe (K:=K) hu) Ac (qv 3) (q_ix hu (qv 2) (Dv ao)) (nomark _))
   (wI nd rfl (Or.inl rfl) (pv 2) (pv 3) (aM c_ranks_behind (hr.mono (by decide)) (aa (qv 1) (aa (qv 3) au)))))
   (aF (uw (pv 2)))))))) pH
theorem dI:FnScope jd ["_law_script", "_law_most"] (defScope a_):=⟨rfl,rfl,rfl,by decide +kernel,rfl,by decide +kernel,by decide +kernel⟩
theorem jr {f:Addr} {fd:FuncData} (F:Fun K "_law_machine" "_law_machine" a_ f fd) (T:Txt K mg) (c__law_cell_at:Cal P w K mg base 1 "_law_cell_at" ["_law_script", "_law_k"] (az K aB)) (c__law_digit:Cal P w K mg base 1 "_law_digit" ["_law_cell", "_law_way", "_law_many"] (az K aq)) (c__law_menu:Cal P w K mg base 2 "_law_menu" ["_law_cell"] (az K aY)) (c__law_draw:Cal P w K mg base 2 "_law_draw" ["_law_script", "_law_k", "_law_way", "_law_many"] (az K aD)):FnOk P w K mg base CX0 3 f fd ["_law_script", "_law_most"] (az K aX) :=
 FunQ.ok (t:=cY) F dI iI (fun cdv A outer s H E hr =>
  have nd:=dI.nd
  have hu:=hr.units
  (ak (aG (i:=2) nd rfl (Or.inl rfl) (aM c__law_cell_at (hr.mono (by decide)) (aa (qv 0) (aa ao au))))
   (ak (aG (i:=3) nd rfl (Or.inl rfl) (aW ao (sE (aM c__law_digit (hr.mono (by decide)) (aa (qv 2) (aa ao (aa ao au)))) ao)))
   (ak (aG (i:=4) nd rfl (Or.inl rfl) (aW ao (aM c__law_digit (hr.mono (by decide)) (aa (qv 2) (aa ao (aa (sE ao (qv 3)) au))))))
   (ak (aG (i:=5) nd rfl (Or.inl rfl) (aM c__law_digit (hr.mono (by decide)) (aa (qv 2) (aa ao (aa ao au)))))
   (ak (iG (cN (kEq (K:=K) hu) ju (qv 5) ao (nomark _))
   (aF (aG (i:=4) nd rfl (Or.inl rfl) (sE ao (qv 3))))
   cC)
   (ak (iG (cN (kEq (K:=K) hu) ju (qv 5) ao (nomark _))
   (aF (aG (i:=4) nd rfl (Or.inl rfl) (aW ao (aM c__law_digit (hr.mono (by decide)) (aa (qv 2) (aa ao (aa (sE ao (qv 3)) au)))))))
   cC)
   (ak (aG (i:=6) nd rfl (Or.inl rfl) (aM c__law_digit (hr.mono (by decide)) (aa (qv 2) (aa ao (aa (gF ao (qv 4)) au)))))
   (ak (iG (cN (kEq (K:=K) hu) ju (qv 5) ao (nomark _))
   (aF (gw 1 (aG (i:=6) nd rfl (Or.inl rfl) (qv 1))))
   cC)
   (ak (aG (i:=7) nd rfl (Or.inl rfl) (aM c__law_menu (hr.mono (by decide)) (aa (aM c__law_cell_at (hr.mono (by decide)) (aa (qv 0) (aa ao au))) au)))
   (ak (aG (i:=8) nd rfl (Or.inl rfl) uz)
   (ak (fM PassesOwn.never rfl (bU T.n_range (lA qI k_ rfl T.n_min qx (qv 6) (sE (qv 1) (gF (qv 3) (qv 3))))) (aK (i:=9) nd rfl (Or.inl rfl))
   (ak (aG (i:=10) nd rfl (Or.inl rfl) (aM c__law_draw (hr.mono (by decide)) (aa (qv 0) (aa (qv 9) (aa ao (aa (qv 4) au))))))
   (ak (aG (i:=11) nd rfl (Or.inl rfl) (aM c__law_draw (hr.mono (by decide)) (aa (qv 0) (aa (qv 9) (aa ao (aa (qv 4) au))))))
   (ak (aG (i:=12) nd rfl (Or.inl rfl) (q_ix hu (qv 7) (aM c__law_draw (hr.mono (by decide)) (aa (qv 0) (aa (qv 9) (aa ao (aa (b8 bf e_ rfl T.n_len eY (qv 7)) au)))))))
   (ak (aG (i:=13) nd rfl (Or.inl rfl) (aM c__law_draw (hr.mono (by decide)) (aa (qv 0) (aa (qv 9) (aa ao (aa ao au))))))
   (aF (fM PassesOwn.never rfl (bU T.n_range (qv 3)) (aK (i:=14) nd rfl (Or.inl rfl))
   (aF (fM PassesOwn.never rfl (bU T.n_range (qv 3)) (aK (i:=15) nd rfl (Or.inl rfl))
   (aF (iG (qt_w (Er (cN (kEq (K:=K) hu) ju (qv 13) ao (nomark _)) (DP (cN (kEq (K:=K) hu) ju (qv 15) (lg (aW (qv 13) (qv 14)) (qv 3)) (nomark _)))))
   (aF (pq hu (gQ (pv 8)) (gR (aa (aW (qv 10) (gF (qv 4) (qv 14))) (aa (qv 12) (aa (aW (qv 11) (gF (qv 4) (qv 15))) au)))) q_bl))
   cC)))))))))))
   (ak (fM PassesOwn.never rfl (bU T.n_range (vV (gF (qv 3) (qv 4)) ao)) (aK (i:=9) nd rfl (Or.inl rfl))
   (aF (iG (qt_w (DK (cN (kEq (K:=K) hu) ju (aM c__law_digit (hr.mono (by decide)) (aa (qv 2) (aa ao (aa ao au)))) ao (nomark _)) (Ah (cN yL Cu (lg (aW (qv 9) ao) (qv 4)) ao (nomark _)))))
   (aF (pq hu (gQ (pv 8)) (gR (aa (qv 9) (aa (q_ix hu (qv 7) ao) (aa (aW (qv 9) ao) au)))) q_bl))
   cC)))
   (aF (cT (gR (aa (gF (qv 3) (qv 4)) (aa (b8 vC oG rfl T.n_sorted gH (qv 8)) au)))))))))))))))))) jT
theorem gD:FnScope lU ["_law_script"] (defScope bN):=⟨rfl,rfl,rfl,by decide +kernel,rfl,by decide +kernel,by decide +kernel⟩
theorem lQ {f:Addr} {fd:FuncData} (F:Fun K "_law_other" "_law_other" bN f fd) (T:Txt K mg) (c__law_menu:Cal P w K mg base 2 "_law_menu" ["_law_cell"] (az K aY)) (c__law_cell_at:Cal P w K mg base 1 "_law_cell_at" ["_law_script", "_law_k"] (az K aB)) (c__law_draw:Cal P w K mg base 2 "_law_draw" ["_law_script", "_law_k", "_law_way", "_law_many"] (az K aD)):FnOk P w K mg base CX0 3 f fd ["_law_script"] (az K bC) :=
 FunQ.ok (t:=eE) F gD jK (fun cdv A outer s H E hr =>
  have nd:=gD.nd
  have hu:=hr.units
  (ak (aG (i:=1) nd rfl (Or.inl rfl) (aM c__law_menu (hr.mono (by decide)) (aa (aM c__law_cell_at (hr.mono (by decide)) (aa (qv 0) (aa ao au))) au)))
   (ak (aG (i:=2) nd rfl (Or.inl rfl) (aW ao (aM c__law_draw (hr.mono (by decide)) (aa (qv 0) (aa ao (aa ao (aa ao au)))))))
   (ak (aG (i:=3) nd rfl (Or.inl rfl) uz)
   (ak (fM PassesOwn.never rfl (bU T.n_range (aM c__law_draw (hr.mono (by decide)) (aa (qv 0) (aa ao (aa ao (aa ao au)))))) (aK (i:=4) nd rfl (Or.inl rfl))
   (ak (aG (i:=5) nd rfl (Or.inl rfl) (q_ix hu (qv 1) (aM c__law_draw (hr.mono (by decide)) (aa (qv 0) (aa (aW ao (qv 4)) (aa ao (aa (b8 bf e_ rfl T.n_len eY (qv 1)) au)))))))
   (aF (pq hu (gQ (pv 3)) (gR (aa (aM c__law_draw (hr.mono (by decide)) (aa (qv 0) (aa (aW ao (qv 4)) (aa ao (aa (qv 2) au))))) (aa (qv 5) (aa (aM c__law_draw (hr.mono (by decide)) (aa (qv 0) (aa (aW ao (qv 4)) (aa ao (aa (qv 2) au))))) au)))) q_bl))))
   (aF (zK (qm_v (pv 2) (qm_e (b8 vC oG rfl T.n_sorted gH (qv 3)) Dm))))))))) oJ
theorem jt:FnScope pY ["m"] (defScope cI):=⟨rfl,rfl,rfl,by decide +kernel,rfl,by decide +kernel,by decide +kernel⟩
theorem pR {f:Addr} {fd:FuncData} (F:Fun K "kinds_of" "kinds_of" cI f fd) (T:Txt K mg) (c_rounds_of:Cal P w K mg base 3 "rounds_of" ["m"] (az K aO)):FnOk P w K mg base CX0 4 f fd ["m"] (az K bK) :=
 FunQ.ok (t:=gP) F jt oF (fun cdv A outer s H E hr =>
  have nd:=jt.nd
  have hu:=hr.units
  (aF (cT (Fy (aM c_rounds_of (hr.mono (by decide)) (aa (qv 0) au)) (Dv ao))))) tG
theorem yO:FnScope Dw ["_law_script"] (defScope lF):=⟨rfl,rfl,rfl,by decide +kernel,rfl,by decide +kernel,by decide +kernel⟩
theorem ok_law {f:Addr} {fd:FuncData} (F:Fun K "law" "law" lF f fd) (T:Txt K mg) (c__law_machine:Cal P w K mg base 3 "_law_machine" ["_law_script", "_law_most"] (az K aX)) (c__law_other:Cal P w K mg base 3 "_law_other" ["_law_script"] (az K bC)) (c_rounds_of:Cal P w K mg base 3 "rounds_of" ["m"] (az K aO)) (c__law_signs:Cal P w K mg base 1 "_law_signs" ["_law_ranks"] (az K aJ)) (c_kinds_of:Cal P w K mg base 4 "kinds_of" ["m"] (az K bK)) (c__law_moved:Cal P w K mg base 1 "_law_moved" ["_law_steps", "_law_far"] (az K aV)):FnOk P w K mg base CX0 5 f fd ["_law_script"] (az K sp_law) :=
 FunQ.ok (t:=Aa) F yO zf (fun cdv A outer s H E hr =>
  have nd:=yO.nd
  have hu:=hr.units
  (ak (vH (i:=1) (j:=2) rfl nd rfl (Or.inl rfl) rfl (Or.inl rfl) (q_fz (aM c__law_machine (hr.mono (by decide)) (aa (qv 0) (aa ao au)))))
   (ak (vH (i:=3) (j:=4) rfl nd rfl (Or.inl rfl) rfl (Or.inl rfl) (q_fz (aM c__law_other (hr.mono (by decide)) (aa (qv 0) au))))
   (ak (gw 1 (aG (i:=5) nd rfl (Or.inl rfl) (aM c_rounds_of (hr.mono (by decide)) (aa (gR (aa (qv 1) (aa (gK kh vd rfl T.n_list uJ (qv 2)) au))) au))))
   (ak (aG (i:=6) nd rfl (Or.inl rfl) (aM c_rounds_of (hr.mono (by decide)) (aa (gR (aa (aW (qv 1) (qv 3)) (aa (aW (qv 2) (aM c__law_moved (hr.mono (by decide)) (aa (qv 4) (aa (qv 1) au)))) au))) au)))
   (ak (aG (i:=7) nd rfl (Or.inl rfl) (aM c_rounds_of (hr.mono (by decide)) (aa (gR (aa (aW (qv 3) (qv 1)) (aa (aW (qv 4) (aM c__law_moved (hr.mono (by decide)) (aa (qv 2) (aa (qv 3) au)))) au))) au)))
   (ak (fM PassesOwn.never rfl (bU T.n_range (Cy rfl T.n_max (b8 bf e_ rfl T.n_len eY (qv 5)) (b8 bf e_ rfl T.n_len eY (qv 6)) (b8 bf e_ rfl T.n_len eY (qv 7)))) (aK (i:=8) nd rfl (Or.inl rfl))
   (ak (aG (i:=9) nd rfl (Or.inl rfl) (aM c__law_signs (hr.mono (by decide)) (aa (q_ix hu (qv 5) (lA qI k_ rfl T.n_min qx (qv 8) (vV (b8 bf e_ rfl T.n_len eY (qv 5)) ao))) au)))
   (ak (iG (cN (kNe (K:=K) hu) Ac (aM c__law_signs (hr.mono (by decide)) (aa (lD (q_ix hu (qv 6) (lA qI k_ rfl T.n_min qx (qv 8) (vV (b8 bf e_ rfl T.n_len eY (qv 6)) ao))) ph (jm (qv 1))) au)) (qv 9) (nomark _))
   (aF (cT q_bl))
   cC)
   (aF (iG (cN (kNe (K:=K) hu) Ac (aM c__law_signs (hr.mono (by decide)) (aa (lD (q_ix hu (qv 7) (lA qI k_ rfl T.n_min qx (qv 8) (vV (b8 bf e_ rfl T.n_len eY (qv 7)) ao))) (jm (qv 3)) ph) au)) (qv 9) (nomark _))
   (aF (cT q_bl))
   cC)))))
   (ak (gw 1 (aG (i:=9) nd rfl (Or.inl rfl) (aM c__law_signs (hr.mono (by decide)) (aa (aM c_kinds_of (hr.mono (by decide)) (aa (gR (aa (qv 1) (aa (gK kh vd rfl T.n_list uJ (qv 2)) au))) au)) au))))
   (aF (cT (wU (kEq (K:=K) hu) ju (aM c__law_signs (hr.mono (by decide)) (aa (lD (aM c_kinds_of (hr.mono (by decide)) (aa (gR (aa (aW (qv 3) (qv 1)) (aa (aW (qv 4) (aM c__law_moved (hr.mono (by decide)) (aa (qv 2) (aa (qv 3) au)))) au))) au)) (jm (qv 3)) ph) au)) (qv 9) (nomark _)))))))))))) En
end
theorem us1 {us:List Value} (h:us.length=1):∃ a0,us=[a0]:=by
 cases us with
 | nil=>simp at h
 | cons a0 us =>
 cases us with
 | nil=>exact ⟨_,rfl⟩
 | cons b us=>simp at h
theorem us2 {us:List Value} (h:us.length=2):∃ a0 a1,us=[a0,a1]:=by
 cases us with
 | nil=>simp at h
 | cons a0 us =>
 cases us with
 | nil=>simp at h
 | cons a1 us =>
 cases us with
 | nil=>exact ⟨_,_,rfl⟩
 | cons b us=>simp at h
theorem us3 {us:List Value} (h:us.length=3):∃ a0 a1 a2,us=[a0,a1,a2]:=by
 cases us with
 | nil=>simp at h
 | cons a0 us =>
 cases us with
 | nil=>simp at h
 | cons a1 us =>
 cases us with
 | nil=>simp at h
 | cons a2 us =>
 cases us with
 | nil=>exact ⟨_,_,_,rfl⟩
 | cons b us=>simp at h
theorem us4 {us:List Value} (h:us.length=4):∃ a0 a1 a2 a3,us=[a0,a1,a2,a3]:=by
 cases us with
 | nil=>simp at h
 | cons a0 us =>
 cases us with
 | nil=>simp at h
 | cons a1 us =>
 cases us with
 | nil=>simp at h
 | cons a2 us =>
 cases us with
 | nil=>simp at h
 | cons a3 us =>
 cases us with
 | nil=>exact ⟨_,_,_,_,rfl⟩
 | cons b us=>simp at h
theorem all_mk {l:PySem.W.OpenLaw} {w:World} {K:PySem.W.Frag} {h:Heap} {mg:Str->Option Value} {fa:Addr} (X:K.In h) (G:h.Ns mainGlobals mg) (hfa:mg "law" = some (.ref fa))
  (a0:PySem.W.nsIn K mainGlobals "exits_of" = some (some (.ref f0))) (l0:K.lookup f0=some ⟨o0,d0,.func (PySem.W.fnOf "exits_of" "exits_of" (defArgs bY) (defBody bY) (defScope bY) .none v0 j0 p0 e0 r0 u0),t0⟩) (c0:PySem.W.codeIn K r0 "exits_of" = true) (k0:PySem.W.keepIn K (.ref f0)=true)
  (a1:PySem.W.nsIn K mainGlobals "key_of" = some (some (.ref f1))) (l1:K.lookup f1=some ⟨o1,d1,.func (PySem.W.fnOf "key_of" "key_of" (defArgs dB) (defBody dB) (defScope dB) .none v1 j1 p1 e1 r1 u1),t1⟩) (c1:PySem.W.codeIn K r1 "key_of" = true) (k1:PySem.W.keepIn K (.ref f1)=true)
  (a2:PySem.W.nsIn K mainGlobals "ranks_behind" = some (some (.ref f2))) (l2:K.lookup f2=some ⟨o2,d2,.func (PySem.W.fnOf "ranks_behind" "ranks_behind" (defArgs aP) (defBody aP) (defScope aP) .none v2 j2 p2 e2 r2 u2),t2⟩) (c2:PySem.W.codeIn K r2 "ranks_behind" = true) (k2:PySem.W.keepIn K (.ref f2)=true)
  (a3:PySem.W.nsIn K mainGlobals "rounds_of" = some (some (.ref f3))) (l3:K.lookup f3=some ⟨o3,d3,.func (PySem.W.fnOf "rounds_of" "rounds_of" (defArgs b7) (defBody b7) (defScope b7) .none v3 j3 p3 e3 r3 u3),t3⟩) (c3:PySem.W.codeIn K r3 "rounds_of" = true) (k3:PySem.W.keepIn K (.ref f3)=true)
  (a4:PySem.W.nsIn K mainGlobals "kinds_of" = some (some (.ref f4))) (l4:K.lookup f4=some ⟨o4,d4,.func (PySem.W.fnOf "kinds_of" "kinds_of" (defArgs cI) (defBody cI) (defScope cI) .none v4 j4 p4 e4 r4 u4),t4⟩) (c4:PySem.W.codeIn K r4 "kinds_of" = true) (k4:PySem.W.keepIn K (.ref f4)=true)
  (a5:PySem.W.nsIn K mainGlobals "_law_cell_at" = some (some (.ref f5))) (l5:K.lookup f5=some ⟨o5,d5,.func (PySem.W.fnOf "_law_cell_at" "_law_cell_at" (defArgs bh) (defBody bh) (defScope bh) .none v5 j5 p5 e5 r5 u5),t5⟩) (c5:PySem.W.codeIn K r5 "_law_cell_at" = true) (k5:PySem.W.keepIn K (.ref f5)=true)
  (a6:PySem.W.nsIn K mainGlobals "_law_digit" = some (some (.ref f6))) (l6:K.lookup f6=some ⟨o6,d6,.func (PySem.W.fnOf "_law_digit" "_law_digit" (defArgs bQ) (defBody bQ) (defScope bQ) .none v6 j6 p6 e6 r6 u6),t6⟩) (c6:PySem.W.codeIn K r6 "_law_digit" = true) (k6:PySem.W.keepIn K (.ref f6)=true)
  (a7:PySem.W.nsIn K mainGlobals "_law_menu" = some (some (.ref f7))) (l7:K.lookup f7=some ⟨o7,d7,.func (PySem.W.fnOf "_law_menu" "_law_menu" (defArgs aQ) (defBody aQ) (defScope aQ) .none v7 j7 p7 e7 r7 u7),t7⟩) (c7:PySem.W.codeIn K r7 "_law_menu" = true) (k7:PySem.W.keepIn K (.ref f7)=true)
  (a8:PySem.W.nsIn K mainGlobals "_law_draw" = some (some (.ref f8))) (l8:K.lookup f8=some ⟨o8,d8,.func (PySem.W.fnOf "_law_draw" "_law_draw" (defArgs bZ) (defBody bZ) (defScope bZ) .none v8 j8 p8 e8 r8 u8),t8⟩) (c8:PySem.W.codeIn K r8 "_law_draw" = true) (k8:PySem.W.keepIn K (.ref f8)=true)
  (a9:PySem.W.nsIn K mainGlobals "_law_machine" = some (some (.ref f9))) (l9:K.lookup f9=some ⟨o9,d9,.func (PySem.W.fnOf "_law_machine" "_law_machine" (defArgs a_) (defBody a_) (defScope a_) .none v9 j9 p9 e9 r9 u9),t9⟩) (c9:PySem.W.codeIn K r9 "_law_machine" = true) (k9:PySem.W.keepIn K (.ref f9)=true)
  (a10:PySem.W.nsIn K mainGlobals "_law_other" = some (some (.ref f10))) (l10:K.lookup f10=some ⟨o10,d10,.func (PySem.W.fnOf "_law_other" "_law_other" (defArgs bN) (defBody bN) (defScope bN) .none v10 j10 p10 e10 r10 u10),t10⟩) (c10:PySem.W.codeIn K r10 "_law_other" = true) (k10:PySem.W.keepIn K (.ref f10)=true)
  (a11:PySem.W.nsIn K mainGlobals "_law_moved" = some (some (.ref f11))) (l11:K.lookup f11=some ⟨o11,d11,.func (PySem.W.fnOf "_law_moved" "_law_moved" (defArgs bu) (defBody bu) (defScope bu) .none v11 j11 p11 e11 r11 u11),t11⟩) (c11:PySem.W.codeIn K r11 "_law_moved" = true) (k11:PySem.W.keepIn K (.ref f11)=true)
  (a12:PySem.W.nsIn K mainGlobals "_law_signs" = some (some (.ref f12))) (l12:K.lookup f12=some ⟨o12,d12,.func (PySem.W.fnOf "_law_signs" "_law_signs" (defArgs aZ) (defBody aZ) (defScope aZ) .none v12 j12 p12 e12 r12 u12),t12⟩) (c12:PySem.W.codeIn K r12 "_law_signs" = true) (k12:PySem.W.keepIn K (.ref f12)=true)
  (a13:PySem.W.nsIn K mainGlobals "law" = some (some (.ref f13))) (l13:K.lookup f13=some ⟨o13,d13,.func (PySem.W.fnOf "law" "law" (defArgs lF) (defBody lF) (defScope lF) .none v13 j13 p13 e13 r13 u13),t13⟩) (c13:PySem.W.codeIn K r13 "law" = true) (k13:PySem.W.keepIn K (.ref f13)=true)
  (n__law_other_here:PySem.W.nsIn K mainGlobals "_law_other_here" = some none)
  (n_int:PySem.W.nsIn K mainGlobals "int" = some none)
  (n_len:PySem.W.nsIn K mainGlobals "len" = some none)
  (n_list:PySem.W.nsIn K mainGlobals "list" = some none)
  (n_max:PySem.W.nsIn K mainGlobals "max" = some none)
  (n_min:PySem.W.nsIn K mainGlobals "min" = some none)
  (n_range:PySem.W.nsIn K mainGlobals "range" = some none)
  (n_set:PySem.W.nsIn K mainGlobals "set" = some none)
  (n_sorted:PySem.W.nsIn K mainGlobals "sorted" = some none)
  : ∃ fd:FuncData,(∀ (s:Shared) (v:Value),BindsTo s fd ⟨[v],[]⟩ [("_law_script",v)])/\∀ base:Heap,K.In base->base.Ns mainGlobals mg->FnOk l.prog w K mg base CX0 5 fa fd ["_law_script"] (az K sp_law):=by
 have e:=hfa.symm.trans (PySem.W.mg_of X G a13)
 cases e
 have T:Txt K mg:=⟨PySem.W.mg_none_of X G n__law_other_here,PySem.W.mg_none_of X G n_int,PySem.W.mg_none_of X G n_len,PySem.W.mg_none_of X G n_list,PySem.W.mg_none_of X G n_max,PySem.W.mg_none_of X G n_min,PySem.W.mg_none_of X G n_range,PySem.W.mg_none_of X G n_set,PySem.W.mg_none_of X G n_sorted⟩
 have F0:=fun_mk (st:=bY) l0 c0 k0
 have F1:=fun_mk (st:=dB) l1 c1 k1
 have F2:=fun_mk (st:=aP) l2 c2 k2
 have F3:=fun_mk (st:=b7) l3 c3 k3
 have F4:=fun_mk (st:=cI) l4 c4 k4
 have F5:=fun_mk (st:=bh) l5 c5 k5
 have F6:=fun_mk (st:=bQ) l6 c6 k6
 have F7:=fun_mk (st:=aQ) l7 c7 k7
 have F8:=fun_mk (st:=bZ) l8 c8 k8
 have F9:=fun_mk (st:=a_) l9 c9 k9
 have F10:=fun_mk (st:=bN) l10 c10 k10
 have F11:=fun_mk (st:=bu) l11 c11 k11
 have F12:=fun_mk (st:=aZ) l12 c12 k12
 have F13:=fun_mk (st:=lF) l13 c13 k13
 refine ⟨PySem.W.fnOf "law" "law" (defArgs lF) (defBody lF) (defScope lF) .none v13 j13 p13 e13 r13 u13,fun s v=>.of_eq rfl,fun base _ _=>?_⟩
 have C0:Cal l.prog w K mg base 1 "exits_of" ["m"] (az K bW):=F0.cal (PySem.W.mg_of X G a0) (oZ F0 T ) fun _ _ _ _ _ _ us hl=>by obtain ⟨_,rfl⟩:=us1 hl; rfl
 have C1:Cal l.prog w K mg base 1 "key_of" ["exits", "ranks", "state"] (az K dg):=F1.cal (PySem.W.mg_of X G a1) (uA F1 T ) fun _ _ _ _ _ _ us hl=>by obtain ⟨_,_,_,rfl⟩:=us3 hl; rfl
 have C5:Cal l.prog w K mg base 1 "_law_cell_at" ["_law_script", "_law_k"] (az K aB):=F5.cal (PySem.W.mg_of X G a5) (jq F5 T ) fun _ _ _ _ _ _ us hl=>by obtain ⟨_,_,rfl⟩:=us2 hl; rfl
 have C6:Cal l.prog w K mg base 1 "_law_digit" ["_law_cell", "_law_way", "_law_many"] (az K aq):=F6.cal (PySem.W.mg_of X G a6) (mC F6 T ) fun _ _ _ _ _ _ us hl=>by obtain ⟨_,_,_,rfl⟩:=us3 hl; rfl
 have C11:Cal l.prog w K mg base 1 "_law_moved" ["_law_steps", "_law_far"] (az K aV):=F11.cal (PySem.W.mg_of X G a11) (mH F11 T ) fun _ _ _ _ _ _ us hl=>by obtain ⟨_,_,rfl⟩:=us2 hl; rfl
 have C12:Cal l.prog w K mg base 1 "_law_signs" ["_law_ranks"] (az K aJ):=F12.cal (PySem.W.mg_of X G a12) (lu F12 T ) fun _ _ _ _ _ _ us hl=>by obtain ⟨_,rfl⟩:=us1 hl; rfl
 have C2:Cal l.prog w K mg base 2 "ranks_behind" ["exits", "ranks"] (az K aR):=F2.cal (PySem.W.mg_of X G a2) (iU F2 T C1) fun _ _ _ _ _ _ us hl=>by obtain ⟨_,_,rfl⟩:=us2 hl; rfl
 have C7:Cal l.prog w K mg base 2 "_law_menu" ["_law_cell"] (az K aY):=F7.cal (PySem.W.mg_of X G a7) (nY F7 T C6) fun _ _ _ _ _ _ us hl=>by obtain ⟨_,rfl⟩:=us1 hl; rfl
 have C8:Cal l.prog w K mg base 2 "_law_draw" ["_law_script", "_law_k", "_law_way", "_law_many"] (az K aD):=F8.cal (PySem.W.mg_of X G a8) (nG F8 T C5 C6) fun _ _ _ _ _ _ us hl=>by obtain ⟨_,_,_,_,rfl⟩:=us4 hl; rfl
 have C3:Cal l.prog w K mg base 3 "rounds_of" ["m"] (az K aO):=F3.cal (PySem.W.mg_of X G a3) (oN F3 T C0 C2) fun _ _ _ _ _ _ us hl=>by obtain ⟨_,rfl⟩:=us1 hl; rfl
 have C9:Cal l.prog w K mg base 3 "_law_machine" ["_law_script", "_law_most"] (az K aX):=F9.cal (PySem.W.mg_of X G a9) (jr F9 T C5 C6 C7 C8) fun _ _ _ _ _ _ us hl=>by obtain ⟨_,_,rfl⟩:=us2 hl; rfl
 have C10:Cal l.prog w K mg base 3 "_law_other" ["_law_script"] (az K bC):=F10.cal (PySem.W.mg_of X G a10) (lQ F10 T C7 C5 C8) fun _ _ _ _ _ _ us hl=>by obtain ⟨_,rfl⟩:=us1 hl; rfl
 have C4:Cal l.prog w K mg base 4 "kinds_of" ["m"] (az K bK):=F4.cal (PySem.W.mg_of X G a4) (pR F4 T C3) fun _ _ _ _ _ _ us hl=>by obtain ⟨_,rfl⟩:=us1 hl; rfl
 exact ok_law F13 T C9 C10 C3 C12 C4 C11
theorem walk {l:PySem.W.OpenLaw} {q:Program} {loose:List Str} {XP:(Str->Option Value)->Heap->Prop} {YP:World->Heap->Prop} {d:DefRec} {K:Params->PySem.W.Frag} (hn:l.most=some 63) (hdf:d.params.defaults=[])
  (hY:∀ (w:World) (h:Heap),YP w h->(K w.params).In h)
  (F:∀ (w:World) (mg:Str->Option Value) (fa:Addr) (h:Heap),(K w.params).In h->h.Ns mainGlobals mg->mg d.name=some (.ref fa) ->
   ∃ fd:FuncData,(∀ (s:Shared) (u:Value),BindsTo s fd ⟨[u],[]⟩ [("_law_script",u)])/\∀ base:Heap,(K w.params).In base->base.Ns mainGlobals mg->FnOk l.prog w (K w.params) mg base CX0 5 fa fd ["_law_script"] (az (K w.params) sp_law)) :
  PySem.W.WalkO q loose XP YP l.row.toRowW d [] (fun f vs=>PySem.call f vs) :=
 L2.walk_of (n:=63) (k:=5) (x := "_law_script") (CX:=fun _=>CX0) (sp:=fun w=>az (K w.params) sp_law) hn (by decide) hdf ⟨rfl,by decide,by decide⟩ hY F (fun w H a ns hl hO hS=>wV hl hS) fun _ _ _ _ _ z=>z
end L2.Q.Law
open PySem PySem.W PyProof.Rows
set_option maxRecDepth 100000 in
set_option maxHeartbeats 0 in
theorem PySem.Challenge.cw_kinlook_k35_whole_order_stays_holds : PySem.Challenge.rw_kinlook_k35_whole_order_stays.Holds := by
 w_on; o_law; k_head; (case hw=>w_witness2)
 k_fill
 refine L2.Q.Law.walk (l:=PySem.Challenge.rw_kinlook_k35_whole_order_stays) rfl rfl (fun w h Y=>PySem.W.kIn_of Y) ?F
 case F =>
  intro w mg fa h KX G hmg
  refine' L2.Q.Law.all_mk KX G hmg ?a0 ?l0 ?c0 ?k0 ?a1 ?l1 ?c1 ?k1 ?a2 ?l2 ?c2 ?k2 ?a3 ?l3 ?c3 ?k3 ?a4 ?l4 ?c4 ?k4 ?a5 ?l5 ?c5 ?k5 ?a6 ?l6 ?c6 ?k6 ?a7 ?l7 ?c7 ?k7 ?a8 ?l8 ?c8 ?k8 ?a9 ?l9 ?c9 ?k9 ?a10 ?l10 ?c10 ?k10 ?a11 ?l11 ?c11 ?k11 ?a12 ?l12 ?c12 ?k12 ?a13 ?l13 ?c13 ?k13 ?n__law_other_here ?n_int ?n_len ?n_list ?n_max ?n_min ?n_range ?n_set ?n_sorted
  (case a0=>k_is)
  (case l0=>k_is)
  (case c0=>k_is)
  (case k0=>k_is)
  (case a1=>k_is)
  (case l1=>k_is)
  (case c1=>k_is)
  (case k1=>k_is)
  (case a2=>k_is)
  (case l2=>k_is)
  (case c2=>k_is)
  (case k2=>k_is)
  (case a3=>k_is)
  (case l3=>k_is)
  (case c3=>k_is)
  (case k3=>k_is)
  (case a4=>k_is)
  (case l4=>k_is)
  (case c4=>k_is)
  (case k4=>k_is)
  (case a5=>k_is)
  (case l5=>k_is)
  (case c5=>k_is)
  (case k5=>k_is)
  (case a6=>k_is)
  (case l6=>k_is)
  (case c6=>k_is)
  (case k6=>k_is)
  (case a7=>k_is)
  (case l7=>k_is)
  (case c7=>k_is)
  (case k7=>k_is)
  (case a8=>k_is)
  (case l8=>k_is)
  (case c8=>k_is)
  (case k8=>k_is)
  (case a9=>k_is)
  (case l9=>k_is)
  (case c9=>k_is)
  (case k9=>k_is)
  (case a10=>k_is)
  (case l10=>k_is)
  (case c10=>k_is)
  (case k10=>k_is)
  (case a11=>k_is)
  (case l11=>k_is)
  (case c11=>k_is)
  (case k11=>k_is)
  (case a12=>k_is)
  (case l12=>k_is)
  (case c12=>k_is)
  (case k12=>k_is)
  (case a13=>k_is)
  (case l13=>k_is)
  (case c13=>k_is)
  (case k13=>k_is)
  (case n__law_other_here=>k_is)
  (case n_int=>k_is)
  (case n_len=>k_is)
  (case n_list=>k_is)
  (case n_max=>k_is)
  (case n_min=>k_is)
  (case n_range=>k_is)
  (case n_set=>k_is)
  (case n_sorted=>k_is)
